import Derived.Test.YtjepeeopjjnglabQN16
/-
  The document's disk: act.
-/
namespace Go.Proofs.Ytjepeeopjjnglab
open Go Go.RowKit Go.ChangeShapes
open Wb
open Rd
namespace Rd
/-- a state's value -/
def StM (ok : Nat → Prop) (w : World) (R : RS) (v : Value) : Prop := ∃ xs tv nv lv cv, v = .agg #[tv, nv, lv, cv] ∧ R.th = xs.map (·.2) ∧ SM ok w xs R.nm R.la R.ch tv nv lv cv
section
variable {ok ok2 : Nat → Prop} {w w' : World} {xs : List (Value × Th)} {nm la : Dk.Nm} {ch : List RCh} {tv nv lv cv : Value}
theorem Rw.lo {α : Type} {c : Nat} {t : TypeId} {en : α → List Value} {v : Value} {ys : List α} (h : Rw ok w t c en v ys) : Rw (fun q => ok q ∧ q < w.heap.size) w t c en v ys := ⟨h.row, fun q e => ⟨h.ok q e, (World.ownsRow.lt h.row q e).2⟩⟩
theorem SM.lo (h : SM ok w xs nm la ch tv nv lv cv) : SM (fun q => ok q ∧ q < w.heap.size) w xs nm la ch tv nv lv cv := ⟨h.rt.lo, fun x hx => ⟨(h.od x hx).1, fun q e => ⟨(h.od x hx).2 q e, (World.ownsRow.lt (h.od x hx).1.row q e).2⟩⟩, h.rn.lo, h.rl.lo, h.rc.lo⟩
theorem SM.slice (h : SM ok w xs nm la ch tv nv lv cv) : ∀ y ∈ xs, ∃ a n c, y.1 = .slice a n c := fun y hy => by
  obtain ⟨a, c, e, -⟩ := Mg.row_shape (h.od y hy).1.row
  exact ⟨a, _, c, e⟩
theorem SM.other (h : SM ok w xs nm la ch tv nv lv cv) {nm' la' : Dk.Nm} {ch' : List RCh} {nv' lv' cv' : Value} (h1 : En ok w nv' nm') (h2 : En ok w lv' la') (h3 : Rw ok w 137 4 enG cv' ch') : SM ok w xs nm' la' ch' tv nv' lv' cv' := ⟨h.rt, h.od, h1, h2, h3⟩
theorem od_snoc (h : ∀ x ∈ xs, Own 0 w x.1 x.2.data ∧ ∀ q, x.1.ownBlock = some q → ok q) (v : Value) (t : Th) (h1 : Own 0 w v t.data) (h2 : ∀ q, v.ownBlock = some q → ok q) : ∀ x ∈ xs ++ [(v, t)], Own 0 w x.1 x.2.data ∧ ∀ q, x.1.ownBlock = some q → ok q := fun x hx => by
  rcases List.mem_append.1 hx with e | e
  · exact h x e
  · rw [List.mem_singleton.1 e]
    exact ⟨h1, h2⟩
theorem od_set (h : ∀ x ∈ xs, Own 0 w x.1 x.2.data ∧ ∀ q, x.1.ownBlock = some q → ok q) (i : Nat) (v : Value) (t : Th) (h1 : Own 0 w v t.data) (h2 : ∀ q, v.ownBlock = some q → ok q) : ∀ x ∈ xs.set i (v, t), Own 0 w x.1 x.2.data ∧ ∀ q, x.1.ownBlock = some q → ok q := fun x hx => by
  rcases List.mem_or_eq_of_mem_set hx with e | e
  · exact h x e
  · rw [e]
    exact ⟨h1, h2⟩
theorem lsx_od (h : ∀ x ∈ xs, Own 0 w x.1 x.2.data ∧ ∀ q, x.1.ownBlock = some q → ok q) : ∀ x ∈ lsx xs nm, Own 0 w x.1 x.2.data ∧ ∀ q, x.1.ownBlock = some q → ok q := fun x hx => by
  unfold lsx at hx
  obtain ⟨i, hi, e⟩ := List.mem_mapIdx.1 hx
  have h9 := h _ (List.getElem_mem hi)
  rw [← e]
  split
  · exact h9
  · exact ⟨Own.nil _ _, fun q e => by cases e⟩
theorem st_fin {Wz : World} {p2 p4 p7 : Nat} {R : RS} (h : SM ok2 w xs nm la ch tv nv lv cv) (far : ∀ q, q ≠ p2 → q ≠ p4 → q ≠ p7 → Wz.heap[q]? = w.heap[q]?) (h2 : ∀ q, ok2 q → q ≠ p2 ∧ q ≠ p4 ∧ q ≠ p7) (hm : ∀ q, ok2 q → ok q) (hR : R.th = xs.map (·.2) ∧ R.nm = nm ∧ R.la = la ∧ R.ch = ch) : StM ok Wz R (.agg #[tv, nv, lv, cv]) := by
  obtain ⟨r1, rfl, rfl, rfl⟩ := hR
  exact ⟨xs, tv, nv, lv, cv, rfl, r1, (h.blk fun q hq _ => far q (h2 q hq).1 (h2 q hq).2.1 (h2 q hq).2.2).mono hm⟩
end
theorem row_cellx {α : Type} {en : α → List Value} {c B : Nat} {w : World} {t : TypeId} {xs : List α} (hen : ∀ x, (en x).length = c) {b k : Nat} (h : w.ownsRow B t c (.slice (some ⟨b, 0, none⟩) xs.length k) xs.length (xs.flatMap en)) (j : Nat) (x : α) (hx : xs[j]? = some x) (i : Nat) (u : Value) (hu : (en x)[i]? = some u) : w.cell? ⟨b, j * c + i, none⟩ = some u := by
  obtain ⟨hj, e⟩ := List.getElem?_eq_some_iff.1 hx
  have hi : i < c := by
    rw [← hen x]
    exact (List.getElem?_eq_some_iff.1 hu).1
  rw [row_cell hen h j hj i hi, e, hu]
theorem into_min (ts m : Nat) : (if (ts : Int) < 0 then 0 else if (ts : Int) > (m : Int) then (m : Int) else (ts : Int)) = ((min ts m : Nat) : Int) := by
  rw [if_neg (by omega)]
  split <;> omega
theorem ract_k (R : RS) (o : Rop) : (o.k = 1 → ract R o = nmd { R with th := R.th ++ [⟨[], 0, true⟩] } ⟨1, o.a.data.toList, [], R.th.length⟩) ∧ (o.k = 2 → ract R o = { R with th := R.th.set (thn R o) ⟨(tha R o).data ++ o.data, (tha R o).syn, (tha R o).there⟩ }) ∧ (o.k = 3 → ract R o = { R with th := R.th.set (thn R o) ⟨(tha R o).data, (tha R o).data.length, (tha R o).there⟩ }) ∧ (o.k = 4 → ract R o = { R with th := R.th.set (thn R o) ⟨(tha R o).data.take o.n.toNat, min (tha R o).syn o.n.toNat, (tha R o).there⟩ }) ∧ (o.k = 5 → ract R o = nmd R ⟨2, o.a.data.toList, o.b.data.toList, 0⟩) ∧ (o.k = 6 → ract R o = nmd R ⟨3, o.a.data.toList, [], 0⟩) ∧ (o.k = 7 → ract R o = lsg R) := by
  unfold ract
  refine ⟨fun k => ?_, fun k => ?_, fun k => ?_, fun k => ?_, fun k => ?_, fun k => ?_, fun k => ?_⟩ <;> rw [k] <;> rfl
end Rd
set_option maxRecDepth 100000 in
set_option maxHeartbeats 32000000 in
theorem rkact_any (ok : Nat → Prop) (R : RS) (v : Value) (o : Rop) (da : Option Addr) (dc : Nat) (w : World) (h : StM ok w R v) (hk : 1 ≤ o.k ∧ o.k ≤ 7) (hr : rref R o = 0) (hd : Bs w (.slice da o.data.length dc) o.data) (hbn : R.nm.length ≤ 300000000 ∧ R.ch.length ≤ 300000000 ∧ R.th.length ≤ 300000000) (hok : okl R.th R.nm) (hln : ∀ t ∈ R.th, t.data.length ≤ 1000000000) (hdl : o.data.length ≤ 1000000000) :
    Calls Try.prog 77 #[v, .agg #[.int .i64 o.k, .string o.a, .string o.b, .int .i64 o.n, .slice da o.data.length dc]] w fun e w' => ∃ v', e = .returned v' ∧ StM (fun q => ok q ∨ w.heap.size ≤ q) w' (ract R o) v' ∧ Below w.heap.size w w' := by
  obtain ⟨xs, tv, nv, lv, cv, rfl, hxs, hS⟩ := h
  obtain ⟨sa, hsa⟩ : ∃ s : List UInt8, o.a = ⟨s.toArray⟩ := ⟨o.a.data.toList, by simp⟩
  obtain ⟨sb, hsb⟩ : ∃ s : List UInt8, o.b = ⟨s.toArray⟩ := ⟨o.b.data.toList, by simp⟩
  have ea : o.a.data.toList = sa := by rw [hsa]
  have eb : o.b.data.toList = sb := by rw [hsb]
  obtain ⟨k1, k2, k3, k4, k5, k6, k7⟩ := ract_k R o
  have hz : o.k ≠ 7 → _ := rref_zero hr
  rw [ea] at k1 k5 k6 hz
  rw [eb] at k5 hz
  have HXS : Hid (R.th = xs.map (·.2)) := hxs
  have hxl : R.th.length = xs.length := by rw [hxs, List.length_map]
  have HXL : Hid (R.th.length = xs.length) := hxl
  have HBN : Hid (R.nm.length ≤ 300000000 ∧ R.ch.length ≤ 300000000 ∧ xs.length ≤ 300000000) := ⟨hbn.1, hbn.2.1, by rw [← hxl]; exact hbn.2.2⟩
  have HOKL : Hid (okl R.th R.nm) := hok
  have HLN : Hid (∀ t ∈ R.th, t.data.length ≤ 1000000000) := hln
  have HV0 : Hid (SM ok w xs R.nm R.la R.ch tv nv lv cv) := hS
  have HTN : Hid (thn R o = (Dk.get R.nm sa).getD 0) := by
    show thn R o = _
    unfold thn
    rw [ea]
  obtain ⟨a1, c1, e1, h1, h2, h3⟩ := row_at hS.rt.row
  subst e1
  obtain ⟨a2, c2, e2, n1, n2, n3⟩ := row_at hS.rn.row
  subst e2
  obtain ⟨a3, c3, rfl⟩ := rw_slice hS.rl
  obtain ⟨a4, c4, rfl⟩ := rw_slice hS.rc
  unfold maxLen at h2 n2
  rw [hsa, hsb]
  have HDW : Hid (Bs w (.slice da o.data.length dc) o.data) := hd
  have HDL : Hid (o.data.length ≤ 1000000000) := hdl
  have HTA : Hid (tha R o = R.th.getD (thn R o) ⟨[], 0, false⟩) := rfl
  obtain ⟨K, hK⟩ : ∃ K, K = o.k := ⟨_, rfl⟩
  obtain ⟨n, hn⟩ : ∃ n, n = o.n := ⟨_, rfl⟩
  obtain ⟨dl, hdl2⟩ : ∃ d, d = o.data := ⟨_, rfl⟩
  rw [← hK] at k1 k2 k3 k4 k5 k6 k7 hk hz ⊢
  rw [← hn] at k4 hz ⊢
  rw [← hdl2] at k2 hz HDW HDL ⊢
  have HKK : Hid ((K = 1 → _) ∧ (K = 2 → _) ∧ (K = 3 → _) ∧ (K = 4 → _) ∧ (K = 5 → _) ∧ (K = 6 → _) ∧ (K = 7 → _)) := ⟨k1, k2, k3, k4, k5, k6, k7⟩
  have HZ : Hid (K ≠ 7 → _) := hz
  clear k1 k2 k3 k4 k5 k6 k7 hz hK hn hdl2 ea eb hsa hsb hS hbn hok hln hd hdl hxs hxl hr
  have hb3 := box3 w [.slice a1 xs.length c1, .slice a2 R.nm.length c2, .slice a3 R.la.length c3, .slice a4 R.ch.length c4] [.int .i64 K, .string ⟨sa.toArray⟩, .string ⟨sb.toArray⟩, .int .i64 n, .slice da dl.length dc] [.slice none 0 0, .slice none 0 0, .slice none 0 0, .slice none 0 0] 52 121 52
  go_enter Try.func77, Try.ntmps77
  go_upto_region 2 with fail
  obtain ⟨W3, hW3⟩ : ∃ W, W = ((w.alloc (.cells #[.slice a1 xs.length c1, .slice a2 R.nm.length c2, .slice a3 R.la.length c3, .slice a4 R.ch.length c4] 52)).alloc (.cells #[.int .i64 K, .string ⟨sa.toArray⟩, .string ⟨sb.toArray⟩, .int .i64 n, .slice da dl.length dc] 121)).alloc (.cells #[.slice none 0 0, .slice none 0 0, .slice none 0 0, .slice none 0 0] 52) := ⟨_, rfl⟩
  rw [← hW3]
  obtain ⟨p2, hp2⟩ : ∃ p, p = w.heap.size := ⟨_, rfl⟩
  obtain ⟨p3, hp3⟩ : ∃ p, p = w.heap.size + 1 := ⟨_, rfl⟩
  obtain ⟨p4, hp4⟩ : ∃ p, p = w.heap.size + 1 + 1 := ⟨_, rfl⟩
  rw [← hp4, ← hp3, ← hp2]
  have HB3 : Hid (LB W3 p2 52 [.slice a1 xs.length c1, .slice a2 R.nm.length c2, .slice a3 R.la.length c3, .slice a4 R.ch.length c4] ∧ LB W3 p3 121 [.int .i64 K, .string ⟨sa.toArray⟩, .string ⟨sb.toArray⟩, .int .i64 n, .slice da dl.length dc] ∧ LB W3 p4 52 [.slice none 0 0, .slice none 0 0, .slice none 0 0, .slice none 0 0] ∧ Below w.heap.size w W3) := by
    rw [hp2, hp3, hp4, hW3]
    exact hb3
  have HPP : Hid (w.heap.size ≤ p2 ∧ p2 < p3 ∧ p3 < p4 ∧ p4 < W3.heap.size) := ⟨by omega, by omega, by omega, HB3.out.2.2.1.lt⟩
  clear hb3 hW3 hp2 hp3 hp4
  have r1 := HB3.out.1.cell 1 _ rfl
  have q1 := HB3.out.2.1.cell 1 _ rfl
  have B7 := up0 W3 (.cells #[.slice none 0 0, .int .i64 0, .bool false] 98)
  have l7 := lb_new W3 [.slice none 0 0, .int .i64 0, .bool false] 98
  cases hg : Dk.get R.nm sa with
  | none =>
    have HG : Hid (Dk.get R.nm sa = none) := hg
    have HC : Hid (Calls Try.prog 88 #[.slice a2 R.nm.length c2, .string ⟨sa.toArray⟩] W3 fun e w' => e = .returned (.int .i64 (-1)) ∧ w' = W3) := (rkfind_any ok _ R.nm sa W3 (HV0.out.kept HB3.out.2.2.2).rn).mono fun e w' ⟨r, h1, h2, h3⟩ => by
      rcases h2 with ⟨rfl, -⟩ | ⟨j, hj, -, -, hg2⟩
      · exact ⟨h1, h3⟩
      · rw [HG.out] at hg2
        cases hg2
    clear hg
    go_wp2_with fail
    refine HC.out.mono ?_
    rintro e Wf ⟨rfl, rfl⟩
    clear HC r1 q1
    go_upto_region 8 with fail
    obtain ⟨W8, hW8⟩ : ∃ W, W = Wf.alloc (.cells #[.slice none 0 0, .int .i64 0, .bool false] 98) := ⟨_, rfl⟩
    obtain ⟨p7, hp7⟩ : ∃ p, p = Wf.heap.size := ⟨_, rfl⟩
    rw [← hW8, ← hp7]
    have B8 : Hid (Below Wf.heap.size Wf W8) := by rw [hW8]; exact B7
    have L7 : Hid (LB W8 p7 98 [.slice none 0 0, .int .i64 0, .bool false]) := by rw [hW8, hp7]; exact l7
    have HP7 : Hid (p4 < p7) := by rw [hp7]; exact HPP.out.2.2.2
    clear B7 l7 hW8 hp7
    have HB8 : Hid (Below w.heap.size w W8) := andThen HB3.out.2.2.2 B8.out
    have HL8 : Hid (LB W8 p2 52 [.slice a1 xs.length c1, .slice a2 R.nm.length c2, .slice a3 R.la.length c3, .slice a4 R.ch.length c4] ∧ LB W8 p3 121 [.int .i64 K, .string ⟨sa.toArray⟩, .string ⟨sb.toArray⟩, .int .i64 n, .slice da dl.length dc] ∧ LB W8 p4 52 [.slice none 0 0, .slice none 0 0, .slice none 0 0, .slice none 0 0] ∧ LB W8 p7 98 [.slice none 0 0, .int .i64 0, .bool false]) := ⟨HB3.out.1.kept B8.out, HB3.out.2.1.kept B8.out, HB3.out.2.2.1.kept B8.out, L7.out⟩
    obtain ⟨ok2, hok2⟩ : ∃ f : Nat → Prop, f = fun q => (ok q ∧ q < w.heap.size) ∨ W8.heap.size ≤ q := ⟨_, rfl⟩
    have HOK2 : Hid (∀ q, ok2 q → q ≠ p2 ∧ q ≠ p4 ∧ q ≠ p7) := fun q hq => by
      rw [hok2] at hq
      have k2 := HL8.out.1.lt
      have k4 := HL8.out.2.2.1.lt
      have k7 := HL8.out.2.2.2.lt
      have kp := HPP.out
      have k9 := HP7.out
      rcases hq with ⟨-, h9⟩ | h9
      · exact ⟨by omega, by omega, by omega⟩
      · exact ⟨by omega, by omega, by omega⟩
    have HLOW : Hid (∀ q, ok q ∧ q < w.heap.size → ok2 q) := fun q hq => by rw [hok2]; exact .inl hq
    have HNW : Hid (∀ q, W8.heap.size ≤ q → ok2 q) := fun q hq => by rw [hok2]; exact .inr hq
    have HMO : Hid (∀ q, ok2 q → ok q ∨ w.heap.size ≤ q) := fun q hq => by
      rw [hok2] at hq
      rcases hq with ⟨h9, -⟩ | h9
      · exact .inl h9
      · exact .inr (Nat.le_trans HB8.out.size h9)
    have HS8 : Hid (SM ok2 W8 xs R.nm R.la R.ch (.slice a1 xs.length c1) (.slice a2 R.nm.length c2) (.slice a3 R.la.length c3) (.slice a4 R.ch.length c4)) := ((HV0.out.lo).mono fun q hq => by rw [hok2]; exact .inl hq).kept HB8.out
    have HNE : Hid (p4 ≠ p2 ∧ p4 ≠ p7) := by
      have kp := HPP.out
      have k9 := HP7.out
      exact ⟨by omega, by omega⟩
    have HN27 : Hid (p2 ≠ p7) := by
      have kp := HPP.out
      have k9 := HP7.out
      show p2 ≠ p7
      omega
    have HN37 : Hid (p3 ≠ p7) := by
      have kp := HPP.out
      have k9 := HP7.out
      show p3 ≠ p7
      omega
    have HPB : Hid (w.heap.size ≤ p2 ∧ w.heap.size ≤ p4 ∧ w.heap.size ≤ p7) := by
      have kp := HPP.out
      have k9 := HP7.out
      exact ⟨by omega, by omega, by omega⟩
    have r0 := HL8.out.1.cell 0 _ rfl
    have r1 := HL8.out.1.cell 1 _ rfl
    have r2 := HL8.out.1.cell 2 _ rfl
    have r3 := HL8.out.1.cell 3 _ rfl
    have q0 := HL8.out.2.1.cell 0 _ rfl
    have q1 := HL8.out.2.1.cell 1 _ rfl
    have q2 := HL8.out.2.1.cell 2 _ rfl
    have q3 := HL8.out.2.1.cell 3 _ rfl
    have q4 := HL8.out.2.1.cell 4 _ rfl
    have t0 := HL8.out.2.2.2.cell 0 _ rfl
    have t1 := HL8.out.2.2.2.cell 1 _ rfl
    have t2 := HL8.out.2.2.2.cell 2 _ rfl
    clear hok2
    by_cases K1 : K = 1
    · have HR : Hid (ract R o = _) := HKK.out.1 K1
      clear HKK HZ
      subst K1
      obtain ⟨v9, W9, hr9, g9, -, b9⟩ := row_appR (xs := ([] : List (Value × Th))) tiT enT_len (World.ownsRow_nil W8 W8.heap.size 98 3) HS8.out.rt.row (fun y hy => enT_one (HS8.out.slice y hy)) (by have := HBN.out.2.2; simp; omega) (Nat.le_refl _) 48
      have b1 := up0 W9 (.cells #[.slice none 0 0, .int .i64 0, .bool true] 98)
      obtain ⟨vt, Wt, hrt, gt, -, bt⟩ := row_app1 (xs := xs) tiT enT_len (Mg.row_kept g9 b1) (.slice none 0 0, ⟨[], 0, true⟩) W9.heap.size 1 (enT_one ⟨_, _, _, rfl⟩) (lb_new W9 [.slice none 0 0, .int .i64 0, .bool true] 98) (by have := HBN.out.2.2; omega) (Nat.le_trans b9.size b1.size) 48
      obtain ⟨ta, tc, e9, -⟩ := row_at gt
      rw [List.length_append, List.length_singleton] at e9
      subst e9
      have HBT : Hid (Below W8.heap.size W8 Wt) := (andThen b9 b1).trans bt
      have HST : Hid (SM ok2 Wt (xs ++ [(.slice none 0 0, ⟨[], 0, true⟩)]) R.nm R.la R.ch (.slice ta (xs.length + 1) tc) (.slice a2 R.nm.length c2) (.slice a3 R.la.length c3) (.slice a4 R.ch.length c4)) := ⟨(Rw.of gt).mono HNW.out, od_snoc (HS8.out.kept HBT.out).od (.slice none 0 0) _ (Own.nil _ _) (fun q e => by cases e), (HS8.out.kept HBT.out).rn, (HS8.out.kept HBT.out).rl, (HS8.out.kept HBT.out).rc⟩
      have LT2 := HL8.out.1.kept HBT.out
      have LT3 := HL8.out.2.1.kept HBT.out
      have u0 := LT2.cell 0 _ rfl
      have u1 := LT2.cell 1 _ rfl
      have u2 := LT2.cell 2 _ rfl
      have u3 := LT2.cell 3 _ rfl
      have fu := LT2.free 0
      have w1 := LT3.cell 1 _ rfl
      clear LT2 LT3 g9 gt b1 b9 bt
      have HWS : Hid (Below W8.heap.size W8 (Wt.setCell ⟨p2, 0, none⟩ (.slice ta (xs.length + 1) tc)) → False) ∨ True := .inr trivial
      have HSW : Hid (SM ok2 (Wt.setCell ⟨p2, 0, none⟩ (.slice ta (xs.length + 1) tc)) (xs ++ [(.slice none 0 0, ⟨[], 0, true⟩)]) R.nm R.la R.ch (.slice ta (xs.length + 1) tc) (.slice a2 R.nm.length c2) (.slice a3 R.la.length c3) (.slice a4 R.ch.length c4)) := HST.out.blk fun q hq _ => set_other _ _ _ _ (HOK2.out q hq).1
      have HSZ : Hid (W8.heap.size ≤ (Wt.setCell ⟨p2, 0, none⟩ (.slice ta (xs.length + 1) tc)).heap.size) := by
        show W8.heap.size ≤ _
        rw [size_set1]
        exact HBT.out.size
      have hwx : IntKind.i64.wrap (((xs.length + 1 : Nat) : Int) - 1) = (xs.length : Int) := by
        rw [show ((xs.length + 1 : Nat) : Int) - 1 = (xs.length : Int) by omega]
        exact IntWalk.i64_in _ (by have := HBN.out.2.2; omega)
      have hwy : IntKind.i64.wrap ((xs.length : Int) + 1 - 1) = (xs.length : Int) := by
        rw [show (xs.length : Int) + 1 - 1 = (xs.length : Int) by omega]
        exact IntWalk.i64_in _ (by have := HBN.out.2.2; omega)
      have HC : Hid (Calls Try.prog 89 #[.agg #[.slice ta (xs.length + 1) tc, .slice a2 R.nm.length c2, .slice a3 R.la.length c3, .slice a4 R.ch.length c4], .agg #[.int .i64 1, .string ⟨sa.toArray⟩, .string ⟨#[]⟩, .int .i64 (xs.length : Int)]] (Wt.setCell ⟨p2, 0, none⟩ (.slice ta (xs.length + 1) tc)) fun e w' => ∃ na X1 nc ka X2 kc, e = .returned (.agg #[.slice ta (xs.length + 1) tc, .slice na X1 nc, .slice a3 R.la.length c3, .slice ka X2 kc]) ∧ SM ok2 w' (xs ++ [(.slice none 0 0, ⟨[], 0, true⟩)]) (chd R.nm ⟨1, sa, [], xs.length⟩) R.la (R.ch ++ [(⟨1, sa, [], xs.length⟩ : RCh)]) (.slice ta (xs.length + 1) tc) (.slice na X1 nc) (.slice a3 R.la.length c3) (.slice ka X2 kc) ∧ LB w' p4 52 [.slice none 0 0, .slice none 0 0, .slice none 0 0, .slice none 0 0] ∧ Below w.heap.size w w') := (rknamed_any _ _ R.nm R.la R.ch _ _ _ _ ⟨1, sa, [], xs.length⟩ _ HSW.out HBN.out.1 HBN.out.2.1 (fun e => by cases e)).mono fun e w' ⟨nv', cv', h1, h2, h3, h4⟩ => by
        obtain ⟨na, nc, rfl⟩ := rw_slice h2
        obtain ⟨ka, kc, rfl⟩ := rw_slice h3
        refine ⟨na, _, nc, ka, _, kc, h1, (HSW.out.kept h4).other (h2.mono fun q hq => HNW.out q (Nat.le_trans HSZ.out hq)) ((HSW.out.kept h4).rl) (h3.mono fun q hq => HNW.out q (Nat.le_trans HSZ.out hq)), ?_, ?_⟩
        · exact ((HL8.out.2.2.1.kept HBT.out).other _ _ HNE.out.1).kept h4
        · exact ((andThen HB8.out HBT.out).setCell (p := ⟨p2, 0, none⟩) HPB.out.1 _).trans (h4.mono (Nat.le_trans HB8.out.size HSZ.out))
      go_wp2_with (at_builtin; first | refine wpList_appRun rfl (.tmp 34) (.tmp 36) 48 rfl rfl rfl hr9 ?_ | refine wpList_appRun rfl (.tmp 38) (.tmp 40) 48 rfl rfl rfl hrt ?_)
      refine HC.out.mono ?_
      rintro e Wn ⟨na, X1, nc, ka, X2, kc, rfl, s9, l9, b9⟩
      have H9 : Hid (SM ok2 Wn (xs ++ [(.slice none 0 0, ⟨[], 0, true⟩)]) (chd R.nm ⟨1, sa, [], xs.length⟩) R.la (R.ch ++ [(⟨1, sa, [], xs.length⟩ : RCh)]) (.slice ta (xs.length + 1) tc) (.slice na X1 nc) (.slice a3 R.la.length c3) (.slice ka X2 kc) ∧ LB Wn p4 52 [.slice none 0 0, .slice none 0 0, .slice none 0 0, .slice none 0 0] ∧ Below w.heap.size w Wn) := ⟨s9, l9, b9⟩
      clear s9 b9 HC r0 r1 r2 r3 q0 q1 q2 q3 q4 t0 t1 t2 hr9 hrt u0 u1 u2 u3 w1 fu
      have z0 := l9.cell 0 _ rfl
      have z1 := l9.cell 1 _ rfl
      have z2 := l9.cell 2 _ rfl
      have z3 := l9.cell 3 _ rfl
      have g0 := l9.free 0
      have g1 := l9.free 1
      have g2 := l9.free 2
      have g3 := l9.free 3
      clear l9
      go_wp2_with fail
      have LZ := ((((H9.out.2.1.set 0 (.slice ta (xs.length + 1) tc)).set 1 (.slice na X1 nc)).set 2 (.slice a3 R.la.length c3)).set 3 (.slice ka X2 kc))
      refine bodyPost_ret (results_cell_mid rfl _ _ p4 [(.slice ta (xs.length + 1) tc), (.slice na X1 nc), (.slice a3 R.la.length c3), (.slice ka X2 kc)] _ rfl LZ.range Try.underlying52 rfl (by kernel_rfl)) rfl ?_
      have far : ∀ q, q ≠ p2 → q ≠ p4 → q ≠ p7 → ((((Wn.setCell ⟨p4, 0, none⟩ (.slice ta (xs.length + 1) tc)).setCell ⟨p4, 1, none⟩ (.slice na X1 nc)).setCell ⟨p4, 2, none⟩ (.slice a3 R.la.length c3)).setCell ⟨p4, 3, none⟩ (.slice ka X2 kc)).heap[q]? = Wn.heap[q]? := fun q h2 h4 h7 => by
        rw [set_other _ _ _ _ h4, set_other _ _ _ _ h4, set_other _ _ _ _ h4, set_other _ _ _ _ h4]
      have bl := ((((H9.out.2.2.setCell (p := ⟨p4, 0, none⟩) HPB.out.2.1 (.slice ta (xs.length + 1) tc)).setCell (p := ⟨p4, 1, none⟩) HPB.out.2.1 (.slice na X1 nc)).setCell (p := ⟨p4, 2, none⟩) HPB.out.2.1 (.slice a3 R.la.length c3)).setCell (p := ⟨p4, 3, none⟩) HPB.out.2.1 (.slice ka X2 kc))
      exact ⟨_, rfl, st_fin H9.out.1 far HOK2.out HMO.out (by rw [HR.out]; exact ⟨by show R.th ++ [_] = _; rw [HXS.out, List.map_append]; rfl, by rw [HXL.out]; rfl, rfl, by rw [HXL.out]; rfl⟩), bl⟩
    · by_cases K7 : K = 7
      · have HR : Hid (ract R o = _) := HKK.out.2.2.2.2.2.2 K7
        clear HKK HZ
        subst K7
        have HC : Hid (Calls Try.prog 91 #[.agg #[.slice a1 xs.length c1, .slice a2 R.nm.length c2, .slice a3 R.la.length c3, .slice a4 R.ch.length c4]] W8 fun e w' => ∃ ta X1 tc, e = .returned (.agg #[.slice ta X1 tc, .slice a2 R.nm.length c2, .slice a2 R.nm.length c2, .slice none 0 0]) ∧ SM ok2 w' (lsx xs R.nm) R.nm R.nm [] (.slice ta X1 tc) (.slice a2 R.nm.length c2) (.slice a2 R.nm.length c2) (.slice none 0 0) ∧ Below W8.heap.size W8 w') := (rklasting_any _ xs R.nm R.la R.ch _ _ _ _ W8 HS8.out HBN.out.2.2).mono fun e w' ⟨tv', h1, h2, h4⟩ => by
          obtain ⟨ta, tc, rfl⟩ := rw_slice h2
          exact ⟨ta, _, tc, h1, ⟨h2.mono HNW.out, lsx_od (HS8.out.kept h4).od, (HS8.out.kept h4).rn, (HS8.out.kept h4).rn, Rw.nil _ _ _ _ _⟩, h4⟩
        go_wp2_with fail
        refine HC.out.mono ?_
        rintro e W9 ⟨ta, X1, tc, rfl, s9, b9⟩
        have H9 : Hid (SM ok2 W9 (lsx xs R.nm) R.nm R.nm [] (.slice ta X1 tc) (.slice a2 R.nm.length c2) (.slice a2 R.nm.length c2) (.slice none 0 0) ∧ Below W8.heap.size W8 W9) := ⟨s9, b9⟩
        clear s9 b9 HC r0 r1 r2 r3 q0 q1 q2 q3 q4 t0 t1 t2
        have L4 := HL8.out.2.2.1.kept H9.out.2
        have z0 := L4.cell 0 _ rfl
        have z1 := L4.cell 1 _ rfl
        have z2 := L4.cell 2 _ rfl
        have z3 := L4.cell 3 _ rfl
        have g0 := L4.free 0
        have g1 := L4.free 1
        have g2 := L4.free 2
        have g3 := L4.free 3
        have HL4 : Hid (LB W9 p4 52 [.slice none 0 0, .slice none 0 0, .slice none 0 0, .slice none 0 0]) := L4
        clear L4
        go_wp2_with fail
        have LZ := ((((HL4.out.set 0 (.slice ta X1 tc)).set 1 (.slice a2 R.nm.length c2)).set 2 (.slice a2 R.nm.length c2)).set 3 (.slice none 0 0))
        refine bodyPost_ret (results_cell_mid rfl _ _ p4 [(.slice ta X1 tc), (.slice a2 R.nm.length c2), (.slice a2 R.nm.length c2), (.slice none 0 0)] _ rfl LZ.range Try.underlying52 rfl (by kernel_rfl)) rfl ?_
        have far : ∀ q, q ≠ p2 → q ≠ p4 → q ≠ p7 → ((((W9.setCell ⟨p4, 0, none⟩ (.slice ta X1 tc)).setCell ⟨p4, 1, none⟩ (.slice a2 R.nm.length c2)).setCell ⟨p4, 2, none⟩ (.slice a2 R.nm.length c2)).setCell ⟨p4, 3, none⟩ (.slice none 0 0)).heap[q]? = W9.heap[q]? := fun q h2 h4 h7 => by
          rw [set_other _ _ _ _ h4, set_other _ _ _ _ h4, set_other _ _ _ _ h4, set_other _ _ _ _ h4]
        have bl := (((((andThen HB8.out H9.out.2).setCell (p := ⟨p4, 0, none⟩) HPB.out.2.1 (.slice ta X1 tc)).setCell (p := ⟨p4, 1, none⟩) HPB.out.2.1 (.slice a2 R.nm.length c2)).setCell (p := ⟨p4, 2, none⟩) HPB.out.2.1 (.slice a2 R.nm.length c2)).setCell (p := ⟨p4, 3, none⟩) HPB.out.2.1 (.slice none 0 0))
        exact ⟨_, rfl, st_fin H9.out.1 far HOK2.out HMO.out (by rw [HR.out]; exact ⟨by rw [lsx_th, ← HXS.out]; rfl, rfl, rfl, rfl⟩), bl⟩
      · exfalso
        obtain ⟨i, hi, -⟩ := (HZ.out K7).2.2.2 K1
        rw [HG.out] at hi
        cases hi
  | some i =>
    have HG : Hid (Dk.get R.nm sa = some i) := hg
    have htk : tok R.th i := get_tok HOKL.out hg
    have hil : i < xs.length := by rw [← HXL.out]; exact tok_lt htk
    have HIL : Hid (i < xs.length) := hil
    obtain ⟨xv, td, ts, tt, hxi⟩ : ∃ xv td ts tt, xs[i]? = some (xv, (⟨td, ts, tt⟩ : Th)) := ⟨xs[i].1, xs[i].2.data, xs[i].2.syn, xs[i].2.there, List.getElem?_eq_getElem hil⟩
    have hx9 : R.th[i]? = some ⟨td, ts, tt⟩ := by rw [HXS.out, List.getElem?_map, hxi]; rfl
    obtain rfl : tt = true := by
      obtain ⟨t, h1, h2⟩ := htk
      rw [hx9] at h1
      rw [← Option.some.inj h1] at h2
      exact h2
    have HTE : Hid ((tha R o).data = td ∧ (tha R o).syn = ts ∧ (tha R o).there = true ∧ thn R o = i) := by
      have e1 : thn R o = i := by rw [HTN.out, HG.out]; rfl
      have e2 : tha R o = ⟨td, ts, true⟩ := by
        rw [HTA.out, e1, List.getD_eq_getElem?_getD, hx9]
        rfl
      rw [e2]
      exact ⟨rfl, rfl, rfl, e1⟩
    have HGT : Hid (R.th.getD i ⟨[], 0, false⟩ = tha R o) := by
      show _ = _
      rw [HTA.out, HTE.out.2.2.2]
    have HOD := HV0.out.od _ (List.mem_of_getElem? hxi)
    obtain ⟨ta0, tc0, ev, -⟩ := Mg.row_shape HOD.1.row
    simp only at HOD ev
    subst ev
    have hdl9 : td.length ≤ 1000000000 := HLN.out _ (List.mem_of_getElem? hx9)
    have HTO0 : Hid (Own 0 w (.slice ta0 td.length tc0) td ∧ ∀ q, (Value.slice ta0 td.length tc0).ownBlock = some q → ok q) := HOD
    have HC : Hid (Calls Try.prog 88 #[.slice a2 R.nm.length c2, .string ⟨sa.toArray⟩] W3 fun e w' => ∃ (j : Nat) (h : j < R.nm.length), e = .returned (.int .i64 (j : Int)) ∧ R.nm[j].2 = i ∧ w' = W3) := (rkfind_any ok _ R.nm sa W3 (HV0.out.kept HB3.out.2.2.2).rn).mono fun e w' ⟨r, h1, h2, h3⟩ => by
      rcases h2 with ⟨-, hn⟩ | ⟨j, hj, rfl, -, hg2⟩
      · rw [HG.out] at hn
        cases hn
      · rw [HG.out] at hg2
        exact ⟨j, hj, h1, (Option.some.inj hg2).symm, h3⟩
    obtain ⟨tb, htb⟩ := h3 (List.ne_nil_of_length_pos (by omega))
    subst htb
    have y0 := row_cellx enT_len (HV0.out.kept (andThen HB3.out.2.2.2 B7)).rt.row i _ hxi 0 _ rfl
    have y1 := row_cellx enT_len (HV0.out.kept (andThen HB3.out.2.2.2 B7)).rt.row i _ hxi 1 _ rfl
    have y2 := row_cellx enT_len (HV0.out.kept (andThen HB3.out.2.2.2 B7)).rt.row i _ hxi 2 _ rfl
    simp only [Nat.add_zero] at y0 y1 y2
    have s0 := (HB3.out.1.kept B7).cell 0 _ rfl
    clear hg htk hx9 hxi HOD HTA HTN HOKL HLN
    go_wp2_with fail
    refine HC.out.mono ?_
    rintro e Wf ⟨j, hj, rfl, hji, rfl⟩
    obtain ⟨nb, hnb⟩ := n3 (List.ne_nil_of_length_pos (by omega))
    subst hnb
    obtain ⟨-, y9⟩ := (HV0.out.kept HB3.out.2.2.2).rn.cells j hj
    rw [hji] at y9
    clear HC hji q1
    go_upto_region 8 with fail
    have B7 := up0 Wf (.cells #[.slice ta0 td.length tc0, .int .i64 (ts : Int), .bool true] 98)
    have l7 := lb_new Wf [.slice ta0 td.length tc0, .int .i64 (ts : Int), .bool true] 98
    obtain ⟨W8, hW8⟩ : ∃ W, W = Wf.alloc (.cells #[.slice ta0 td.length tc0, .int .i64 (ts : Int), .bool true] 98) := ⟨_, rfl⟩
    obtain ⟨p7, hp7⟩ : ∃ p, p = Wf.heap.size := ⟨_, rfl⟩
    rw [← hW8, ← hp7]
    have B8 : Hid (Below Wf.heap.size Wf W8) := by rw [hW8]; exact B7
    have L7 : Hid (LB W8 p7 98 [.slice ta0 td.length tc0, .int .i64 (ts : Int), .bool true]) := by rw [hW8, hp7]; exact l7
    have HP7 : Hid (p4 < p7) := by rw [hp7]; exact HPP.out.2.2.2
    clear B7 l7 hW8 hp7 y0 y1 y2 y9 s0 r1 h3 n3
    generalize (some (⟨tb, 0, none⟩ : Addr)) = a1 at *
    generalize (some (⟨nb, 0, none⟩ : Addr)) = a2 at *
    have HB8 : Hid (Below w.heap.size w W8) := andThen HB3.out.2.2.2 B8.out
    have HL8 : Hid (LB W8 p2 52 [.slice a1 xs.length c1, .slice a2 R.nm.length c2, .slice a3 R.la.length c3, .slice a4 R.ch.length c4] ∧ LB W8 p3 121 [.int .i64 K, .string ⟨sa.toArray⟩, .string ⟨sb.toArray⟩, .int .i64 n, .slice da dl.length dc] ∧ LB W8 p4 52 [.slice none 0 0, .slice none 0 0, .slice none 0 0, .slice none 0 0] ∧ LB W8 p7 98 [.slice ta0 td.length tc0, .int .i64 (ts : Int), .bool true]) := ⟨HB3.out.1.kept B8.out, HB3.out.2.1.kept B8.out, HB3.out.2.2.1.kept B8.out, L7.out⟩
    obtain ⟨ok2, hok2⟩ : ∃ f : Nat → Prop, f = fun q => (ok q ∧ q < w.heap.size) ∨ W8.heap.size ≤ q := ⟨_, rfl⟩
    have HOK2 : Hid (∀ q, ok2 q → q ≠ p2 ∧ q ≠ p4 ∧ q ≠ p7) := fun q hq => by
      rw [hok2] at hq
      have k2 := HL8.out.1.lt
      have k4 := HL8.out.2.2.1.lt
      have k7 := HL8.out.2.2.2.lt
      have kp := HPP.out
      have k9 := HP7.out
      rcases hq with ⟨-, h9⟩ | h9
      · exact ⟨by omega, by omega, by omega⟩
      · exact ⟨by omega, by omega, by omega⟩
    have HLOW : Hid (∀ q, ok q ∧ q < w.heap.size → ok2 q) := fun q hq => by rw [hok2]; exact .inl hq
    have HNW : Hid (∀ q, W8.heap.size ≤ q → ok2 q) := fun q hq => by rw [hok2]; exact .inr hq
    have HMO : Hid (∀ q, ok2 q → ok q ∨ w.heap.size ≤ q) := fun q hq => by
      rw [hok2] at hq
      rcases hq with ⟨h9, -⟩ | h9
      · exact .inl h9
      · exact .inr (Nat.le_trans HB8.out.size h9)
    have HS8 : Hid (SM ok2 W8 xs R.nm R.la R.ch (.slice a1 xs.length c1) (.slice a2 R.nm.length c2) (.slice a3 R.la.length c3) (.slice a4 R.ch.length c4)) := ((HV0.out.lo).mono fun q hq => by rw [hok2]; exact .inl hq).kept HB8.out
    have HNE : Hid (p4 ≠ p2 ∧ p4 ≠ p7) := by
      have kp := HPP.out
      have k9 := HP7.out
      exact ⟨by omega, by omega⟩
    have HN27 : Hid (p2 ≠ p7) := by
      have kp := HPP.out
      have k9 := HP7.out
      show p2 ≠ p7
      omega
    have HN37 : Hid (p3 ≠ p7) := by
      have kp := HPP.out
      have k9 := HP7.out
      show p3 ≠ p7
      omega
    have HPB : Hid (w.heap.size ≤ p2 ∧ w.heap.size ≤ p4 ∧ w.heap.size ≤ p7) := by
      have kp := HPP.out
      have k9 := HP7.out
      exact ⟨by omega, by omega, by omega⟩
    have r0 := HL8.out.1.cell 0 _ rfl
    have r1 := HL8.out.1.cell 1 _ rfl
    have r2 := HL8.out.1.cell 2 _ rfl
    have r3 := HL8.out.1.cell 3 _ rfl
    have q0 := HL8.out.2.1.cell 0 _ rfl
    have q1 := HL8.out.2.1.cell 1 _ rfl
    have q2 := HL8.out.2.1.cell 2 _ rfl
    have q3 := HL8.out.2.1.cell 3 _ rfl
    have q4 := HL8.out.2.1.cell 4 _ rfl
    have t0 := HL8.out.2.2.2.cell 0 _ rfl
    have t1 := HL8.out.2.2.2.cell 1 _ rfl
    have t2 := HL8.out.2.2.2.cell 2 _ rfl
    clear hok2
    have HTO : Hid (Own 0 W8 (.slice ta0 td.length tc0) td ∧ td.length ≤ 1000000000) := ⟨HTO0.out.1.kept HB8.out, hdl9⟩
    have HTQ : Hid (∀ q, (Value.slice ta0 td.length tc0).ownBlock = some q → ok2 q) := fun q e => HLOW.out q ⟨HTO0.out.2 q e, (World.ownsRow.lt HTO0.out.1.row q e).2⟩
    have HD8 : Hid (Bs W8 (.slice da dl.length dc) dl) := HDW.out.kept HB8.out
    clear hdl9 HTO0
    by_cases K2 : K = 2
    · have HR : Hid (ract R o = { R with th := R.th.set i ⟨td ++ dl, ts, true⟩ }) := by
        have h9 := HKK.out.2.1 K2
        rw [HTE.out.1, HTE.out.2.1, HTE.out.2.2.1, HTE.out.2.2.2] at h9
        exact h9
      clear HKK HZ HTE
      subst K2
      have HCP : Hid (Calls Try.prog 49 #[.slice ta0 td.length tc0, .int .i64 0, .int .i64 (td.length : Int)] W8 fun e w' => ∃ v', e = .returned v' ∧ Own W8.heap.size w' v' td ∧ Below W8.heap.size W8 w') := (rkpart_any _ td td.length W8 HTO.out.1.bs (Nat.le_refl _) (by have := HTO.out.2; omega)).mono fun e w' ⟨v', h1, h2, h3⟩ => ⟨v', h1, by rw [List.take_length] at h2; exact h2, h3⟩
      go_wp2_with fail
      refine HCP.out.mono ?_
      rintro e W9 ⟨v9, rfl, o9, b9⟩
      obtain ⟨va, Wa, hra, oa, ga, hga⟩ := run_appB W9 29 W8.heap.size v9 td o9 _ dl (HD8.out.kept b9) (by have := HTO.out.2; have := HDL.out; omega) b9.size
      have ba := (Below.refl W8.heap.size W9).grown ga b9.size fun q e => (World.ownsRow.lt o9.row q e).1
      have HBA : Hid (Below W8.heap.size W8 Wa) := b9.trans ba
      obtain ⟨xa, xc, ex, -⟩ := Mg.row_shape oa.row
      subst ex
      have HOA : Hid (Own W8.heap.size Wa (.slice xa (td ++ dl).length xc) (td ++ dl)) := oa
      have LA2 := HL8.out.1.kept HBA.out
      have LA3 := HL8.out.2.1.kept b9
      have LA7 := HL8.out.2.2.2.kept HBA.out
      have u0 := LA2.cell 0 _ rfl
      have w4 := LA3.cell 4 _ rfl
      have y0 := LA7.cell 0 _ rfl
      have y1 := LA7.cell 1 _ rfl
      have y2 := LA7.cell 2 _ rfl
      have fy := LA7.free 0
      clear LA2 LA3 LA7 o9 oa b9 ga ba hga HCP r0 r1 r2 r3 q0 q1 q2 q3 q4 t0 t1 t2
      have HSX : Hid (SM ok2 (Wa.setCell ⟨p7, 0, none⟩ (.slice xa (td ++ dl).length xc)) xs R.nm R.la R.ch (.slice a1 xs.length c1) (.slice a2 R.nm.length c2) (.slice a3 R.la.length c3) (.slice a4 R.ch.length c4)) := (HS8.out.kept HBA.out).blk fun q hq _ => set_other _ _ _ _ (HOK2.out q hq).2.2
      have HLX : Hid (LB (Wa.setCell ⟨p7, 0, none⟩ (.slice xa (td ++ dl).length xc)) p2 52 [.slice a1 xs.length c1, .slice a2 R.nm.length c2, .slice a3 R.la.length c3, .slice a4 R.ch.length c4] ∧ LB (Wa.setCell ⟨p7, 0, none⟩ (.slice xa (td ++ dl).length xc)) p4 52 [.slice none 0 0, .slice none 0 0, .slice none 0 0, .slice none 0 0] ∧ Below w.heap.size w (Wa.setCell ⟨p7, 0, none⟩ (.slice xa (td ++ dl).length xc)) ∧ W8.heap.size ≤ (Wa.setCell ⟨p7, 0, none⟩ (.slice xa (td ++ dl).length xc)).heap.size) := ⟨(HL8.out.1.kept HBA.out).other _ _ HN27.out, (HL8.out.2.2.1.kept HBA.out).other _ _ HNE.out.2, (andThen HB8.out HBA.out).setCell (p := ⟨p7, 0, none⟩) HPB.out.2.2 _, by rw [size_set1]; exact HBA.out.size⟩
      have HOW : Hid (Own 0 (Wa.setCell ⟨p7, 0, none⟩ (.slice xa (td ++ dl).length xc)) (.slice xa (td ++ dl).length xc) (td ++ dl) ∧ ∀ q, (Value.slice xa (td ++ dl).length xc).ownBlock = some q → ok2 q) := ⟨own_blk (HOA.out.mono (Nat.zero_le _)) fun q e => set_other _ _ _ _ (HOK2.out q (HNW.out q (World.ownsRow.lt HOA.out.row q e).1)).2.2, fun q e => HNW.out q (World.ownsRow.lt HOA.out.row q e).1⟩
      have n72 : (p7 = p2) = False := eq_false (Ne.symm HN27.out)
      have n27 : (p2 = p7) = False := eq_false HN27.out
      obtain ⟨XL, hXL⟩ : ∃ X, X = (td ++ dl).length := ⟨_, rfl⟩
      rw [← hXL] at HSX HLX HOW hra
      clear hXL HOA
      have HC : Hid (Calls Try.prog 90 #[.slice a1 xs.length c1, .int .i64 (i : Int), .agg #[.slice xa XL xc, .int .i64 (ts : Int), .bool true]] (Wa.setCell ⟨p7, 0, none⟩ (.slice xa XL xc)) fun e w' => ∃ ta X1 tc, e = .returned (.slice ta X1 tc) ∧ SM ok2 w' (xs.set i (.slice xa XL xc, ⟨td ++ dl, ts, true⟩)) R.nm R.la R.ch (.slice ta X1 tc) (.slice a2 R.nm.length c2) (.slice a3 R.la.length c3) (.slice a4 R.ch.length c4) ∧ LB w' p2 52 [.slice a1 xs.length c1, .slice a2 R.nm.length c2, .slice a3 R.la.length c3, .slice a4 R.ch.length c4] ∧ LB w' p4 52 [.slice none 0 0, .slice none 0 0, .slice none 0 0, .slice none 0 0] ∧ Below w.heap.size w w') := (rkset_any _ _ xs i (.slice xa XL xc, ⟨td ++ dl, ts, true⟩) (Wa.setCell ⟨p7, 0, none⟩ (.slice xa XL xc)) HSX.out.rt (fun y hy => HSX.out.slice y hy) ⟨_, _, _, rfl⟩ HIL.out HBN.out.2.2).mono fun e w' ⟨tv', h1, h2, h4⟩ => by
        obtain ⟨ta, tc, rfl⟩ := rw_slice h2
        exact ⟨ta, _, tc, h1, ⟨h2.mono fun q hq => HNW.out q (Nat.le_trans HLX.out.2.2.2 hq), od_set (HSX.out.kept h4).od i _ _ (HOW.out.1.kept h4) HOW.out.2, (HSX.out.kept h4).rn, (HSX.out.kept h4).rl, (HSX.out.kept h4).rc⟩, HLX.out.1.kept h4, HLX.out.2.1.kept h4, andThen HLX.out.2.2.1 h4⟩
      go_wp2_with (at_builtin; refine wpList_appRun rfl (.tmp 60) (.tmp 62) 29 rfl rfl rfl hra ?_)
      refine HC.out.mono ?_
      rintro e Wn ⟨ta, X1, tc, rfl, s9, k2, k4, b9⟩
      have H9 : Hid (SM ok2 Wn (xs.set i (.slice xa XL xc, ⟨td ++ dl, ts, true⟩)) R.nm R.la R.ch (.slice ta X1 tc) (.slice a2 R.nm.length c2) (.slice a3 R.la.length c3) (.slice a4 R.ch.length c4) ∧ LB Wn p4 52 [.slice none 0 0, .slice none 0 0, .slice none 0 0, .slice none 0 0] ∧ Below w.heap.size w Wn) := ⟨s9, k4, b9⟩
      have z0 := k4.cell 0 _ rfl
      have z1 := k4.cell 1 _ rfl
      have z2 := k4.cell 2 _ rfl
      have z3 := k4.cell 3 _ rfl
      have g0 := k4.free 0
      have g1 := k4.free 1
      have g2 := k4.free 2
      have g3 := k4.free 3
      have m0 := k2.cell 0 _ rfl
      have m1 := k2.cell 1 _ rfl
      have m2 := k2.cell 2 _ rfl
      have m3 := k2.cell 3 _ rfl
      have f0 := k2.free 0
      clear s9 k2 k4 b9 HC
      have n24 : (p2 = p4) = False := eq_false (Ne.symm HNE.out.1)
      have n42 : (p4 = p2) = False := eq_false HNE.out.1
      go_wp2_with fail
      have LZ := (((((H9.out.2.1.other ⟨p2, 0, none⟩ (.slice ta X1 tc) HNE.out.1).set 0 (.slice ta X1 tc)).set 1 (.slice a2 R.nm.length c2)).set 2 (.slice a3 R.la.length c3)).set 3 (.slice a4 R.ch.length c4))
      refine bodyPost_ret (results_cell_mid rfl _ _ p4 [(.slice ta X1 tc), (.slice a2 R.nm.length c2), (.slice a3 R.la.length c3), (.slice a4 R.ch.length c4)] _ rfl LZ.range Try.underlying52 rfl (by kernel_rfl)) rfl ?_
      have far : ∀ q, q ≠ p2 → q ≠ p4 → q ≠ p7 → (((((Wn.setCell ⟨p2, 0, none⟩ (.slice ta X1 tc)).setCell ⟨p4, 0, none⟩ (.slice ta X1 tc)).setCell ⟨p4, 1, none⟩ (.slice a2 R.nm.length c2)).setCell ⟨p4, 2, none⟩ (.slice a3 R.la.length c3)).setCell ⟨p4, 3, none⟩ (.slice a4 R.ch.length c4)).heap[q]? = Wn.heap[q]? := fun q h2 h4 h7 => by
        rw [set_other _ _ _ _ h4, set_other _ _ _ _ h4, set_other _ _ _ _ h4, set_other _ _ _ _ h4, set_other _ _ _ _ h2]
      have bl := (((((H9.out.2.2.setCell (p := ⟨p2, 0, none⟩) HPB.out.1 (.slice ta X1 tc)).setCell (p := ⟨p4, 0, none⟩) HPB.out.2.1 (.slice ta X1 tc)).setCell (p := ⟨p4, 1, none⟩) HPB.out.2.1 (.slice a2 R.nm.length c2)).setCell (p := ⟨p4, 2, none⟩) HPB.out.2.1 (.slice a3 R.la.length c3)).setCell (p := ⟨p4, 3, none⟩) HPB.out.2.1 (.slice a4 R.ch.length c4))
      exact ⟨_, rfl, st_fin H9.out.1 far HOK2.out HMO.out (by rw [HR.out]; exact ⟨by show R.th.set i _ = _; rw [HXS.out, List.map_set], rfl, rfl, rfl⟩), bl⟩
    · by_cases K3 : K = 3
      · have HR : Hid (ract R o = { R with th := R.th.set i ⟨td, td.length, true⟩ }) := by
          have h9 := HKK.out.2.2.1 K3
          rw [HTE.out.1, HTE.out.2.2.1, HTE.out.2.2.2] at h9
          exact h9
        clear HKK HZ HTE
        subst K3
        have fy := HL8.out.2.2.2.free 1
        have HSX : Hid (SM ok2 (W8.setCell ⟨p7, 1, none⟩ (.int .i64 (td.length : Int))) xs R.nm R.la R.ch (.slice a1 xs.length c1) (.slice a2 R.nm.length c2) (.slice a3 R.la.length c3) (.slice a4 R.ch.length c4)) := HS8.out.blk fun q hq _ => set_other _ _ _ _ (HOK2.out q hq).2.2
        have HLX : Hid (LB (W8.setCell ⟨p7, 1, none⟩ (.int .i64 (td.length : Int))) p2 52 [.slice a1 xs.length c1, .slice a2 R.nm.length c2, .slice a3 R.la.length c3, .slice a4 R.ch.length c4] ∧ LB (W8.setCell ⟨p7, 1, none⟩ (.int .i64 (td.length : Int))) p4 52 [.slice none 0 0, .slice none 0 0, .slice none 0 0, .slice none 0 0] ∧ Below w.heap.size w (W8.setCell ⟨p7, 1, none⟩ (.int .i64 (td.length : Int))) ∧ W8.heap.size ≤ (W8.setCell ⟨p7, 1, none⟩ (.int .i64 (td.length : Int))).heap.size) := ⟨HL8.out.1.other _ _ HN27.out, HL8.out.2.2.1.other _ _ HNE.out.2, HB8.out.setCell (p := ⟨p7, 1, none⟩) HPB.out.2.2 _, by rw [size_set1]; exact Nat.le_refl _⟩
        have HOW : Hid (Own 0 (W8.setCell ⟨p7, 1, none⟩ (.int .i64 (td.length : Int))) (.slice ta0 td.length tc0) td ∧ ∀ q, (Value.slice ta0 td.length tc0).ownBlock = some q → ok2 q) := ⟨own_blk HTO.out.1 fun q e => set_other _ _ _ _ (HOK2.out q (HTQ.out q e)).2.2, HTQ.out⟩
        have n72 : (p7 = p2) = False := eq_false (Ne.symm HN27.out)
        have n27 : (p2 = p7) = False := eq_false HN27.out
        have HC : Hid (Calls Try.prog 90 #[.slice a1 xs.length c1, .int .i64 (i : Int), .agg #[.slice ta0 td.length tc0, .int .i64 (td.length : Int), .bool true]] (W8.setCell ⟨p7, 1, none⟩ (.int .i64 (td.length : Int))) fun e w' => ∃ ta X1 tc, e = .returned (.slice ta X1 tc) ∧ SM ok2 w' (xs.set i (.slice ta0 td.length tc0, ⟨td, td.length, true⟩)) R.nm R.la R.ch (.slice ta X1 tc) (.slice a2 R.nm.length c2) (.slice a3 R.la.length c3) (.slice a4 R.ch.length c4) ∧ LB w' p2 52 [.slice a1 xs.length c1, .slice a2 R.nm.length c2, .slice a3 R.la.length c3, .slice a4 R.ch.length c4] ∧ LB w' p4 52 [.slice none 0 0, .slice none 0 0, .slice none 0 0, .slice none 0 0] ∧ Below w.heap.size w w') := (rkset_any _ _ xs i (.slice ta0 td.length tc0, ⟨td, td.length, true⟩) (W8.setCell ⟨p7, 1, none⟩ (.int .i64 (td.length : Int))) HSX.out.rt (fun y hy => HSX.out.slice y hy) ⟨_, _, _, rfl⟩ HIL.out HBN.out.2.2).mono fun e w' ⟨tv', h1, h2, h4⟩ => by
          obtain ⟨ta, tc, rfl⟩ := rw_slice h2
          exact ⟨ta, _, tc, h1, ⟨h2.mono fun q hq => HNW.out q (Nat.le_trans HLX.out.2.2.2 hq), od_set (HSX.out.kept h4).od i _ _ (HOW.out.1.kept h4) HOW.out.2, (HSX.out.kept h4).rn, (HSX.out.kept h4).rl, (HSX.out.kept h4).rc⟩, HLX.out.1.kept h4, HLX.out.2.1.kept h4, andThen HLX.out.2.2.1 h4⟩
        go_wp2_with fail
        refine HC.out.mono ?_
        rintro e Wn ⟨ta, X1, tc, rfl, s9, k2, k4, b9⟩
        have H9 : Hid (SM ok2 Wn (xs.set i (.slice ta0 td.length tc0, ⟨td, td.length, true⟩)) R.nm R.la R.ch (.slice ta X1 tc) (.slice a2 R.nm.length c2) (.slice a3 R.la.length c3) (.slice a4 R.ch.length c4) ∧ LB Wn p4 52 [.slice none 0 0, .slice none 0 0, .slice none 0 0, .slice none 0 0] ∧ Below w.heap.size w Wn) := ⟨s9, k4, b9⟩
        have z0 := k4.cell 0 _ rfl
        have z1 := k4.cell 1 _ rfl
        have z2 := k4.cell 2 _ rfl
        have z3 := k4.cell 3 _ rfl
        have g0 := k4.free 0
        have g1 := k4.free 1
        have g2 := k4.free 2
        have g3 := k4.free 3
        have m0 := k2.cell 0 _ rfl
        have m1 := k2.cell 1 _ rfl
        have m2 := k2.cell 2 _ rfl
        have m3 := k2.cell 3 _ rfl
        have f0 := k2.free 0
        clear s9 k2 k4 b9 HC
        have n24 : (p2 = p4) = False := eq_false (Ne.symm HNE.out.1)
        have n42 : (p4 = p2) = False := eq_false HNE.out.1
        go_wp2_with fail
        have LZ := (((((H9.out.2.1.other ⟨p2, 0, none⟩ (.slice ta X1 tc) HNE.out.1).set 0 (.slice ta X1 tc)).set 1 (.slice a2 R.nm.length c2)).set 2 (.slice a3 R.la.length c3)).set 3 (.slice a4 R.ch.length c4))
        refine bodyPost_ret (results_cell_mid rfl _ _ p4 [(.slice ta X1 tc), (.slice a2 R.nm.length c2), (.slice a3 R.la.length c3), (.slice a4 R.ch.length c4)] _ rfl LZ.range Try.underlying52 rfl (by kernel_rfl)) rfl ?_
        have far : ∀ q, q ≠ p2 → q ≠ p4 → q ≠ p7 → (((((Wn.setCell ⟨p2, 0, none⟩ (.slice ta X1 tc)).setCell ⟨p4, 0, none⟩ (.slice ta X1 tc)).setCell ⟨p4, 1, none⟩ (.slice a2 R.nm.length c2)).setCell ⟨p4, 2, none⟩ (.slice a3 R.la.length c3)).setCell ⟨p4, 3, none⟩ (.slice a4 R.ch.length c4)).heap[q]? = Wn.heap[q]? := fun q h2 h4 h7 => by
          rw [set_other _ _ _ _ h4, set_other _ _ _ _ h4, set_other _ _ _ _ h4, set_other _ _ _ _ h4, set_other _ _ _ _ h2]
        have bl := (((((H9.out.2.2.setCell (p := ⟨p2, 0, none⟩) HPB.out.1 (.slice ta X1 tc)).setCell (p := ⟨p4, 0, none⟩) HPB.out.2.1 (.slice ta X1 tc)).setCell (p := ⟨p4, 1, none⟩) HPB.out.2.1 (.slice a2 R.nm.length c2)).setCell (p := ⟨p4, 2, none⟩) HPB.out.2.1 (.slice a3 R.la.length c3)).setCell (p := ⟨p4, 3, none⟩) HPB.out.2.1 (.slice a4 R.ch.length c4))
        exact ⟨_, rfl, st_fin H9.out.1 far HOK2.out HMO.out (by rw [HR.out]; exact ⟨by show R.th.set i _ = _; rw [HXS.out, List.map_set], rfl, rfl, rfl⟩), bl⟩
      · by_cases K4 : K = 4
        · obtain ⟨m, hm, hml⟩ : ∃ m : Nat, n = (m : Int) ∧ m ≤ td.length := by
            obtain ⟨i', hi', h5, -⟩ := (HZ.out (by omega)).2.2.2 (by omega)
            rw [HG.out] at hi'
            obtain rfl := Option.some.inj hi'
            have h9 := h5 K4
            rw [HGT.out, HTE.out.1] at h9
            exact ⟨n.toNat, by omega, by omega⟩
          have HML : Hid (m ≤ td.length) := hml
          have HR : Hid (ract R o = { R with th := R.th.set i ⟨td.take m, min ts m, true⟩ }) := by
            have h9 := HKK.out.2.2.2.1 K4
            rw [HTE.out.1, HTE.out.2.1, HTE.out.2.2.1, HTE.out.2.2.2, hm, Int.toNat_natCast] at h9
            exact h9
          clear HKK HZ HTE hml
          subst K4
          subst hm
          have HCP : Hid (Calls Try.prog 49 #[.slice ta0 td.length tc0, .int .i64 0, .int .i64 (m : Int)] W8 fun e w' => ∃ v', e = .returned v' ∧ Own W8.heap.size w' v' (td.take m) ∧ Below W8.heap.size W8 w') := rkpart_any _ td m W8 HTO.out.1.bs HML.out (by have := HTO.out.2; have := HML.out; omega)
          go_wp2_with fail
          refine HCP.out.mono ?_
          rintro e W9 ⟨v9, rfl, o9, b9⟩
          have HBA : Hid (Below W8.heap.size W8 W9) := b9
          obtain ⟨xa, xc, ex, -⟩ := Mg.row_shape o9.row
          subst ex
          have HOA : Hid (Own W8.heap.size W9 (.slice xa (td.take m).length xc) (td.take m)) := o9
          have LA2 := HL8.out.1.kept b9
          have LA3 := HL8.out.2.1.kept b9
          have LA7 := HL8.out.2.2.2.kept b9
          have u0 := LA2.cell 0 _ rfl
          have w3 := LA3.cell 3 _ rfl
          have y0 := LA7.cell 0 _ rfl
          have y1 := LA7.cell 1 _ rfl
          have y2 := LA7.cell 2 _ rfl
          have fy := LA7.free 0
          have fz := LA7.free 1
          clear LA2 LA3 LA7 o9 b9 HCP r0 r1 r2 r3 q0 q1 q2 q3 q4 t0 t1 t2
          have HSX : Hid (SM ok2 ((W9.setCell ⟨p7, 0, none⟩ (.slice xa (td.take m).length xc)).setCell ⟨p7, 1, none⟩ (.int .i64 ((min ts m : Nat) : Int))) xs R.nm R.la R.ch (.slice a1 xs.length c1) (.slice a2 R.nm.length c2) (.slice a3 R.la.length c3) (.slice a4 R.ch.length c4)) := ((HS8.out.kept HBA.out).blk fun q hq _ => set_other _ _ _ _ (HOK2.out q hq).2.2).blk fun q hq _ => set_other _ _ _ _ (HOK2.out q hq).2.2
          have HLX : Hid (LB ((W9.setCell ⟨p7, 0, none⟩ (.slice xa (td.take m).length xc)).setCell ⟨p7, 1, none⟩ (.int .i64 ((min ts m : Nat) : Int))) p2 52 [.slice a1 xs.length c1, .slice a2 R.nm.length c2, .slice a3 R.la.length c3, .slice a4 R.ch.length c4] ∧ LB ((W9.setCell ⟨p7, 0, none⟩ (.slice xa (td.take m).length xc)).setCell ⟨p7, 1, none⟩ (.int .i64 ((min ts m : Nat) : Int))) p4 52 [.slice none 0 0, .slice none 0 0, .slice none 0 0, .slice none 0 0] ∧ Below w.heap.size w ((W9.setCell ⟨p7, 0, none⟩ (.slice xa (td.take m).length xc)).setCell ⟨p7, 1, none⟩ (.int .i64 ((min ts m : Nat) : Int))) ∧ W8.heap.size ≤ ((W9.setCell ⟨p7, 0, none⟩ (.slice xa (td.take m).length xc)).setCell ⟨p7, 1, none⟩ (.int .i64 ((min ts m : Nat) : Int))).heap.size) := ⟨((HL8.out.1.kept HBA.out).other _ _ HN27.out).other _ _ HN27.out, ((HL8.out.2.2.1.kept HBA.out).other _ _ HNE.out.2).other _ _ HNE.out.2, ((andThen HB8.out HBA.out).setCell (p := ⟨p7, 0, none⟩) HPB.out.2.2 _).setCell (p := ⟨p7, 1, none⟩) HPB.out.2.2 _, by rw [size_set1, size_set1]; exact HBA.out.size⟩
          have HOW : Hid (Own 0 ((W9.setCell ⟨p7, 0, none⟩ (.slice xa (td.take m).length xc)).setCell ⟨p7, 1, none⟩ (.int .i64 ((min ts m : Nat) : Int))) (.slice xa (td.take m).length xc) (td.take m) ∧ ∀ q, (Value.slice xa (td.take m).length xc).ownBlock = some q → ok2 q) := ⟨own_blk (own_blk (HOA.out.mono (Nat.zero_le _)) fun q e => set_other _ _ _ _ (HOK2.out q (HNW.out q (World.ownsRow.lt HOA.out.row q e).1)).2.2) fun q e => set_other _ _ _ _ (HOK2.out q (HNW.out q (World.ownsRow.lt HOA.out.row q e).1)).2.2, fun q e => HNW.out q (World.ownsRow.lt HOA.out.row q e).1⟩
          have n72 : (p7 = p2) = False := eq_false (Ne.symm HN27.out)
          have n27 : (p2 = p7) = False := eq_false HN27.out
          have n73 : (p7 = p3) = False := eq_false (Ne.symm HN37.out)
          have n37 : (p3 = p7) = False := eq_false HN37.out
          obtain ⟨XL, hXL⟩ : ∃ X, X = (td.take m).length := ⟨_, rfl⟩
          rw [← hXL] at HSX HLX HOW
          rw [← hXL]
          clear hXL HOA
          have HCI : Hid (Calls Try.prog 78 #[.int .i64 (ts : Int), .int .i64 0, .int .i64 (m : Int)] (W9.setCell ⟨p7, 0, none⟩ (.slice xa XL xc)) fun e w' => e = .returned (.int .i64 ((min ts m : Nat) : Int)) ∧ w' = (W9.setCell ⟨p7, 0, none⟩ (.slice xa XL xc))) := (rkinto_any _ _ _ _).mono fun e w' ⟨h1, h2⟩ => ⟨by rw [h1]; exact congrArg (fun x => Ending.returned (.int .i64 x)) (into_min ts m), h2⟩
          go_wp2_with fail
          refine HCI.out.mono ?_
          rintro e Wq ⟨rfl, rfl⟩
          have HC : Hid (Calls Try.prog 90 #[.slice a1 xs.length c1, .int .i64 (i : Int), .agg #[.slice xa XL xc, .int .i64 ((min ts m : Nat) : Int), .bool true]] ((W9.setCell ⟨p7, 0, none⟩ (.slice xa XL xc)).setCell ⟨p7, 1, none⟩ (.int .i64 ((min ts m : Nat) : Int))) fun e w' => ∃ ta X1 tc, e = .returned (.slice ta X1 tc) ∧ SM ok2 w' (xs.set i (.slice xa XL xc, ⟨td.take m, (min ts m : Nat), true⟩)) R.nm R.la R.ch (.slice ta X1 tc) (.slice a2 R.nm.length c2) (.slice a3 R.la.length c3) (.slice a4 R.ch.length c4) ∧ LB w' p2 52 [.slice a1 xs.length c1, .slice a2 R.nm.length c2, .slice a3 R.la.length c3, .slice a4 R.ch.length c4] ∧ LB w' p4 52 [.slice none 0 0, .slice none 0 0, .slice none 0 0, .slice none 0 0] ∧ Below w.heap.size w w') := (rkset_any _ _ xs i (.slice xa XL xc, ⟨td.take m, (min ts m : Nat), true⟩) ((W9.setCell ⟨p7, 0, none⟩ (.slice xa XL xc)).setCell ⟨p7, 1, none⟩ (.int .i64 ((min ts m : Nat) : Int))) HSX.out.rt (fun y hy => HSX.out.slice y hy) ⟨_, _, _, rfl⟩ HIL.out HBN.out.2.2).mono fun e w' ⟨tv', h1, h2, h4⟩ => by
            obtain ⟨ta, tc, rfl⟩ := rw_slice h2
            exact ⟨ta, _, tc, h1, ⟨h2.mono fun q hq => HNW.out q (Nat.le_trans HLX.out.2.2.2 hq), od_set (HSX.out.kept h4).od i _ _ (HOW.out.1.kept h4) HOW.out.2, (HSX.out.kept h4).rn, (HSX.out.kept h4).rl, (HSX.out.kept h4).rc⟩, HLX.out.1.kept h4, HLX.out.2.1.kept h4, andThen HLX.out.2.2.1 h4⟩
          go_wp2_with fail
          refine HC.out.mono ?_
          rintro e Wn ⟨ta, X1, tc, rfl, s9, k2, k4, b9⟩
          have H9 : Hid (SM ok2 Wn (xs.set i (.slice xa XL xc, ⟨td.take m, (min ts m : Nat), true⟩)) R.nm R.la R.ch (.slice ta X1 tc) (.slice a2 R.nm.length c2) (.slice a3 R.la.length c3) (.slice a4 R.ch.length c4) ∧ LB Wn p4 52 [.slice none 0 0, .slice none 0 0, .slice none 0 0, .slice none 0 0] ∧ Below w.heap.size w Wn) := ⟨s9, k4, b9⟩
          have z0 := k4.cell 0 _ rfl
          have z1 := k4.cell 1 _ rfl
          have z2 := k4.cell 2 _ rfl
          have z3 := k4.cell 3 _ rfl
          have g0 := k4.free 0
          have g1 := k4.free 1
          have g2 := k4.free 2
          have g3 := k4.free 3
          have m0 := k2.cell 0 _ rfl
          have m1 := k2.cell 1 _ rfl
          have m2 := k2.cell 2 _ rfl
          have m3 := k2.cell 3 _ rfl
          have f0 := k2.free 0
          clear s9 k2 k4 b9 HC
          have n24 : (p2 = p4) = False := eq_false (Ne.symm HNE.out.1)
          have n42 : (p4 = p2) = False := eq_false HNE.out.1
          go_wp2_with fail
          have LZ := (((((H9.out.2.1.other ⟨p2, 0, none⟩ (.slice ta X1 tc) HNE.out.1).set 0 (.slice ta X1 tc)).set 1 (.slice a2 R.nm.length c2)).set 2 (.slice a3 R.la.length c3)).set 3 (.slice a4 R.ch.length c4))
          refine bodyPost_ret (results_cell_mid rfl _ _ p4 [(.slice ta X1 tc), (.slice a2 R.nm.length c2), (.slice a3 R.la.length c3), (.slice a4 R.ch.length c4)] _ rfl LZ.range Try.underlying52 rfl (by kernel_rfl)) rfl ?_
          have far : ∀ q, q ≠ p2 → q ≠ p4 → q ≠ p7 → (((((Wn.setCell ⟨p2, 0, none⟩ (.slice ta X1 tc)).setCell ⟨p4, 0, none⟩ (.slice ta X1 tc)).setCell ⟨p4, 1, none⟩ (.slice a2 R.nm.length c2)).setCell ⟨p4, 2, none⟩ (.slice a3 R.la.length c3)).setCell ⟨p4, 3, none⟩ (.slice a4 R.ch.length c4)).heap[q]? = Wn.heap[q]? := fun q h2 h4 h7 => by
            rw [set_other _ _ _ _ h4, set_other _ _ _ _ h4, set_other _ _ _ _ h4, set_other _ _ _ _ h4, set_other _ _ _ _ h2]
          have bl := (((((H9.out.2.2.setCell (p := ⟨p2, 0, none⟩) HPB.out.1 (.slice ta X1 tc)).setCell (p := ⟨p4, 0, none⟩) HPB.out.2.1 (.slice ta X1 tc)).setCell (p := ⟨p4, 1, none⟩) HPB.out.2.1 (.slice a2 R.nm.length c2)).setCell (p := ⟨p4, 2, none⟩) HPB.out.2.1 (.slice a3 R.la.length c3)).setCell (p := ⟨p4, 3, none⟩) HPB.out.2.1 (.slice a4 R.ch.length c4))
          exact ⟨_, rfl, st_fin H9.out.1 far HOK2.out HMO.out (by rw [HR.out]; exact ⟨by show R.th.set i _ = _; rw [HXS.out, List.map_set], rfl, rfl, rfl⟩), bl⟩
        · by_cases K5 : K = 5
          · have HR : Hid (ract R o = _) := HKK.out.2.2.2.2.1 K5
            clear HKK HZ HTE
            subst K5
            have HC : Hid (Calls Try.prog 89 #[.agg #[.slice a1 xs.length c1, .slice a2 R.nm.length c2, .slice a3 R.la.length c3, .slice a4 R.ch.length c4], .agg #[.int .i64 2, .string ⟨sa.toArray⟩, .string ⟨sb.toArray⟩, .int .i64 0]] W8 fun e w' => ∃ na X1 nc ka X2 kc, e = .returned (.agg #[.slice a1 xs.length c1, .slice na X1 nc, .slice a3 R.la.length c3, .slice ka X2 kc]) ∧ SM ok2 w' xs (chd R.nm ⟨2, sa, sb, 0⟩) R.la (R.ch ++ [(⟨2, sa, sb, 0⟩ : RCh)]) (.slice a1 xs.length c1) (.slice na X1 nc) (.slice a3 R.la.length c3) (.slice ka X2 kc) ∧ Below W8.heap.size W8 w') := (rknamed_any _ xs R.nm R.la R.ch _ _ _ _ ⟨2, sa, sb, 0⟩ W8 HS8.out HBN.out.1 HBN.out.2.1 (fun _ => ⟨i, HG.out⟩)).mono fun e w' ⟨nv', cv', h1, h2, h3, h4⟩ => by
              obtain ⟨na, nc, rfl⟩ := rw_slice h2
              obtain ⟨ka, kc, rfl⟩ := rw_slice h3
              exact ⟨na, _, nc, ka, _, kc, h1, (HS8.out.kept h4).other (h2.mono HNW.out) ((HS8.out.kept h4).rl) (h3.mono HNW.out), h4⟩
            go_wp2_with fail
            refine HC.out.mono ?_
            rintro e W9 ⟨na, X1, nc, ka, X2, kc, rfl, s9, b9⟩
            have H9 : Hid (SM ok2 W9 xs (chd R.nm ⟨2, sa, sb, 0⟩) R.la (R.ch ++ [(⟨2, sa, sb, 0⟩ : RCh)]) (.slice a1 xs.length c1) (.slice na X1 nc) (.slice a3 R.la.length c3) (.slice ka X2 kc) ∧ Below W8.heap.size W8 W9) := ⟨s9, b9⟩
            clear s9 b9 HC r0 r1 r2 r3 q0 q1 q2 q3 q4 t0 t1 t2
            have L4 := HL8.out.2.2.1.kept H9.out.2
            have z0 := L4.cell 0 _ rfl
            have z1 := L4.cell 1 _ rfl
            have z2 := L4.cell 2 _ rfl
            have z3 := L4.cell 3 _ rfl
            have g0 := L4.free 0
            have g1 := L4.free 1
            have g2 := L4.free 2
            have g3 := L4.free 3
            have HL4 : Hid (LB W9 p4 52 [.slice none 0 0, .slice none 0 0, .slice none 0 0, .slice none 0 0]) := L4
            clear L4
            go_wp2_with fail
            have LZ := ((((HL4.out.set 0 (.slice a1 xs.length c1)).set 1 (.slice na X1 nc)).set 2 (.slice a3 R.la.length c3)).set 3 (.slice ka X2 kc))
            refine bodyPost_ret (results_cell_mid rfl _ _ p4 [(.slice a1 xs.length c1), (.slice na X1 nc), (.slice a3 R.la.length c3), (.slice ka X2 kc)] _ rfl LZ.range Try.underlying52 rfl (by kernel_rfl)) rfl ?_
            have far : ∀ q, q ≠ p2 → q ≠ p4 → q ≠ p7 → ((((W9.setCell ⟨p4, 0, none⟩ (.slice a1 xs.length c1)).setCell ⟨p4, 1, none⟩ (.slice na X1 nc)).setCell ⟨p4, 2, none⟩ (.slice a3 R.la.length c3)).setCell ⟨p4, 3, none⟩ (.slice ka X2 kc)).heap[q]? = W9.heap[q]? := fun q h2 h4 h7 => by
              rw [set_other _ _ _ _ h4, set_other _ _ _ _ h4, set_other _ _ _ _ h4, set_other _ _ _ _ h4]
            have bl := (((((andThen HB8.out H9.out.2).setCell (p := ⟨p4, 0, none⟩) HPB.out.2.1 (.slice a1 xs.length c1)).setCell (p := ⟨p4, 1, none⟩) HPB.out.2.1 (.slice na X1 nc)).setCell (p := ⟨p4, 2, none⟩) HPB.out.2.1 (.slice a3 R.la.length c3)).setCell (p := ⟨p4, 3, none⟩) HPB.out.2.1 (.slice ka X2 kc))
            exact ⟨_, rfl, st_fin H9.out.1 far HOK2.out HMO.out (by rw [HR.out]; exact ⟨HXS.out, rfl, rfl, rfl⟩), bl⟩
          · by_cases K6 : K = 6
            · have HR : Hid (ract R o = _) := HKK.out.2.2.2.2.2.1 K6
              clear HKK HZ HTE
              subst K6
              have HC : Hid (Calls Try.prog 89 #[.agg #[.slice a1 xs.length c1, .slice a2 R.nm.length c2, .slice a3 R.la.length c3, .slice a4 R.ch.length c4], .agg #[.int .i64 3, .string ⟨sa.toArray⟩, .string ⟨#[]⟩, .int .i64 0]] W8 fun e w' => ∃ na X1 nc ka X2 kc, e = .returned (.agg #[.slice a1 xs.length c1, .slice na X1 nc, .slice a3 R.la.length c3, .slice ka X2 kc]) ∧ SM ok2 w' xs (chd R.nm ⟨3, sa, [], 0⟩) R.la (R.ch ++ [(⟨3, sa, [], 0⟩ : RCh)]) (.slice a1 xs.length c1) (.slice na X1 nc) (.slice a3 R.la.length c3) (.slice ka X2 kc) ∧ Below W8.heap.size W8 w') := (rknamed_any _ xs R.nm R.la R.ch _ _ _ _ ⟨3, sa, [], 0⟩ W8 HS8.out HBN.out.1 HBN.out.2.1 (fun e => by cases e)).mono fun e w' ⟨nv', cv', h1, h2, h3, h4⟩ => by
                obtain ⟨na, nc, rfl⟩ := rw_slice h2
                obtain ⟨ka, kc, rfl⟩ := rw_slice h3
                exact ⟨na, _, nc, ka, _, kc, h1, (HS8.out.kept h4).other (h2.mono HNW.out) ((HS8.out.kept h4).rl) (h3.mono HNW.out), h4⟩
              go_wp2_with fail
              refine HC.out.mono ?_
              rintro e W9 ⟨na, X1, nc, ka, X2, kc, rfl, s9, b9⟩
              have H9 : Hid (SM ok2 W9 xs (chd R.nm ⟨3, sa, [], 0⟩) R.la (R.ch ++ [(⟨3, sa, [], 0⟩ : RCh)]) (.slice a1 xs.length c1) (.slice na X1 nc) (.slice a3 R.la.length c3) (.slice ka X2 kc) ∧ Below W8.heap.size W8 W9) := ⟨s9, b9⟩
              clear s9 b9 HC r0 r1 r2 r3 q0 q1 q2 q3 q4 t0 t1 t2
              have L4 := HL8.out.2.2.1.kept H9.out.2
              have z0 := L4.cell 0 _ rfl
              have z1 := L4.cell 1 _ rfl
              have z2 := L4.cell 2 _ rfl
              have z3 := L4.cell 3 _ rfl
              have g0 := L4.free 0
              have g1 := L4.free 1
              have g2 := L4.free 2
              have g3 := L4.free 3
              have HL4 : Hid (LB W9 p4 52 [.slice none 0 0, .slice none 0 0, .slice none 0 0, .slice none 0 0]) := L4
              clear L4
              go_wp2_with fail
              have LZ := ((((HL4.out.set 0 (.slice a1 xs.length c1)).set 1 (.slice na X1 nc)).set 2 (.slice a3 R.la.length c3)).set 3 (.slice ka X2 kc))
              refine bodyPost_ret (results_cell_mid rfl _ _ p4 [(.slice a1 xs.length c1), (.slice na X1 nc), (.slice a3 R.la.length c3), (.slice ka X2 kc)] _ rfl LZ.range Try.underlying52 rfl (by kernel_rfl)) rfl ?_
              have far : ∀ q, q ≠ p2 → q ≠ p4 → q ≠ p7 → ((((W9.setCell ⟨p4, 0, none⟩ (.slice a1 xs.length c1)).setCell ⟨p4, 1, none⟩ (.slice na X1 nc)).setCell ⟨p4, 2, none⟩ (.slice a3 R.la.length c3)).setCell ⟨p4, 3, none⟩ (.slice ka X2 kc)).heap[q]? = W9.heap[q]? := fun q h2 h4 h7 => by
                rw [set_other _ _ _ _ h4, set_other _ _ _ _ h4, set_other _ _ _ _ h4, set_other _ _ _ _ h4]
              have bl := (((((andThen HB8.out H9.out.2).setCell (p := ⟨p4, 0, none⟩) HPB.out.2.1 (.slice a1 xs.length c1)).setCell (p := ⟨p4, 1, none⟩) HPB.out.2.1 (.slice na X1 nc)).setCell (p := ⟨p4, 2, none⟩) HPB.out.2.1 (.slice a3 R.la.length c3)).setCell (p := ⟨p4, 3, none⟩) HPB.out.2.1 (.slice ka X2 kc))
              exact ⟨_, rfl, st_fin H9.out.1 far HOK2.out HMO.out (by rw [HR.out]; exact ⟨HXS.out, rfl, rfl, rfl⟩), bl⟩
            · by_cases K7 : K = 7
              · have HR : Hid (ract R o = _) := HKK.out.2.2.2.2.2.2 K7
                clear HKK HZ HTE
                subst K7
                have HC : Hid (Calls Try.prog 91 #[.agg #[.slice a1 xs.length c1, .slice a2 R.nm.length c2, .slice a3 R.la.length c3, .slice a4 R.ch.length c4]] W8 fun e w' => ∃ ta X1 tc, e = .returned (.agg #[.slice ta X1 tc, .slice a2 R.nm.length c2, .slice a2 R.nm.length c2, .slice none 0 0]) ∧ SM ok2 w' (lsx xs R.nm) R.nm R.nm [] (.slice ta X1 tc) (.slice a2 R.nm.length c2) (.slice a2 R.nm.length c2) (.slice none 0 0) ∧ Below W8.heap.size W8 w') := (rklasting_any _ xs R.nm R.la R.ch _ _ _ _ W8 HS8.out HBN.out.2.2).mono fun e w' ⟨tv', h1, h2, h4⟩ => by
                  obtain ⟨ta, tc, rfl⟩ := rw_slice h2
                  exact ⟨ta, _, tc, h1, ⟨h2.mono HNW.out, lsx_od (HS8.out.kept h4).od, (HS8.out.kept h4).rn, (HS8.out.kept h4).rn, Rw.nil _ _ _ _ _⟩, h4⟩
                go_wp2_with fail
                refine HC.out.mono ?_
                rintro e W9 ⟨ta, X1, tc, rfl, s9, b9⟩
                have H9 : Hid (SM ok2 W9 (lsx xs R.nm) R.nm R.nm [] (.slice ta X1 tc) (.slice a2 R.nm.length c2) (.slice a2 R.nm.length c2) (.slice none 0 0) ∧ Below W8.heap.size W8 W9) := ⟨s9, b9⟩
                clear s9 b9 HC r0 r1 r2 r3 q0 q1 q2 q3 q4 t0 t1 t2
                have L4 := HL8.out.2.2.1.kept H9.out.2
                have z0 := L4.cell 0 _ rfl
                have z1 := L4.cell 1 _ rfl
                have z2 := L4.cell 2 _ rfl
                have z3 := L4.cell 3 _ rfl
                have g0 := L4.free 0
                have g1 := L4.free 1
                have g2 := L4.free 2
                have g3 := L4.free 3
                have HL4 : Hid (LB W9 p4 52 [.slice none 0 0, .slice none 0 0, .slice none 0 0, .slice none 0 0]) := L4
                clear L4
                go_wp2_with fail
                have LZ := ((((HL4.out.set 0 (.slice ta X1 tc)).set 1 (.slice a2 R.nm.length c2)).set 2 (.slice a2 R.nm.length c2)).set 3 (.slice none 0 0))
                refine bodyPost_ret (results_cell_mid rfl _ _ p4 [(.slice ta X1 tc), (.slice a2 R.nm.length c2), (.slice a2 R.nm.length c2), (.slice none 0 0)] _ rfl LZ.range Try.underlying52 rfl (by kernel_rfl)) rfl ?_
                have far : ∀ q, q ≠ p2 → q ≠ p4 → q ≠ p7 → ((((W9.setCell ⟨p4, 0, none⟩ (.slice ta X1 tc)).setCell ⟨p4, 1, none⟩ (.slice a2 R.nm.length c2)).setCell ⟨p4, 2, none⟩ (.slice a2 R.nm.length c2)).setCell ⟨p4, 3, none⟩ (.slice none 0 0)).heap[q]? = W9.heap[q]? := fun q h2 h4 h7 => by
                  rw [set_other _ _ _ _ h4, set_other _ _ _ _ h4, set_other _ _ _ _ h4, set_other _ _ _ _ h4]
                have bl := (((((andThen HB8.out H9.out.2).setCell (p := ⟨p4, 0, none⟩) HPB.out.2.1 (.slice ta X1 tc)).setCell (p := ⟨p4, 1, none⟩) HPB.out.2.1 (.slice a2 R.nm.length c2)).setCell (p := ⟨p4, 2, none⟩) HPB.out.2.1 (.slice a2 R.nm.length c2)).setCell (p := ⟨p4, 3, none⟩) HPB.out.2.1 (.slice none 0 0))
                exact ⟨_, rfl, st_fin H9.out.1 far HOK2.out HMO.out (by rw [HR.out]; exact ⟨by rw [lsx_th, ← HXS.out]; rfl, rfl, rfl, rfl⟩), bl⟩
              · exfalso
                have h9 := (HZ.out K7).2.2.1 (by omega)
                rw [HG.out] at h9
                cases h9
end Go.Proofs.Ytjepeeopjjnglab
