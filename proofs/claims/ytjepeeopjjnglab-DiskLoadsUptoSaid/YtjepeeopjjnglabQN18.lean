import Derived.BigQuiet
import Derived.Test.YtjepeeopjjnglabQN17
/-
  The document's disk: refused.
-/
namespace Go.Proofs.Ytjepeeopjjnglab
open Go Go.RowKit Go.ChangeShapes
open Wb
open Rd
namespace Rd
/-- a disk's value -/
def RdM (ok : Nat → Prop) (w : World) (R : RS) (v : Value) : Prop := ∃ xs tv nv lv cv, v = .agg #[.int .i64 R.quota, tv, nv, lv, cv, .int .i64 R.left, .bool R.down] ∧ R.th = xs.map (·.2) ∧ SM ok w xs R.nm R.la R.ch tv nv lv cv
theorem StM.kept {ok : Nat → Prop} {w w' : World} {R : RS} {v : Value} (h : StM ok w R v) (hb : Below w.heap.size w w') : StM ok w' R v := by
  obtain ⟨xs, tv, nv, lv, cv, e, h1, h2⟩ := h
  exact ⟨xs, tv, nv, lv, cv, e, h1, h2.kept hb⟩
theorem StM.blk {ok : Nat → Prop} {w w' : World} {R : RS} {v : Value} (h : StM ok w R v) (hb : ∀ q, ok q → q < w.heap.size → w'.heap[q]? = w.heap[q]?) : StM ok w' R v := by
  obtain ⟨xs, tv, nv, lv, cv, e, h1, h2⟩ := h
  exact ⟨xs, tv, nv, lv, cv, e, h1, h2.blk hb⟩
theorem StM.mono {ok ok2 : Nat → Prop} {w : World} {R : RS} {v : Value} (h : StM ok w R v) (hm : ∀ q, ok q → ok2 q) : StM ok2 w R v := by
  obtain ⟨xs, tv, nv, lv, cv, e, h1, h2⟩ := h
  exact ⟨xs, tv, nv, lv, cv, e, h1, h2.mono hm⟩
theorem RdM.kept {ok : Nat → Prop} {w w' : World} {R : RS} {v : Value} (h : RdM ok w R v) (hb : Below w.heap.size w w') : RdM ok w' R v := by
  obtain ⟨xs, tv, nv, lv, cv, e, h1, h2⟩ := h
  exact ⟨xs, tv, nv, lv, cv, e, h1, h2.kept hb⟩
theorem RdM.blk {ok : Nat → Prop} {w w' : World} {R : RS} {v : Value} (h : RdM ok w R v) (hb : ∀ q, ok q → q < w.heap.size → w'.heap[q]? = w.heap[q]?) : RdM ok w' R v := by
  obtain ⟨xs, tv, nv, lv, cv, e, h1, h2⟩ := h
  exact ⟨xs, tv, nv, lv, cv, e, h1, h2.blk hb⟩
theorem RdM.mono {ok ok2 : Nat → Prop} {w : World} {R : RS} {v : Value} (h : RdM ok w R v) (hm : ∀ q, ok q → ok2 q) : RdM ok2 w R v := by
  obtain ⟨xs, tv, nv, lv, cv, e, h1, h2⟩ := h
  exact ⟨xs, tv, nv, lv, cv, e, h1, h2.mono hm⟩
end Rd
set_option maxRecDepth 100000 in
set_option maxHeartbeats 32000000 in
theorem rkrefused_any (ok : Nat → Prop) (R : RS) (v : Value) (o : Rop) (da : Option Addr) (dc : Nat) (w : World) (h : RdM ok w R v) (hk : 1 ≤ o.k ∧ o.k ≤ 7) (hsa : o.a.size ≤ maxLen) (hsb : o.b.size ≤ maxLen) (hok : okl R.th R.nm) (hq : 0 ≤ R.quota ∧ R.quota ≤ 4194304) (htk : tkn R.th ≤ 4194304) (_hdl : o.data.length ≤ 1000000000) :
    Calls Try.prog 76 #[v, .agg #[.int .i64 o.k, .string o.a, .string o.b, .int .i64 o.n, .slice da o.data.length dc]] w fun e w' => e = .returned (.int .i64 (rref R o)) ∧ Below w.heap.size w w' := by
  obtain ⟨xs, tv, nv, lv, cv, rfl, hxs, hS⟩ := h
  have HPA0 : Hid (∀ W, Calls Try.prog 66 #[.string o.a] W fun e w' => e = .returned (.bool (Dk.isNm o.a.data.toList)) ∧ W = w') := fun W => (rkpath_any o.a W hsa).mono fun e w' ⟨h1, h2⟩ => ⟨h1, h2.symm⟩
  have HPB0 : Hid (∀ W, Calls Try.prog 66 #[.string o.b] W fun e w' => e = .returned (.bool (Dk.isNm o.b.data.toList)) ∧ W = w') := fun W => (rkpath_any o.b W hsb).mono fun e w' ⟨h1, h2⟩ => ⟨h1, h2.symm⟩
  obtain ⟨sa, hsa⟩ : ∃ s : List UInt8, o.a = ⟨s.toArray⟩ := ⟨o.a.data.toList, by simp⟩
  obtain ⟨sb, hsb⟩ : ∃ s : List UInt8, o.b = ⟨s.toArray⟩ := ⟨o.b.data.toList, by simp⟩
  have ea : o.a.data.toList = sa := by rw [hsa]
  have eb : o.b.data.toList = sb := by rw [hsb]
  rw [ea, hsa] at HPA0
  rw [eb, hsb] at HPB0
  have R7 : Hid (o.k = 7 → rref R o = 0) := rr7
  have RA : Hid (o.k ≠ 7 → Dk.isNm sa = false → rref R o = 61) := by have h9 := rrA (R := R) (o := o); rw [ea] at h9; exact h9
  have RB : Hid (o.k = 5 → Dk.isNm sa = true → Dk.isNm sb = false → rref R o = 61) := by have h9 := rrB (R := R) (o := o); rw [ea, eb] at h9; exact h9
  have R1 : Hid (o.k = 1 → Dk.isNm sa = true → rref R o = if (Dk.get R.nm sa).isSome = true then 62 else 0) := by have h9 := rr1 (R := R) (o := o); rw [ea] at h9; exact h9
  have RN : Hid (o.k ≠ 7 → o.k ≠ 1 → Dk.isNm sa = true → (o.k = 5 → Dk.isNm sb = true) → Dk.get R.nm sa = none → rref R o = 63) := by have h9 := rrN (R := R) (o := o); rw [ea, eb] at h9; exact h9
  have RS : Hid (o.k ≠ 7 → o.k ≠ 1 → Dk.isNm sa = true → (o.k = 5 → Dk.isNm sb = true) → ∀ i, Dk.get R.nm sa = some i → rref R o = if o.k = 4 ∧ (o.n < 0 ∨ o.n > ((R.th.getD i ⟨[], 0, false⟩).data.length : Int)) then 65 else if o.k = 2 ∧ (o.data.length : Int) > R.quota - (tkn R.th : Int) then 64 else 0) := by
    intro k1 k2 h1 h2 i h3
    refine rrS k1 k2 ?_ ?_ ?_
    · rw [ea]
      exact h1
    · rw [eb]
      exact h2
    · rw [ea]
      exact h3
  have HXS : Hid (R.th = xs.map (·.2)) := hxs
  have hxl : R.th.length = xs.length := by rw [hxs, List.length_map]
  have HXL : Hid (R.th.length = xs.length) := hxl
  have HOKL : Hid (okl R.th R.nm) := hok
  have HV0 : Hid (SM ok w xs R.nm R.la R.ch tv nv lv cv) := hS
  have HQ : Hid ((0 ≤ R.quota ∧ R.quota ≤ 4194304) ∧ tkn R.th ≤ 4194304) := ⟨hq, htk⟩
  obtain ⟨a1, c1, e1, h1, h2, h3⟩ := row_at hS.rt.row
  subst e1
  obtain ⟨a2, c2, e2, n1, n2, n3⟩ := row_at hS.rn.row
  subst e2
  obtain ⟨a3, c3, rfl⟩ := rw_slice hS.rl
  obtain ⟨a4, c4, rfl⟩ := rw_slice hS.rc
  unfold maxLen at h2 n2
  rw [hsa, hsb]
  obtain ⟨K, hK⟩ : ∃ K, K = o.k := ⟨_, rfl⟩
  obtain ⟨n, hn⟩ : ∃ n, n = o.n := ⟨_, rfl⟩
  obtain ⟨dn, hdn⟩ : ∃ d, d = o.data.length := ⟨_, rfl⟩
  obtain ⟨E, hE⟩ : ∃ E, E = rref R o := ⟨_, rfl⟩
  rw [← hK, ← hE] at R7 RA RB R1 RN RS
  rw [← hK] at hk
  rw [← hn, ← hdn] at RS
  rw [← hK, ← hE, ← hn, ← hdn]
  clear hK hE hn hdn ea eb hsa hsb hS hok hq htk hxs hxl
  obtain ⟨l2, l3, b2⟩ := lb_new2 w [.int .i64 R.quota, .slice a1 xs.length c1, .slice a2 R.nm.length c2, .slice a3 R.la.length c3, .slice a4 R.ch.length c4, .int .i64 R.left, .bool R.down] [.int .i64 K, .string ⟨sa.toArray⟩, .string ⟨sb.toArray⟩, .int .i64 n, .slice da dn dc] 54 121
  go_enter Try.func76, Try.ntmps76
  go_upto_region 1 with fail
  obtain ⟨W2, hW2⟩ : ∃ W, W = (w.alloc (.cells #[.int .i64 R.quota, .slice a1 xs.length c1, .slice a2 R.nm.length c2, .slice a3 R.la.length c3, .slice a4 R.ch.length c4, .int .i64 R.left, .bool R.down] 54)).alloc (.cells #[.int .i64 K, .string ⟨sa.toArray⟩, .string ⟨sb.toArray⟩, .int .i64 n, .slice da dn dc] 121) := ⟨_, rfl⟩
  rw [← hW2]
  obtain ⟨p2, hp2⟩ : ∃ p, p = w.heap.size := ⟨_, rfl⟩
  obtain ⟨p3, hp3⟩ : ∃ p, p = w.heap.size + 1 := ⟨_, rfl⟩
  rw [← hp3, ← hp2]
  have HB2 : Hid (LB W2 p2 54 [.int .i64 R.quota, .slice a1 xs.length c1, .slice a2 R.nm.length c2, .slice a3 R.la.length c3, .slice a4 R.ch.length c4, .int .i64 R.left, .bool R.down] ∧ LB W2 p3 121 [.int .i64 K, .string ⟨sa.toArray⟩, .string ⟨sb.toArray⟩, .int .i64 n, .slice da dn dc] ∧ Below w.heap.size w W2) := by
    rw [hp2, hp3, hW2]
    exact ⟨l2, l3, b2⟩
  clear l2 l3 b2 hW2 hp2 hp3
  have d0 := HB2.out.1.cell 0 _ rfl
  have d1 := HB2.out.1.cell 1 _ rfl
  have d2 := HB2.out.1.cell 2 _ rfl
  have d3 := HB2.out.1.cell 3 _ rfl
  have d4 := HB2.out.1.cell 4 _ rfl
  have q0 := HB2.out.2.1.cell 0 _ rfl
  have q1 := HB2.out.2.1.cell 1 _ rfl
  have q2 := HB2.out.2.1.cell 2 _ rfl
  have HPA : Hid (Calls Try.prog 66 #[.string ⟨sa.toArray⟩] W2 fun e w' => e = .returned (.bool (Dk.isNm sa)) ∧ W2 = w') := HPA0.out W2
  have HPB : Hid (Calls Try.prog 66 #[.string ⟨sb.toArray⟩] W2 fun e w' => e = .returned (.bool (Dk.isNm sb)) ∧ W2 = w') := HPB0.out W2
  clear HPA0 HPB0
  by_cases k7 : K = 7
  · have HE : Hid (E = 0) := R7.out k7
    subst k7
    clear R7 RA RB R1 RN RS
    go_wp2_with fail
    go_returns
    exact ⟨by rw [HE.out]; rfl, HB2.out.2.2⟩
  · have x7 : (K == 7) = false := beq_eq_false_iff_ne.2 k7
    cases hna : Dk.isNm sa with
    | false =>
      have HE : Hid (E = 61) := RA.out k7 hna
      rw [hna] at HPA
      clear R7 RA RB R1 RN RS hna
      go_wp2_with fail
      refine HPA.out.mono ?_
      rintro e Wf ⟨rfl, rfl⟩
      go_wp2_with fail
      go_returns
      exact ⟨by rw [HE.out]; rfl, HB2.out.2.2⟩
    | true =>
      rw [hna] at HPA
      have HB6 := up0 W2 (.cells #[.slice a1 xs.length c1, .slice a2 R.nm.length c2, .slice a3 R.la.length c3, .slice a4 R.ch.length c4] 52)
      have l6 := lb_new W2 [.slice a1 xs.length c1, .slice a2 R.nm.length c2, .slice a3 R.la.length c3, .slice a4 R.ch.length c4] 52
      obtain ⟨W6, hW6⟩ : ∃ W, W = W2.alloc (.cells #[.slice a1 xs.length c1, .slice a2 R.nm.length c2, .slice a3 R.la.length c3, .slice a4 R.ch.length c4] 52) := ⟨_, rfl⟩
      obtain ⟨p6, hp6⟩ : ∃ p, p = W2.heap.size := ⟨_, rfl⟩
      have H6 : Hid (LB W6 p6 52 [.slice a1 xs.length c1, .slice a2 R.nm.length c2, .slice a3 R.la.length c3, .slice a4 R.ch.length c4] ∧ LB W6 p2 54 [.int .i64 R.quota, .slice a1 xs.length c1, .slice a2 R.nm.length c2, .slice a3 R.la.length c3, .slice a4 R.ch.length c4, .int .i64 R.left, .bool R.down] ∧ LB W6 p3 121 [.int .i64 K, .string ⟨sa.toArray⟩, .string ⟨sb.toArray⟩, .int .i64 n, .slice da dn dc] ∧ Below w.heap.size w W6) := by
        rw [hW6, hp6]
        exact ⟨l6, HB2.out.1.kept HB6, HB2.out.2.1.kept HB6, andThen HB2.out.2.2 HB6⟩
      have HW6 : Hid (W2.alloc (.cells #[.slice a1 xs.length c1, .slice a2 R.nm.length c2, .slice a3 R.la.length c3, .slice a4 R.ch.length c4] 52) = W6 ∧ W2.heap.size = p6) := ⟨hW6.symm, hp6.symm⟩
      clear HB6 l6 hW6 hp6
      have HFN : Hid (Calls Try.prog 88 #[.slice a2 R.nm.length c2, .string ⟨sa.toArray⟩] W6 fun e w' => ∃ r, e = .returned (.int .i64 r) ∧ FnP R.nm sa r ∧ W6 = w') := (rkfind_any ok _ R.nm sa W6 (HV0.out.kept H6.out.2.2.2).rn).mono fun e w' ⟨r, h1, h2, h3⟩ => ⟨r, h1, h2, h3.symm⟩
      by_cases hb5 : K = 5 → Dk.isNm sb = true
      · -- up to find
        have hst : Hid (∀ (x : Nat), x = x) := fun _ => rfl
        by_cases k5 : K = 5
        · have hnb := hb5 k5
          rw [hnb] at HPB
          subst k5
          go_wp2_with fail
          refine HPA.out.mono ?_
          rintro e Wf ⟨rfl, rfl⟩
          go_wp2_with fail
          refine HPB.out.mono ?_
          rintro e Wf ⟨rfl, rfl⟩
          go_upto_region 11 with fail
          rw [HW6.out.1, HW6.out.2]
          clear d1 d2 d3 d4 q0 q1 q2 d0
          have s0 := H6.out.1.cell 0 _ rfl
          have s1 := H6.out.1.cell 1 _ rfl
          have s2 := H6.out.1.cell 2 _ rfl
          have s3 := H6.out.1.cell 3 _ rfl
          have q0 := H6.out.2.2.1.cell 0 _ rfl
          have q1 := H6.out.2.2.1.cell 1 _ rfl
          have q3 := H6.out.2.2.1.cell 3 _ rfl
          have q4 := H6.out.2.2.1.cell 4 _ rfl
          have d0 := H6.out.2.1.cell 0 _ rfl
          go_wp2_with fail
          refine HFN.out.mono ?_
          rintro e Wf ⟨r, rfl, hF, rfl⟩
          rcases hF with ⟨rfl, hg⟩ | ⟨j, hj, rfl, -, hg⟩
          · have HE : Hid (E = 63) := RN.out (by omega) (by omega) hna hb5 hg
            clear R7 RA RB R1 RN RS hna hb5 hg HFN
            go_wp2_with fail
            go_returns
            exact ⟨by rw [HE.out]; rfl, H6.out.2.2.2⟩
          · have HE : Hid (E = 0) := by
              have h9 := RS.out (by omega) (by omega) hna hb5 _ hg
              rw [if_neg (fun e => by omega), if_neg (fun e => by omega)] at h9
              exact h9
            clear R7 RA RB R1 RN RS hna hb5 hg HFN
            go_wp2_with fail
            go_quiet (fail)
            go_wp2_with fail
            go_quiet (fail)
            go_wp2_with fail
            go_returns
            exact ⟨by rw [HE.out]; rfl, bel_drewN (bel_drewN H6.out.2.2.2 _) _⟩
        · have x5 : (K == 5) = false := beq_eq_false_iff_ne.2 k5
          go_wp2_with fail
          refine HPA.out.mono ?_
          rintro e Wf ⟨rfl, rfl⟩
          go_upto_region 11 with fail
          rw [HW6.out.1, HW6.out.2]
          clear d1 d2 d3 d4 q0 q1 q2 d0
          have s0 := H6.out.1.cell 0 _ rfl
          have s1 := H6.out.1.cell 1 _ rfl
          have s2 := H6.out.1.cell 2 _ rfl
          have s3 := H6.out.1.cell 3 _ rfl
          have q0 := H6.out.2.2.1.cell 0 _ rfl
          have q1 := H6.out.2.2.1.cell 1 _ rfl
          have q3 := H6.out.2.2.1.cell 3 _ rfl
          have q4 := H6.out.2.2.1.cell 4 _ rfl
          have d0 := H6.out.2.1.cell 0 _ rfl
          go_wp2_with fail
          refine HFN.out.mono ?_
          rintro e Wf ⟨r, rfl, hF, rfl⟩
          rcases hF with ⟨rfl, hg⟩ | ⟨j, hj, rfl, -, hg⟩
          · by_cases k1 : K = 1
            · have HE : Hid (E = 0) := by
                have h9 := R1.out k1 hna
                rw [hg] at h9
                exact h9
              clear R7 RA RB R1 RN RS hna hb5 hg HFN
              subst k1
              go_wp2_with fail
              go_returns
              exact ⟨by rw [HE.out]; rfl, H6.out.2.2.2⟩
            · have x1 : (K == 1) = false := beq_eq_false_iff_ne.2 k1
              have HE : Hid (E = 63) := RN.out k7 k1 hna hb5 hg
              clear R7 RA RB R1 RN RS hna hb5 hg HFN
              go_wp2_with fail
              go_returns
              exact ⟨by rw [HE.out]; rfl, H6.out.2.2.2⟩
          · by_cases k1 : K = 1
            · have HE : Hid (E = 62) := by
                have h9 := R1.out k1 hna
                rw [hg] at h9
                exact h9
              clear R7 RA RB R1 RN RS hna hb5 hg HFN
              subst k1
              go_wp2_with fail
              go_returns
              exact ⟨by rw [HE.out]; rfl, H6.out.2.2.2⟩
            · have x1 : (K == 1) = false := beq_eq_false_iff_ne.2 k1
              have x5 : (K == 5) = false := beq_eq_false_iff_ne.2 k5
              have hRS := RS.out k7 k1 hna hb5 _ hg
              have hil : R.nm[j].2 < xs.length := by rw [← HXL.out]; exact tok_lt (get_tok HOKL.out hg)
              obtain ⟨i, hi⟩ : ∃ i, i = R.nm[j].2 := ⟨_, rfl⟩
              obtain ⟨T, hT⟩ : ∃ T, T = tkn R.th := ⟨_, rfl⟩
              have HTN : Hid (∀ W, Below W6.heap.size W6 W → Calls Try.prog 52 #[.agg #[.slice a1 xs.length c1, .slice a2 R.nm.length c2, .slice a3 R.la.length c3, .slice a4 R.ch.length c4]] W fun e w' => e = .returned (.int .i64 (T : Int)) ∧ Below W.heap.size W w') := fun W hW => by
                have h9 := rktaken_any ok xs R.nm R.la R.ch _ _ _ _ W (HV0.out.kept (andThen H6.out.2.2.2 hW)) (by rw [← HXS.out]; have := HQ.out.2; omega)
                rw [← HXS.out, ← hT] at h9
                exact h9
              rw [← hT] at hRS
              have HQT : Hid ((0 ≤ R.quota ∧ R.quota ≤ 4194304) ∧ T ≤ 4194304) := by rw [hT]; exact HQ.out
              clear hT
              obtain ⟨nb, hnb⟩ := n3 (List.ne_nil_of_length_pos (by omega))
              subst hnb
              obtain ⟨-, y9⟩ := (HV0.out.kept H6.out.2.2.2).rn.cells j hj
              rw [← hi] at hil y9 hRS
              obtain ⟨xv, td, ts, tt, hxi⟩ : ∃ xv td ts tt, xs[i]? = some (xv, (⟨td, ts, tt⟩ : Th)) := ⟨xs[i].1, xs[i].2.data, xs[i].2.syn, xs[i].2.there, List.getElem?_eq_getElem hil⟩
              have hgd : R.th.getD i ⟨[], 0, false⟩ = ⟨td, ts, tt⟩ := by
                rw [HXS.out, List.getD_eq_getElem?_getD, List.getElem?_map, hxi]
                rfl
              rw [hgd] at hRS
              obtain ⟨ta0, tc0, ev, -⟩ := Mg.row_shape ((HV0.out.kept H6.out.2.2.2).od _ (List.mem_of_getElem? hxi)).1.row
              simp only at ev
              subst ev
              obtain ⟨tb, htb⟩ := h3 (List.ne_nil_of_length_pos (by omega))
              subst htb
              have y0 := row_cellx enT_len (HV0.out.kept H6.out.2.2.2).rt.row i _ hxi 0 _ rfl
              simp only [Nat.add_zero] at y0
              clear R7 RA RB R1 RN RS hna hb5 hg HFN hgd hxi hi
              by_cases k4 : K = 4
              · have x2 : (K == 2) = false := beq_eq_false_iff_ne.2 (by omega)
                by_cases hn0 : n < 0
                · have HE : Hid (E = 65) := by rw [if_pos ⟨k4, .inl hn0⟩] at hRS; exact hRS
                  have dn0 : (n < 0) = True := eq_true hn0
                  clear hRS
                  subst k4
                  go_wp2_with fail
                  go_quiet (fail)
                  go_wp2_with fail
                  go_returns
                  exact ⟨by rw [HE.out]; rfl, bel_drewN H6.out.2.2.2 _⟩
                · have dn0 : (n < 0) = False := eq_false hn0
                  by_cases hn1 : n > (td.length : Int)
                  · have HE : Hid (E = 65) := by rw [if_pos ⟨k4, .inr hn1⟩] at hRS; exact hRS
                    have dn1 : ((td.length : Int) < n) = True := eq_true hn1
                    clear hRS
                    subst k4
                    go_wp2_with fail
                    go_quiet (fail)
                    go_wp2_with fail
                    go_returns
                    exact ⟨by rw [HE.out]; rfl, bel_drewN H6.out.2.2.2 _⟩
                  · have HE : Hid (E = 0) := by rw [if_neg (fun e => e.2.elim hn0 hn1), if_neg (fun e => by omega)] at hRS; exact hRS
                    have dn1 : ((td.length : Int) < n) = False := eq_false hn1
                    clear hRS
                    subst k4
                    go_wp2_with fail
                    go_quiet (fail)
                    go_wp2_with fail
                    go_quiet (fail)
                    go_wp2_with fail
                    go_returns
                    exact ⟨by rw [HE.out]; rfl, bel_drewN (bel_drewN H6.out.2.2.2 _) _⟩
              · have x4 : (K == 4) = false := beq_eq_false_iff_ne.2 k4
                by_cases k2 : K = 2
                · rw [if_neg (fun e => k4 e.1)] at hRS
                  subst k2
                  go_wp2_with fail
                  go_quiet (fail)
                  go_wp2_with fail
                  obtain ⟨Wd, hWd⟩ : ∃ W, W = W6.drewN nq := ⟨_, rfl⟩
                  have HBD : Hid (Below W6.heap.size W6 Wd) := by rw [hWd]; exact bel_drewN (Below.refl _ _) _
                  rw [← hWd]
                  have HCK : Hid (∀ W, Below Wd.heap.size Wd W → W.cell? ⟨p3, 0, none⟩ = some (.int .i64 2) ∧ W.cell? ⟨p3, 4, none⟩ = some (.slice da dn dc) ∧ W.cell? ⟨p2, 0, none⟩ = some (.int .i64 R.quota) ∧ W.cell? ⟨p6, 0, none⟩ = some (.slice (some ⟨tb, 0, none⟩) xs.length c1) ∧ W.cell? ⟨p6, 1, none⟩ = some (.slice (some ⟨nb, 0, none⟩) R.nm.length c2) ∧ W.cell? ⟨p6, 2, none⟩ = some (.slice a3 R.la.length c3) ∧ W.cell? ⟨p6, 3, none⟩ = some (.slice a4 R.ch.length c4)) := fun W hW => by
                    have h9 := andThen HBD.out hW
                    have l3 := H6.out.2.2.1.kept h9
                    have l2 := H6.out.2.1.kept h9
                    have l6 := H6.out.1.kept h9
                    exact ⟨l3.cell 0 _ rfl, l3.cell 4 _ rfl, l2.cell 0 _ rfl, l6.cell 0 _ rfl, l6.cell 1 _ rfl, l6.cell 2 _ rfl, l6.cell 3 _ rfl⟩
                  clear hWd q0 q1 q3 q4 d0 s0 s1 s2 s3 y0 y9
                  obtain ⟨q0, q4, d0, s0, s1, s2, s3⟩ := HCK.out Wd (Below.refl _ _)
                  by_cases hfu : (dn : Int) > R.quota - (T : Int)
                  · have HE : Hid (E = 64) := by rw [if_pos ⟨trivial, hfu⟩] at hRS; exact hRS
                    have dfu : (R.quota - (T : Int) < (dn : Int)) = True := eq_true hfu
                    clear hfu
                    have hw : IntKind.i64.wrap (R.quota - (T : Int)) = R.quota - (T : Int) := IntWalk.i64_in _ (by have := HQT.out; omega)
                    clear hRS
                    go_region_held (fun w' => w'.cell? ⟨p3, 0, none⟩ = some (.int .i64 2) ∧ w'.cell? ⟨p3, 4, none⟩ = some (.slice da dn dc) ∧ w'.cell? ⟨p2, 0, none⟩ = some (.int .i64 R.quota) ∧ w'.cell? ⟨p6, 0, none⟩ = some (.slice (some ⟨tb, 0, none⟩) xs.length c1) ∧ w'.cell? ⟨p6, 1, none⟩ = some (.slice (some ⟨nb, 0, none⟩) R.nm.length c2) ∧ w'.cell? ⟨p6, 2, none⟩ = some (.slice a3 R.la.length c3) ∧ w'.cell? ⟨p6, 3, none⟩ = some (.slice a4 R.ch.length c4)) (first | go_keep | (exact HCK.out _ (andThen (Below.drew (Below.refl _ _)) hb')))
                      (first | (go_at_call 52; refine (HTN.out _ ?_).mono ?_; (exact andThen HBD.out (Below.drew (Below.refl _ _))); rintro e w' ⟨rfl, hb'⟩))
                    have hb2 : Below w.heap.size w w' := andThen H6.out.2.2.2 (andThen HBD.out (andThen (Below.drew (Below.refl _ _)) hb'))
                    have HB9 : Hid (Below w.heap.size w w') := hb2
                    clear hb' hb2 q0 q4 d0 s0 s1 s2 s3
                    go_wp2_with fail
                    go_returns
                    exact ⟨by rw [HE.out]; rfl, HB9.out⟩
                  · have HE : Hid (E = 0) := by rw [if_neg (fun e => hfu e.2)] at hRS; exact hRS
                    have dfu : (R.quota - (T : Int) < (dn : Int)) = False := eq_false hfu
                    clear hfu
                    have hw : IntKind.i64.wrap (R.quota - (T : Int)) = R.quota - (T : Int) := IntWalk.i64_in _ (by have := HQT.out; omega)
                    clear hRS
                    go_region_held (fun w' => w'.cell? ⟨p3, 0, none⟩ = some (.int .i64 2) ∧ w'.cell? ⟨p3, 4, none⟩ = some (.slice da dn dc) ∧ w'.cell? ⟨p2, 0, none⟩ = some (.int .i64 R.quota) ∧ w'.cell? ⟨p6, 0, none⟩ = some (.slice (some ⟨tb, 0, none⟩) xs.length c1) ∧ w'.cell? ⟨p6, 1, none⟩ = some (.slice (some ⟨nb, 0, none⟩) R.nm.length c2) ∧ w'.cell? ⟨p6, 2, none⟩ = some (.slice a3 R.la.length c3) ∧ w'.cell? ⟨p6, 3, none⟩ = some (.slice a4 R.ch.length c4)) (first | go_keep | (exact HCK.out _ (andThen (Below.drew (Below.refl _ _)) hb')))
                      (first | (go_at_call 52; refine (HTN.out _ ?_).mono ?_; (exact andThen HBD.out (Below.drew (Below.refl _ _))); rintro e w' ⟨rfl, hb'⟩))
                    have hb2 : Below w.heap.size w w' := andThen H6.out.2.2.2 (andThen HBD.out (andThen (Below.drew (Below.refl _ _)) hb'))
                    have HB9 : Hid (Below w.heap.size w w') := hb2
                    clear hb' hb2 q0 q4 d0 s0 s1 s2 s3
                    go_wp2_with fail
                    go_returns
                    exact ⟨by rw [HE.out]; rfl, HB9.out⟩
                · have x2 : (K == 2) = false := beq_eq_false_iff_ne.2 k2
                  have HE : Hid (E = 0) := by rw [if_neg (fun e => k4 e.1), if_neg (fun e => k2 e.1)] at hRS; exact hRS
                  clear hRS
                  go_wp2_with fail
                  go_quiet (fail)
                  go_wp2_with fail
                  go_quiet (fail)
                  go_wp2_with fail
                  go_returns
                  exact ⟨by rw [HE.out]; rfl, bel_drewN (bel_drewN H6.out.2.2.2 _) _⟩
      · have k5 : K = 5 := by
          by_cases e : K = 5
          · exact e
          · exact absurd (fun e2 => absurd e2 e) hb5
        have hnb : Dk.isNm sb = false := by
          cases e : Dk.isNm sb with
          | false => rfl
          | true => exact absurd (fun _ => e) hb5
        have HE : Hid (E = 61) := RB.out k5 hna hnb
        rw [hnb] at HPB
        clear R7 RA RB R1 RN RS hna hb5 hnb
        subst k5
        go_wp2_with fail
        refine HPA.out.mono ?_
        rintro e Wf ⟨rfl, rfl⟩
        go_wp2_with fail
        refine HPB.out.mono ?_
        rintro e Wf ⟨rfl, rfl⟩
        go_wp2_with fail
        go_returns
        exact ⟨by rw [HE.out]; rfl, HB2.out.2.2⟩
end Go.Proofs.Ytjepeeopjjnglab
