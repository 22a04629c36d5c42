import Derived.Test.YtceokpklcfmadaaQM1
/-
  IndexMany: told.
-/
namespace Go.Proofs.Ytceokpklcfmadaa
open Go Go.RowKit Go.ChangeShapes
open Wb
attribute [local go_sem] Oper.semAt_some

theorem st_lenW {ops : Array Oper} {o : Oper} {a : Act} {W : World} {K : Act → World → Prop} {Q : Exit → Act → World → Prop} {E : Prop} (hw : Region.wanted o (yielded ops a.tmps) = true) (p : Nat) (ho : o.op = .call { callee := .value (.func 14), args := #[.tmp p], argTypes := #[23] }) {u1 : Value} (hp : a.tmps[p]?.getD undef = u1) {R : Value → World → Prop} (hC : Calls Try.prog 14 #[u1] W fun e W' => ∃ v', e = .returned v' ∧ R v' W') (h : ∀ v' W', R v' W' → K (a.put o.dst v') W') : if Region.wanted o (yielded ops a.tmps) = true then Oper.wp Try.prog o a W K Q else E := by
  rw [if_pos hw]
  obtain ⟨dst, op', ty, pos, after, guard⟩ := o
  simp only at ho
  subst ho
  have HC : Hid (Calls Try.prog 14 #[u1] W fun e W' => ∃ v', e = .returned v' ∧ R v' W') := hC
  clear hC hw
  go_simp
  refine HC.out.mono ?_
  rintro e W' ⟨v', rfl, r⟩
  exact h v' W' r
set_option maxRecDepth 100000 in
set_option maxHeartbeats 8000000 in
theorem ixtold_any (g b base N : Nat) (n m step cnt : Nat) (w : World) (h : MI w g b base N (Ix.tl step cnt m)) (hN : N < 1000000000) (hs1 : 1 ≤ step) (hs2 : step ≤ 2) (hcn : cnt = n / step) (hn0 : 1 ≤ n) (hn : n ≤ 3000) (hm0 : 1 ≤ m) (hm : m ≤ 400) (hnm : n * m ≤ 20000) :
    Calls Try.prog 26 #[.pointer (some ⟨g, 0, none⟩), .int .i64 (n : Int), .int .i64 (m : Int), .int .i64 (step : Int)] w fun e w' => e = .returned (.bool true) ∧ Below w.heap.size w w' := by
  refine callsIn_wide (n := 5) |>.1 ?_
  have HM : Hid (MI w g b base N (Ix.tl step cnt m)) := h
  have hcnt : cnt ≤ n := by rw [hcn]; exact Nat.div_le_self _ _
  have HCN : Hid (cnt = n / step) := hcn
  have HNM : Hid (n * m ≤ 20000) := hnm
  have HTR : Hid (Ix.rising (Ix.tl step cnt m)) := Ix.tl_rising step cnt m hs1
  obtain ⟨keys, hkeys⟩ : ∃ keys, keys = (Ix.tl step cnt m).map (·.1) := ⟨_, rfl⟩
  have hkl : keys.length = cnt := by rw [hkeys, List.length_map, Ix.tl_len]
  have HKS : Hid (∀ j (hj : j < cnt), ∀ h : j < keys.length, keys[j] = 3 * ((step * (j + 1) : Nat) : Int)) := fun j hj h => by
    have e : keys = (List.range' 1 cnt).map fun (t : Nat) => 3 * ((step * t : Nat) : Int) := by rw [hkeys, Ix.tl_keys]
    subst e
    rw [List.getElem_map, List.getElem_range', Nat.one_mul, Nat.add_comm 1 j]
  have HKY : Hid (∀ W, Below w.heap.size w W → Calls Try.prog 18 #[.pointer (some ⟨g, 0, none⟩)] W fun e w' => ∃ v, e = .returned v ∧ Ri w' v keys ∧ Below W.heap.size W w') := fun W hW => by
    rw [hkeys]
    exact ixkeys_any g b base N _ W (HM.out.kept hW) (by rw [Ix.tl_len]; omega)
  have HGT : Hid (∀ W, Below w.heap.size w W → ∀ (j a : Nat), a = step * (j + 1) → j < cnt → Calls Try.prog 21 #[.pointer (some ⟨g, 0, none⟩), .int .i64 (3 * (a : Int))] W fun e w' => ∃ v', e = .returned v' ∧ Ri w' v' (Ix.vs a m) ∧ Below W.heap.size W w') := fun W hW j a ha hj => by
    have h9 := ixget_any g b base N (Ix.tl step cnt m) (3 * ((step * (j + 1) : Nat) : Int)) W (HM.out.kept hW) (by
      have hb : step * (j + 1) ≤ 6000 := by
        have := Nat.mul_le_mul hs2 (show j + 1 ≤ 3000 by omega)
        omega
      generalize step * (j + 1) = q at hb ⊢
      simp [Lit.wf, IntKind.min, IntKind.max, IntKind.signed, IntKind.bits]
      omega) hN
    rw [Ix.tl_get step cnt m (j + 1) hs1 (by omega) (by omega)] at h9
    rw [ha]
    exact h9
  have HLE : Hid (∀ W, Below w.heap.size w W → Calls Try.prog 14 #[.pointer (some ⟨g, 0, none⟩)] W fun e w' => e = .returned (.int .i64 ((cnt * m : Nat) : Int)) ∧ Below W.heap.size W w') := fun W hW => by
    have h9 := ixlen_any g b base N _ W (HM.out.kept hW) (by
      rw [Ix.tl_total]
      have := Nat.mul_le_mul_right m hcnt
      omega)
    rw [Ix.tl_total] at h9
    exact h9
  have HW1 : Hid (∀ W, W = w.alloc (.cells #[.bool false] 4) → LB W w.heap.size 4 [.bool false] ∧ Below w.heap.size w W) := fun W e => by
    subst e
    exact ⟨lb_new w [.bool false] 4, up0 _ _⟩
  clear h hkeys hcn hnm
  refine callsIn_of_wp_marks Try.func26 rfl trivial ?_ rfl
  simp only [Try.ntmps26, List.size_toArray, List.length_cons, List.length_nil, Nat.reduceAdd, Nat.reduceSub, Array.replicate_succ, Array.replicate_zero, List.push_toArray, List.append_toArray, List.nil_append, List.cons_append]
  gi_upto_region 1 with fail
  obtain ⟨W1, hW1⟩ : ∃ W1, W1 = w.alloc (.cells #[.bool false] 4) := ⟨_, rfl⟩
  rw [← hW1]
  have H1 : Hid (LB W1 w.heap.size 4 [.bool false] ∧ Below w.heap.size w W1) := HW1.out W1 hW1
  obtain ⟨B8, hB8⟩ : ∃ B8, B8 = w.heap.size := ⟨_, rfl⟩
  rw [← hB8]
  rw [← hB8] at H1
  have HB8 : Hid (w.heap.size ≤ B8) := Nat.le_of_eq hB8.symm
  clear hW1 HW1
  gi_wp2
  refine ⟨trivial, (callsIn_wide.2 (HKY.out W1 (by rw [← hB8]; exact H1.out.2))).mono ?_⟩
  rintro e W2 ⟨kv, rfl, rk, b2⟩
  have H2 : Hid (LB W2 B8 4 [.bool false] ∧ Below w.heap.size w W2 ∧ Ri W2 kv keys) := ⟨H1.out.1.kept b2, andThen (by rw [← hB8]; exact H1.out.2) b2, rk⟩
  obtain ⟨ak, ck, hke, hk1, -⟩ := id rk
  subst hke
  unfold maxLen at hk1
  have HKC : Hid (∀ j (_ : j < cnt), ∃ kb ko, ak = some ⟨kb, ko, none⟩ ∧ ∀ W, Below W2.heap.size W2 W → W.cell? ⟨kb, ko + j, none⟩ = some (.int .i64 (3 * ((step * (j + 1) : Nat) : Int)))) := fun j hj => by
    obtain ⟨a', c', e, -, hc⟩ := H2.out.2.2
    simp only [Value.slice.injEq] at e
    obtain ⟨kb, ko, e2, hcell⟩ := hc (List.ne_nil_of_length_pos (by omega))
    have h9 := hcell j (by omega)
    rw [HKS.out j hj (by omega)] at h9
    exact ⟨kb, ko, e.1.trans e2, fun W hW => (hW.cell (p := ⟨kb, ko + j, none⟩) (World.block_lt_of_cell? _ _ h9)).trans h9⟩
  clear rk b2 H1 hB8
  gi_wp2
  gi_loopw [10, 11] (fun s10 i wr => ∃ j : Nat, j ≤ cnt ∧ i = .int .i64 (j : Int) ∧ s10 = .int .i64 ((step * (j + 1) : Nat) : Int) ∧ Below W2.heap.size W2 wr) (fun _ i _ => cnt - (intOf i).toNat)
  case atStart => exact ⟨0, Nat.zero_le _, rfl, by simp, Below.refl _ _⟩
  case round =>
    obtain ⟨j, hj, rfl, rfl, hb⟩ := hrel
    have HB : Hid (Below W2.heap.size W2 wr) := hb
    clear hb
    obtain ⟨a, ha⟩ : ∃ a, a = step * (j + 1) := ⟨_, rfl⟩
    have hab : a ≤ 6002 := by
      have := Nat.mul_le_mul hs2 (show j + 1 ≤ 3001 by omega)
      omega
    have HA : Hid (a = step * (j + 1)) := ha
    by_cases hlt : j < cnt
    · obtain ⟨kb, ko, rfl, hkc⟩ := HKC.out j hlt
      rw [← ha] at hkc ⊢
      have HKC1 : Hid (∀ W, Below W2.heap.size W2 W → W.cell? ⟨kb, ko + j, none⟩ = some (.int .i64 (3 * (a : Int)))) := hkc
      have x0 := hkc wr HB.out
      have hdj : ((j : Int) < (keys.length : Int)) = True := by simp; omega
      have hjk : j < keys.length := by omega
      have hw3 : IntKind.i64.wrap (3 * (a : Int)) = 3 * (a : Int) := IntWalk.i64_in _ (by omega)
      clear hkc ha
      gi_wp2
      refine ⟨trivial, (callsIn_wide.2 (HGT.out wr (andThen H2.out.2.1 HB.out) j a HA.out hlt)).mono ?_⟩
      rintro e W3 ⟨lv, rfl, rl, b3⟩
      obtain ⟨al, cl, hle, hl1, -⟩ := id rl
      rw [Ix.vs_len] at hle
      subst hle
      have HB3 : Hid (Below W2.heap.size W2 W3) := andThen HB.out b3
      have HLC : Hid (∀ k, k < m → ∃ lb lo, al = some ⟨lb, lo, none⟩ ∧ ∀ W, Below W3.heap.size W3 W → W.cell? ⟨lb, lo + k, none⟩ = some (.int .i64 (7 * (k : Int) + (a : Int)))) := fun k hk => by
        obtain ⟨a', c', e, -, hc⟩ := id rl
        simp only [Value.slice.injEq] at e
        obtain ⟨lb, lo, e2, hcell⟩ := hc (List.ne_nil_of_length_pos (by rw [Ix.vs_len]; omega))
        have h9 := hcell k (by rw [Ix.vs_len]; omega)
        rw [Ix.vs_get] at h9
        exact ⟨lb, lo, e.1.trans e2, fun W hW => (hW.cell (p := ⟨lb, lo + k, none⟩) (World.block_lt_of_cell? _ _ h9)).trans h9⟩
      have x1 := HKC1.out W3 HB3.out
      have hnm1 : ((m : Int) != (m : Int)) = false := by simp
      clear rl b3 x0 hl1 HB
      gi_wp2
      gi_loopw [13] (fun i2 wr2 => ∃ k : Nat, k ≤ m ∧ i2 = .int .i64 (k : Int) ∧ Below W3.heap.size W3 wr2) (fun i _ => m - (intOf i).toNat)
      case atStart => exact ⟨0, Nat.zero_le _, rfl, Below.refl _ _⟩
      case round =>
        clear x1
        obtain ⟨k, hk, rfl, hb⟩ := hrel
        have HB4 : Hid (Below W3.heap.size W3 wr) := hb
        by_cases hkm : k < m
        · obtain ⟨lb, lo, rfl, hlc⟩ := HLC.out k hkm
          have x2 := hlc wr hb
          have hdk : ((k : Int) < (m : Int)) = True := by simp; omega
          have hw7 : IntKind.i64.wrap (7 * (k : Int)) = 7 * (k : Int) := IntWalk.i64_in _ (by omega)
          have hw8 : IntKind.i64.wrap (7 * (k : Int) + (a : Int)) = 7 * (k : Int) + (a : Int) := IntWalk.i64_in _ (by omega)
          clear hlc hb
          gi_wp2
          go_roundw
          case rel => exact ⟨k + 1, by omega, by go_num, HB4.out⟩
          case measure => simp [intOf]; omega
        · obtain rfl : k = m := by omega
          have hdk : ((k : Int) < (k : Int)) = False := by simp
          have hwn : IntKind.i64.wrap ((a : Int) + (step : Int)) = ((step * (j + 1 + 1) : Nat) : Int) := by
            rw [IntWalk.i64_in _ (by omega), HA.out, Nat.mul_succ step (j + 1)]
            simp
          clear hb
          gi_wp2
          go_roundw
          case rel => exact ⟨j + 1, by omega, by go_num, rfl, andThen HB3.out HB4.out⟩
          case measure => simp [intOf]; omega
    · obtain rfl : cnt = j := by omega
      rw [← ha]
      have hdj : ((cnt : Int) < (keys.length : Int)) = False := eq_false (by omega)
      have hle : ((a : Int) ≤ (n : Int)) = False := eq_false (by
        have h8 := Nat.lt_mul_div_succ n (show 0 < step by omega)
        rw [← HCN.out, ← ha] at h8
        omega)
      have hw3 : IntKind.i64.wrap (3 * (n : Int)) = 3 * (n : Int) := IntWalk.i64_in _ (by omega)
      have hw4 : IntKind.i64.wrap (3 * (n : Int) - 1) = 3 * (n : Int) - 1 := IntWalk.i64_in _ (by omega)
      have HBX : Hid (∀ W, W = (wr.alloc (.cells #[.int .i64 0] 3)).alloc (.cells #[.int .i64 0] 3) → LB W wr.heap.size 3 [.int .i64 0] ∧ LB W (wr.heap.size + 1) 3 [.int .i64 0] ∧ LB W B8 4 [.bool false] ∧ Below w.heap.size w W ∧ W.heap.size = wr.heap.size + 2 ∧ w.heap.size ≤ wr.heap.size) := fun W e => by
        have h1 := lb_new wr [.int .i64 0] 3
        have h2 := lb_new (wr.alloc (.cells #[.int .i64 0] 3)) [.int .i64 0] 3
        rw [heap_one] at h2
        have hb : Below wr.heap.size wr W := by
          rw [e]
          exact up (up0 _ _) _
        refine ⟨by rw [e]; exact h1.kept (up0 _ _), by rw [e]; exact h2, (H2.out.1.kept HB.out).kept hb, andThen (andThen H2.out.2.1 HB.out) hb, by rw [e, heap_one, heap_one], (andThen H2.out.2.1 HB.out).size⟩
      clear ha hlt hj HKC
      gi_upto_region 19 with fail
      obtain ⟨V, hV⟩ : ∃ V, V = (wr.alloc (.cells #[.int .i64 0] 3)).alloc (.cells #[.int .i64 0] 3) := ⟨_, rfl⟩
      rw [← hV]
      have HV : Hid (LB V wr.heap.size 3 [.int .i64 0] ∧ LB V (wr.heap.size + 1) 3 [.int .i64 0] ∧ LB V B8 4 [.bool false] ∧ Below w.heap.size w V ∧ V.heap.size = wr.heap.size + 2 ∧ w.heap.size ≤ wr.heap.size) := HBX.out V hV
      obtain ⟨B14, hB14⟩ : ∃ q, q = wr.heap.size := ⟨_, rfl⟩
      rw [← hB14] at HV ⊢
      obtain ⟨B15, hB15⟩ : ∃ q, q = B14 + 1 := ⟨_, rfl⟩
      rw [← hB15] at HV ⊢
      have HBB : Hid (B15 = B14 + 1) := hB15
      clear hV HBX hB14 hB15 HB H2
      gi_wp2
      refine ⟨trivial, (callsIn_wide.2 (ixrange_any g 4 (3 * (n : Int) - 1) V)).mono ?_⟩
      rintro e V3 ⟨rfl, k1, k2, k3, b3⟩
      obtain ⟨mA, hmA⟩ : ∃ m, m = V.heap.size := ⟨_, rfl⟩
      rw [← hmA] at k1 k2 k3 ⊢
      have HS1 : Hid (TS w B8 [(B14, 0), (B15, 0)] g mA 4 (3 * (n : Int) - 1) V3) := by
        have hbb := HBB.out
        have hv := HV.out.2.2.2.2
        refine ⟨andThen HV.out.2.2.2.1 b3, HV.out.2.2.1.kept b3, HB8.out, fun p hp => ?_, k1, k2, k3⟩
        simp only [List.mem_cons, List.not_mem_nil, or_false] at hp
        rcases hp with rfl | rfl
        · exact ⟨HV.out.1.kept b3, by omega, by simp only; omega, by simp only; omega⟩
        · exact ⟨HV.out.2.1.kept b3, by simp only; omega, by simp only; omega, by simp only; omega⟩
      have HVS : Hid (B14 < V3.heap.size ∧ B15 < V3.heap.size ∧ w.heap.size ≤ V3.heap.size) := ⟨(HS1.out.bx (B14, 0) (by simp)).1.lt, (HS1.out.bx (B15, 0) (by simp)).1.lt, HS1.out.bel.size⟩
      clear k1 k2 k3 b3 hmA HV
      have hnf : ∀ (caps : Array Value) (W : World), Sem.run Try.prog (binOp BinOp.eql 58 (Value.func (Fn.func 57) #[] caps) Value.nilFunc) W = .ok (.bool false) W := fun _ _ => rfl
      have HTOT : Hid (∀ lo hi, (prs (within (Ix.tl step cnt m) lo hi)).length ≤ 20000) := fun lo hi => by
        have h1 := Ix.within_total (Ix.tl step cnt m) lo hi
        rw [Ix.tl_total] at h1
        have h2 := Nat.mul_le_mul_right m hcnt
        have h3 := HNM.out
        rw [Ix.prs_len]
        omega
      have HSRT : Hid (∀ lo hi, (prs (within (Ix.tl step cnt m) lo hi)).Pairwise (fun p q => p.1 ≤ q.1)) := fun lo hi => Ix.prs_sorted _ (within_rising HTR.out lo hi)
      have HPOS : Hid (∀ lo hi, ∀ x ∈ prs (within (Ix.tl step cnt m) lo hi), 0 < x.1 ∧ 1 ≤ x.2) := fun lo hi x hx => by
        obtain ⟨p, hp, hx1⟩ := List.mem_flatMap.1 hx
        obtain ⟨v, hv, rfl⟩ := List.mem_map.1 hx1
        obtain ⟨t, ht1, ht2, rfl⟩ := Ix.tl_mem (List.mem_filter.1 hp).1
        obtain ⟨q, -, rfl⟩ := List.mem_map.1 hv
        have : 1 ≤ step * t := Nat.mul_le_mul hs1 ht1
        simp only
        generalize step * t = q9 at this ⊢
        omega
      have HMR : Hid (∀ W q, Below w.heap.size w W → w.heap.size ≤ q → ¬ Mrow W b q) := fun W q hW hq hm9 => by
        have h9 := (HM.out.row (hm9.same (hW.block b HM.out.blt.2))).2
        omega
      gi_wp2
      refine wpIn_rangeFunc_ownF rfl (by omega) (gf := 57) (lb := #[.pointer (some ⟨mA, 0, none⟩), .pointer (some ⟨mA + 1, 0, none⟩), .pointer (some ⟨mA + 2, 0, none⟩)]) rfl trivial (enters_of Try.func57 (by kernel_rfl) rfl) (encs := encsP) (Kp := KpI (fun k => k = B14 ∨ k = B15) 54) (S := fun xs : List PI => xs.map (·.1) = prs (within (Ix.tl step cnt m) 4 (3 * (n : Int) - 1))) (Sp := fun pre : List PI => pre.map (fun q : PI => q.1) <+: prs (within (Ix.tl step cnt m) 4 (3 * (n : Int) - 1))) (N := (prs (within (Ix.tl step cnt m) 4 (3 * (n : Int) - 1))).length) (w0 := V3) ?sq1 KpI.trans (fun W l o o' _ h1 h2 _ => kpI_b W l o o' h1 h2) (Below.refl _ _) (fun _ => rfl) (IT1 w B8 B14 B15 g mA 4 (3 * (n : Int) - 1)) IXT1 (IT1_own HVS.out.2.2) (IXT1_own _) ?hz1 ?a1 ?as1 ?bo1 ?do1 ?st1
      case as1 =>
        intro l x W K hK
        unfold encsP
        gi_wp2
        exact hK
      case sq1 =>
        intro l J Jx W hW hJ _ hY h0
        have hs := HS1.out.kept hW
        exact ixrange1_in 4 l _ 54 g b base N (Ix.tl step cnt m) 4 (3 * (n : Int) - 1) mA (mA + 1) (mA + 2) W (HM.out.kept hs.bel) (by rw [Ix.tl_len]; omega) (hs.it.1.cell 0 _ rfl) (hs.it.2.1.cell 0 _ rfl) (hs.it.2.2.cell 0 _ rfl) (fun q hq => by
          rcases hq with rfl | rfl
          · have h9 := hs.bx (q, 0) (by simp)
            exact ⟨h9.1.lt, HMR.out W q hs.bel h9.2.1⟩
          · have h9 := hs.bx (q, 0) (by simp)
            exact ⟨h9.1.lt, HMR.out W q hs.bel h9.2.1⟩) (by decide) (by decide) J Jx hJ hY h0
      case hz1 => exact HS1.out
      case bo1 =>
        rintro l pre ⟨⟨k, v⟩, hwk, hwv⟩ WW hs hlen
        have HSS : Hid (TS w B8 [(B14, (pre.length : Int)), (B15, lastK pre)] g mA 4 (3 * (n : Int) - 1) WW) := hs
        have hpl : (pre.length : Int) ≤ 20000 := by have := HTOT.out 4 (3 * (n : Int) - 1); omega
        have hwp : IntKind.i64.wrap ((pre.length : Int) + 1) = (pre.length : Int) + 1 := IntWalk.i64_in _ (by omega)
        have y15 := (hs.bx (B15, lastK pre) (by simp)).1.cell 0 _ rfl
        have f15 := (hs.bx (B15, lastK pre) (by simp)).1.free 0
        have y8 := hs.res.cell 0 _ rfl
        have f8 := hs.res.free 0
        have HPRE : Hid (∀ lk, lk = lastK pre → (k < lk ∨ v < 1) → ∃ (pre0 : List PI) (x : PI), pre ++ [⟨(k, v), hwk, hwv⟩] = pre0 ++ [x] ∧ (x.1.1 < lastK pre0 ∨ x.1.2 < 1)) := fun lk e hb => ⟨pre, _, rfl, by rw [e] at hb; exact hb⟩
        obtain ⟨lk, hlk⟩ : ∃ lk, lk = lastK pre := ⟨_, rfl⟩
        have T1 := hs.set (B := B15) (x := lastK pre) (y := k) (by simp) [(B14, (pre.length : Int)), (B15, k)] (fun p hp => by
          simp only [List.mem_cons, List.not_mem_nil, or_false] at hp
          have hbb := HBB.out
          rcases hp with rfl | rfl
          · exact .inr ⟨by simp, by simp only; omega⟩
          · exact .inl rfl)
        have T2 := T1.set (B := B14) (x := (pre.length : Int)) (y := (pre.length : Int) + 1) (by simp) [(B14, (pre.length : Int) + 1), (B15, k)] (fun p hp => by
          simp only [List.mem_cons, List.not_mem_nil, or_false] at hp
          have hbb := HBB.out
          rcases hp with rfl | rfl
          · exact .inl rfl
          · exact .inr ⟨by simp, by simp only; omega⟩)
        have z14 := (T1.bx (B14, (pre.length : Int)) (by simp)).1.cell 0 _ rfl
        have g14 := (T1.bx (B14, (pre.length : Int)) (by simp)).1.free 0
        have HT2 : Hid (TS w B8 [(B14, (pre.length : Int) + 1), (B15, k)] g mA 4 (3 * (n : Int) - 1) ((WW.setCell ⟨B15, 0, none⟩ (.int .i64 k)).setCell ⟨B14, 0, none⟩ (.int .i64 ((pre.length : Int) + 1)))) := T2
        rw [← hlk] at y15
        have HLK : Hid (lk = lastK pre) := hlk
        have HL1 : Hid (lastK (pre ++ [(⟨(k, v), hwk, hwv⟩ : PI)]) = k) := lastK_snoc pre _
        have HKO : Hid (KeepsOthers WW (WW.setCell ⟨B8, 0, none⟩ (.bool false))) := KeepsOthers.setCell _ _ _
        have HK2 : Hid (KeepsOthers WW ((WW.setCell ⟨B15, 0, none⟩ (.int .i64 k)).setCell ⟨B14, 0, none⟩ (.int .i64 ((pre.length : Int) + 1))) ∧ KpI (fun k => k = B14 ∨ k = B15) 54 WW ((WW.setCell ⟨B15, 0, none⟩ (.int .i64 k)).setCell ⟨B14, 0, none⟩ (.int .i64 ((pre.length : Int) + 1)))) := ⟨(KeepsOthers.setCell _ _ _).trans (KeepsOthers.setCell _ _ _), (kpI_set _ _ _ _ _ (.inr rfl)).trans (kpI_set _ _ _ _ _ (.inl rfl))⟩
        clear hs hlen T1 T2 hlk
        by_cases hbk : k < lk
        · have hbk2 : (k < lk) = True := by simp; omega
          gi_wp2
          exact ⟨HKO.out, rfl, HPRE.out lk HLK.out (.inl hbk)⟩
        · have hbk2 : (k < lk) = False := by simp; omega
          by_cases hbv : v < 1
          · have hbv2 : (v < 1) = True := by simp; omega
            gi_wp2
            exact ⟨HKO.out, rfl, HPRE.out lk HLK.out (.inr hbv)⟩
          · have hbv2 : (v < 1) = False := by simp; omega
            clear hbk hbv
            gi_wp2
            refine ⟨HK2.out.1, HK2.out.2, ?_⟩
            unfold IT1
            rw [HL1.out, List.length_append]
            exact HT2.out
      case st1 =>
        rintro D c pre W hD hSp ⟨-, pre0, x, rfl, hbad⟩ hK
        exact absurd hbad (no_bad (HSRT.out _ _) (HPOS.out _ _) hSp)
      case do1 =>
        rintro D1 xs1 W6 hD1 hxs1 hsA hK1
        have hl1 : xs1.length = (prs (within (Ix.tl step cnt m) 4 (3 * (n : Int) - 1))).length := by rw [← hxs1, List.length_map]
        obtain ⟨l1, hl1e⟩ : ∃ l1, l1 = lastK xs1 := ⟨_, rfl⟩
        obtain ⟨s1, hs1e⟩ : ∃ s1, s1 = xs1.length := ⟨_, rfl⟩
        have HS2 : Hid (TS w B8 [(B14, (s1 : Int)), (B15, l1)] g mA 4 (3 * (n : Int) - 1) W6 ∧ W6.heap[D1]? = some (.deferred (some []))) := ⟨by rw [hs1e, hl1e]; exact hsA, hK1⟩
        have HSL : Hid (s1 = Ix.total (within (Ix.tl step cnt m) 4 (3 * (n : Int) - 1))) := (show s1 = Ix.total (within (Ix.tl step cnt m) 4 (3 * (n : Int) - 1)) by rw [hs1e, hl1, Ix.prs_len])
        have HD1 : Hid (w.heap.size ≤ D1 ∧ D1 < W6.heap.size) := ⟨Nat.le_trans HVS.out.2.2 hD1, (Array.getElem?_eq_some_iff.1 hK1).1⟩
        have HBX : Hid (∀ W, W = W6.alloc (.cells #[.int .i64 0] 3) → LB W W6.heap.size 3 [.int .i64 0] ∧ TS w B8 [(B14, (s1 : Int)), (B15, l1)] g mA 4 (3 * (n : Int) - 1) W ∧ W.heap[D1]? = some (.deferred (some [])) ∧ W.heap.size = W6.heap.size + 1) := fun W e => by
          have hb : Below W6.heap.size W6 W := by
            rw [e]
            exact up0 _ _
          exact ⟨by rw [e]; exact lb_new W6 [.int .i64 0] 3, HS2.out.1.kept hb, (hb.block D1 HD1.out.2).trans HS2.out.2, by rw [e, heap_one]⟩
        clear hsA hK1 hxs1 hl1 hl1e hs1e HS1
        gi_upto_region 27 with fail
        obtain ⟨V7, hV7⟩ : ∃ V, V = W6.alloc (.cells #[.int .i64 0] 3) := ⟨_, rfl⟩
        rw [← hV7]
        have HV7 : Hid (LB V7 W6.heap.size 3 [.int .i64 0] ∧ TS w B8 [(B14, (s1 : Int)), (B15, l1)] g mA 4 (3 * (n : Int) - 1) V7 ∧ V7.heap[D1]? = some (.deferred (some [])) ∧ V7.heap.size = W6.heap.size + 1) := HBX.out V7 hV7
        have HB18 : Hid (w.heap.size ≤ W6.heap.size ∧ B14 < W6.heap.size ∧ B15 < W6.heap.size) := ⟨HS2.out.1.bel.size, (HS2.out.1.bx (B14, (s1 : Int)) (by simp)).1.lt, (HS2.out.1.bx (B15, l1) (by simp)).1.lt⟩
        obtain ⟨B18, hB18⟩ : ∃ q, q = W6.heap.size := ⟨_, rfl⟩
        rw [← hB18] at HV7 HB18 HD1 ⊢
        clear hV7 HBX HS2 hB18
        gi_wp2
        refine ⟨trivial, (callsIn_wide.2 (ixall_any g V7)).mono ?_⟩
        rintro e V8 ⟨rfl, k1, k2, k3, b8⟩
        obtain ⟨mB, hmB⟩ : ∃ m, m = V7.heap.size := ⟨_, rfl⟩
        rw [← hmB] at k1 k2 k3 ⊢
        have HS3 : Hid (TS w B8 [(B18, 0), (B14, (s1 : Int)), (B15, l1)] g mB (-9223372036854775808) 9223372036854775807 V8 ∧ V8.heap[D1]? = some (.deferred (some []))) := by
          have hv := HV7.out.2.2.2
          have hq := HB18.out
          refine ⟨⟨andThen HV7.out.2.1.bel b8, HV7.out.2.1.res.kept b8, HB8.out, fun p hp => ?_, k1, k2, k3⟩, (b8.block D1 (by have := HD1.out.2; omega)).trans HV7.out.2.2.1⟩
          simp only [List.mem_cons, List.not_mem_nil, or_false] at hp
          rcases hp with rfl | rfl | rfl
          · exact ⟨HV7.out.1.kept b8, by simp only; omega, by simp only; omega, by simp only; omega⟩
          · have h9 := HV7.out.2.1.bx (B14, (s1 : Int)) (by simp)
            exact ⟨h9.1.kept b8, h9.2.1, by simp only; omega, by simp only; omega⟩
          · have h9 := HV7.out.2.1.bx (B15, l1) (by simp)
            exact ⟨h9.1.kept b8, h9.2.1, by simp only; omega, by simp only; omega⟩
        have HD8 : Hid (D1 < V8.heap.size ∧ w.heap.size ≤ V8.heap.size) := ⟨by have := HD1.out.2; have := b8.size; have := HV7.out.2.2.2; omega, HS3.out.1.bel.size⟩
        clear k1 k2 k3 b8 hmB HV7
        gi_wp2
        refine wpIn_rangeFunc_ownF rfl (by omega) (gf := 57) (lb := #[.pointer (some ⟨mB, 0, none⟩), .pointer (some ⟨mB + 1, 0, none⟩), .pointer (some ⟨mB + 2, 0, none⟩)]) rfl trivial (enters_of Try.func57 (by kernel_rfl) rfl) (encs := encsP) (Kp := KpI (fun k => k = B18) 54) (S := fun xs : List PI => xs.map (·.1) = prs (within (Ix.tl step cnt m) (-9223372036854775808) 9223372036854775807)) (Sp := fun pre : List PI => pre.map (fun q : PI => q.1) <+: prs (within (Ix.tl step cnt m) (-9223372036854775808) 9223372036854775807)) (N := (prs (within (Ix.tl step cnt m) (-9223372036854775808) 9223372036854775807)).length) (w0 := V8) ?sq2 KpI.trans (fun W l o o' _ h1 h2 _ => kpI_b W l o o' h1 h2) (Below.refl _ _) (fun _ => rfl) (IT2 w B8 B14 B15 B18 (s1 : Int) l1 g mB (-9223372036854775808) 9223372036854775807 D1) IXT2 (IT2_own HD8.out.2 HD8.out.1) (IXT2_own _) ?hz2 ?a2 ?as2 ?bo2 ?do2 ?st2
        case as2 =>
          intro l x W K hK
          unfold encsP
          gi_wp2
          exact hK
        case sq2 =>
          intro l J Jx W hW hJ _ hY h0
          have hs := HS3.out.1.kept hW
          exact ixrange1_in 4 l _ 54 g b base N (Ix.tl step cnt m) (-9223372036854775808) 9223372036854775807 mB (mB + 1) (mB + 2) W (HM.out.kept hs.bel) (by rw [Ix.tl_len]; omega) (hs.it.1.cell 0 _ rfl) (hs.it.2.1.cell 0 _ rfl) (hs.it.2.2.cell 0 _ rfl) (fun q hq => by
            subst hq
            have h9 := hs.bx (q, 0) (by simp)
            exact ⟨h9.1.lt, HMR.out W q hs.bel h9.2.1⟩) (by decide) (by decide) J Jx hJ hY h0
        case hz2 => exact HS3.out
        case bo2 =>
          rintro l pre ⟨⟨k, v⟩, hwk, hwv⟩ WW ⟨hs, hd1⟩ hlen
          have hpl : posK pre ≤ 20000 := by
            have h1 := HTOT.out (-9223372036854775808) 9223372036854775807
            have h2 : posK pre ≤ pre.length := List.length_filter_le _ _
            omega
          obtain ⟨q, hq⟩ : ∃ q, q = posK pre := ⟨_, rfl⟩
          rw [← hq] at hs hpl
          have hwp : IntKind.i64.wrap ((q : Int) + 1) = (q : Int) + 1 := IntWalk.i64_in _ (by omega)
          have y18 := (hs.bx (B18, (q : Int)) (by simp)).1.cell 0 _ rfl
          have f18 := (hs.bx (B18, (q : Int)) (by simp)).1.free 0
          have T1 := hs.set (B := B18) (x := (q : Int)) (y := (q : Int) + 1) (by simp) [(B18, (q : Int) + 1), (B14, (s1 : Int)), (B15, l1)] (fun p hp => by
            simp only [List.mem_cons, List.not_mem_nil, or_false] at hp
            have hbb := HB18.out
            rcases hp with rfl | rfl | rfl
            · exact .inl rfl
            · exact .inr ⟨by simp, by simp only; omega⟩
            · exact .inr ⟨by simp, by simp only; omega⟩)
          have HSS : Hid (TS w B8 [(B18, (q : Int)), (B14, (s1 : Int)), (B15, l1)] g mB (-9223372036854775808) 9223372036854775807 WW ∧ WW.heap[D1]? = some (.deferred (some []))) := ⟨hs, hd1⟩
          have HPK : Hid (posK (pre ++ [(⟨(k, v), hwk, hwv⟩ : PI)]) = q + (if 0 < k then 1 else 0)) := by rw [hq]; exact posK_snoc pre _
          have HT1 : Hid (TS w B8 [(B18, (q : Int) + 1), (B14, (s1 : Int)), (B15, l1)] g mB (-9223372036854775808) 9223372036854775807 (WW.setCell ⟨B18, 0, none⟩ (.int .i64 ((q : Int) + 1))) ∧ KeepsOthers WW (WW.setCell ⟨B18, 0, none⟩ (.int .i64 ((q : Int) + 1))) ∧ KpI (fun k => k = B18) 54 WW (WW.setCell ⟨B18, 0, none⟩ (.int .i64 ((q : Int) + 1)))) := ⟨T1, KeepsOthers.setCell _ _ _, kpI_set _ _ _ _ _ rfl⟩
          have HKR : Hid (KeepsOthers WW WW ∧ KpI (fun k => k = B18) 54 WW WW) := ⟨⟨Nat.le_refl _, fun _ _ h _ => h⟩, KpI.of (Below.refl _ _)⟩
          clear hs hd1 hlen T1 hq
          by_cases hk0 : 0 < k
          · have hk2 : (0 < k) = True := by simp; omega
            gi_wp2
            refine ⟨HT1.out.2.1, HT1.out.2.2, ?_, HT1.out.2.1.same D1 _ HSS.out.2 rfl⟩
            rw [HPK.out, if_pos (by omega)]
            exact HT1.out.1
          · have hk2 : (0 < k) = False := by simp; omega
            gi_wp2
            refine ⟨HKR.out.1, HKR.out.2, ?_, HSS.out.2⟩
            rw [HPK.out, if_neg (by omega)]
            exact HSS.out.1
        case st2 =>
          rintro D c pre W hD hSp hx hK
          exact hx.elim
        case do2 =>
          rintro D2 xs2 W9 hD2 hxs2 ⟨hsB, hd1⟩ hK2
          have hall : posK xs2 = cnt * m := by
            rw [posK_all, ← Ix.tl_total step cnt m, ← Ix.prs_len, ← List.length_map (f := fun q : PI => q.1), hxs2, Ix.within_all]
            · intro p hp
              obtain ⟨t, ht1, ht2, rfl⟩ := Ix.tl_mem hp
              have hb9 := Nat.mul_le_mul hs2 (show t ≤ 3000 by omega)
              simp only
              generalize step * t = q9 at hb9 ⊢
              omega
            · intro x hx
              exact (HPOS.out _ _ x.1 (by rw [← hxs2]; exact List.mem_map.2 ⟨x, hx, rfl⟩)).1
          rw [hall] at hsB
          have HS4 : Hid (TS w B8 [(B18, ((cnt * m : Nat) : Int)), (B14, (s1 : Int)), (B15, l1)] g mB (-9223372036854775808) 9223372036854775807 W9 ∧ W9.heap[D1]? = some (.deferred (some [])) ∧ W9.heap[D2]? = some (.deferred (some []))) := ⟨hsB, hd1, hK2⟩
          have HDD : Hid (D1 < D2 ∧ w.heap.size ≤ D1 ∧ w.heap.size ≤ D2) := ⟨Nat.lt_of_lt_of_le HD8.out.1 hD2, HD1.out.1, Nat.le_trans HD8.out.2 hD2⟩
          clear hsB hd1 hK2 hall hxs2 HS3
          obtain ⟨tt, htt⟩ : ∃ tt, tt = cnt * m := ⟨_, rfl⟩
          have htb : tt ≤ 20000 := by
            have := Nat.mul_le_mul_right m hcnt
            have := HNM.out
            omega
          rw [← htt] at HS4 HLE
          have hwm : IntKind.i64.wrap ((cnt : Int) * (m : Int)) = (tt : Int) := by
            rw [htt, IntWalk.i64_in _ (by
              have e9 : (cnt : Int) * (m : Int) = (tt : Int) := by rw [htt]; simp
              rw [e9]
              omega)]
            simp
          have HTT : Hid (tt = cnt * m) := htt
          clear htt
          have y18 := (HS4.out.1.bx (B18, (tt : Int)) (by simp)).1.cell 0 _ rfl
          have dkl : ((keys.length : Int)) = (cnt : Int) := by omega
          have hteq : ((tt : Int) == (tt : Int)) = true := by simp
          have HLEN : Hid (∀ W, Below w.heap.size w W → Calls Try.prog 14 #[.pointer (some ⟨g, 0, none⟩)] W fun e w' => e = .returned (.int .i64 (tt : Int)) ∧ Below W.heap.size W w') := HLE.out
          have HEND : Hid (∀ W9' : World, LB W9' B8 4 [.bool true] → Below w.heap.size w W9' → W9'.heap[D1]? = some (.deferred (some [])) → W9'.heap[D2]? = some (.deferred (some [])) → True) := fun _ _ _ _ _ => trivial
          clear HEND
          have hcase : (step = 1 ∧ n = 1 ∧ s1 = 0 ∧ tt = m) ∨ (step = 1 ∧ 1 < n ∧ s1 + m + m = tt) ∨ (step = 2 ∧ n % 2 = 0 ∧ s1 + m = tt) ∨ (step = 2 ∧ n % 2 = 1 ∧ s1 = tt) := by
            have e1 := HSL.out
            have e2 := HTT.out
            have e3 := HCN.out
            rcases (show step = 1 ∨ step = 2 by omega) with rfl | rfl
            · rw [Nat.div_one] at e3
              subst e3
              by_cases h1 : cnt = 1
              · subst h1
                left
                refine ⟨rfl, rfl, ?_, by omega⟩
                rw [e1, Ix.tl_within 1 1 m 0 0 4 _ (by omega) (fun t h1 h2 => by omega)]
                omega
              · right; left
                refine ⟨rfl, by omega, ?_⟩
                rw [e1, Ix.tl_within 1 cnt m 1 (cnt - 2) 4 _ (by omega) (fun t h1 h2 => by omega), e2]
                have e4 : cnt * m = (cnt - 2) * m + 2 * m := by
                  rw [← Nat.add_mul]
                  congr 1
                  omega
                omega
            · rcases Nat.mod_two_eq_zero_or_one n with h1 | h1
              · right; right; left
                refine ⟨rfl, h1, ?_⟩
                rw [e1, Ix.tl_within 2 cnt m 0 (cnt - 1) 4 _ (by omega) (fun t h1 h2 => by omega), e2]
                have e4 : cnt * m = (cnt - 1) * m + 1 * m := by
                  rw [← Nat.add_mul]
                  congr 1
                  omega
                omega
              · right; right; right
                refine ⟨rfl, h1, ?_⟩
                rw [e1, Ix.tl_within 2 cnt m 0 cnt 4 _ (by omega) (fun t h1 h2 => by omega), e2]
          rcases hcase with ⟨rfl, rfl, e1, e2⟩ | ⟨rfl, h1, e1⟩ | ⟨rfl, h1, e1⟩ | ⟨rfl, h1, e1⟩
          · have hs0 : ((s1 : Int) == IntKind.i64.wrap ((tt : Int) - (m : Int))) = true := by rw [IntWalk.i64_in _ (by omega)]; simp; omega
            clear e1 e2
            have sd := HS4.out.1.kept (show Below W9.heap.size W9 W9.drew from ⟨rfl, rfl, rfl, Nat.le_refl _, fun _ _ => rfl⟩)
            obtain ⟨Wz, hWz⟩ : ∃ x, x = W9.drew := ⟨_, rfl⟩
            rw [← hWz] at sd
            have HDZ : Hid (Wz.heap[D1]? = some (.deferred (some [])) ∧ Wz.heap[D2]? = some (.deferred (some []))) := by rw [hWz]; exact HS4.out.2
            have HSZ : Hid (TS w B8 [(B18, (tt : Int)), (B14, (s1 : Int)), (B15, l1)] g mB (-9223372036854775808) 9223372036854775807 Wz) := sd
            have HCE : Hid (∀ W, TS w B8 [(B18, (tt : Int)), (B14, (s1 : Int)), (B15, l1)] g mB (-9223372036854775808) 9223372036854775807 W → W.cell? ⟨B18, 0, none⟩ = some (.int .i64 (tt : Int)) ∧ W.cell? ⟨B14, 0, none⟩ = some (.int .i64 (s1 : Int))) := fun W hW => ⟨(hW.bx (B18, (tt : Int)) (by simp)).1.cell 0 _ rfl, (hW.bx (B14, (s1 : Int)) (by simp)).1.cell 0 _ rfl⟩
            have hS9 := HCE.out Wz sd
            clear sd y18
            gi_upto_region 36 with fail
            refine regionIn_of1 (S := fun W : World => W.cell? ⟨B18, 0, none⟩ = some (.int .i64 (tt : Int)) ∧ W.cell? ⟨B14, 0, none⟩ = some (.int .i64 (s1 : Int))) (by kernel_rfl) (by kernel_rfl) (by rw [← hWz]; exact hS9) (fun _ => ?_)
            rw [← hWz]
            clear hWz HS4
            refine zqk 0 rfl hS9 ?_
            simp only [Act.put, zq1, zq2, zq3, zq4, zq5]
            refine zqk 1 rfl hS9 ?_
            simp only [Act.put, zq1, zq2, zq3, zq4, zq5, zq6]
            refine zqk 2 rfl hS9 ?_
            simp only [Act.put, zq1, zq2, zq3, zq4, zq5, zq6]
            refine zqk 3 rfl hS9 ?_
            simp only [Act.put, zq1, zq2, zq3, zq4, zq5, zq6]
            refine zqk 4 rfl hS9 ?_
            simp only [Act.put, zq1, zq2, zq3, zq4, zq5, zq6]
            refine zqk 5 rfl hS9 ?_
            simp only [Act.put, zq1, zq2, zq3, zq4, zq5, zq6]
            refine zqk 6 rfl hS9 ?_
            simp only [Act.put, zq1, zq2, zq3, zq4, zq5, zq6]
            refine zqk 7 rfl hS9 ?_
            simp only [Act.put, zq1, zq2, zq3, zq4, zq5, zq6]
            refine zqk 9 rfl hS9 ?_
            simp only [Act.put, zq1, zq2, zq3, zq4, zq5, zq6]
            refine zqr 8 rfl (fun K hK => ?_)
            refine st_lenW rfl 123 rfl rfl (R := fun v' W' => v' = .int .i64 (tt : Int) ∧ Below Wz.heap.size Wz W') ((HLEN.out Wz HSZ.out.bel).mono fun e w' ⟨h1, h2⟩ => ⟨_, h1, rfl, h2⟩) ?_
            rintro v' Wa ⟨rfl, ba⟩
            have sa := HSZ.out.kept ba
            have hSa := HCE.out Wa sa
            refine hK.out _ _ hSa fun _ => ?_
            simp only [Act.put, zq1, zq2, zq3, zq4, zq5, zq6]
            clear hK K
            refine zqk 10 rfl hSa ?_
            simp only [Act.put, zq1, zq2, zq3, zq4, zq5, zq6]
            refine zqk 11 rfl hSa ?_
            simp only [Act.put, zq1, zq2, zq3, zq4, zq5, zq6]
            refine zqk 12 rfl hSa ?_
            simp only [Act.put, zq1, zq2, zq3, zq4, zq5, zq6]
            refine zqk 13 rfl hSa ?_
            simp only [Act.put, zq1, zq2, zq3, zq4, zq5, zq6]
            refine zqk 14 rfl hSa ?_
            simp only [Act.put, zq1, zq2, zq3, zq4, zq5, zq6]
            refine zqk 15 rfl hSa ?_
            simp only [Act.put, zq1, zq2, zq3, zq4, zq5, zq6]
            refine zqk 16 rfl hSa ?_
            simp only [Act.put, zq1, zq2, zq3, zq4, zq5, zq6]
            refine zqk 17 rfl hSa ?_
            simp only [Act.put, zq1, zq2, zq3, zq4, zq5, zq6]
            refine zqk 18 rfl hSa ?_
            simp only [Act.put, zq1, zq2, zq3, zq4, zq5, zq6]
            refine zqr 19 rfl (fun K hK => ?_)
            have ya8 := sa.res.cell 0 _ rfl
            have fa8 := sa.res.free 0
            have HMA : Hid (∀ D, D = D1 ∨ D = D2 → (Wa.setCell ⟨B8, 0, none⟩ (.bool true)).heap[D]? = some (.deferred (some []))) := fun D hD => by
              have h6 : Wz.heap[D]? = some (.deferred (some [])) := by
                rcases hD with rfl | rfl
                · exact HDZ.out.1
                · exact HDZ.out.2
              have h7 := (ba.block D (Array.getElem?_eq_some_iff.1 h6).1).trans h6
              exact (KeepsOthers.setCell Wa ⟨B8, 0, none⟩ (.bool true)).same D _ h7 rfl
            have HLA : Hid (LB (Wa.setCell ⟨B8, 0, none⟩ (.bool true)) B8 4 [.bool true] ∧ Below w.heap.size w (Wa.setCell ⟨B8, 0, none⟩ (.bool true))) := ⟨sa.res.set 0 _, sa.bel.setCell (p := ⟨B8, 0, none⟩) sa.r0 _⟩
            have HSE : Hid ((Wa.setCell ⟨B8, 0, none⟩ (.bool true)).cell? ⟨B18, 0, none⟩ = some (.int .i64 (tt : Int)) ∧ (Wa.setCell ⟨B8, 0, none⟩ (.bool true)).cell? ⟨B14, 0, none⟩ = some (.int .i64 (s1 : Int))) := by
              have key : ∀ (q : Nat) (x : Int), LB Wa q 3 [.int .i64 x] → (Wa.setCell ⟨B8, 0, none⟩ (.bool true)).cell? ⟨q, 0, none⟩ = some (.int .i64 x) := fun q x L => by
                have hne : q ≠ B8 := fun e => by
                  subst e
                  have hr := sa.res
                  unfold LB at L hr
                  rw [L] at hr
                  simp at hr
                have L2 : LB (Wa.setCell ⟨B8, 0, none⟩ (.bool true)) q 3 [.int .i64 x] := (show _ = _ from set_other _ _ _ _ hne).trans L
                exact L2.cell 0 _ rfl
              exact ⟨key _ _ (sa.bx (B18, (tt : Int)) (by simp)).1, key _ _ (sa.bx (B14, (s1 : Int)) (by simp)).1⟩
            clear sa ba HDZ HSZ hS9 hSa
            go_simp
            refine hK.out _ _ HSE.out fun _ => ?_
            try simp only [Act.put, zq1, zq2, zq3, zq4, zq5, zq6]
            clear hK K ya8 fa8
            refine wpAnyH_done (by kernel_rfl) ?_ _
            gi_wp2
            generalize Wa.setCell ⟨B8, 0, none⟩ (.bool true) = Wb at HMA HLA ⊢
            have t0 := HMA.out D2 (.inr rfl)
            have l0 := lb_putObj HLA.out.1 t0 rfl (.deferred none)
            have e0 := below_putObj HLA.out.2 HDD.out.2.2 (.deferred none)
            have u0 := mark_putObj (HMA.out D1 (.inl rfl)) (D := D2) (show D1 ≠ D2 by have := HDD.out.1; omega) (.deferred none)
            refine ⟨by simp, .inl ⟨_, _, rfl, run_takeDeferred t0, ?_⟩⟩
            have l2 := lb_putObj l0 u0 rfl (.deferred none)
            have e2' := below_putObj e0 HDD.out.2.1 (.deferred none)
            refine ⟨by simp, .inl ⟨_, _, rfl, run_takeDeferred u0, ?_⟩⟩
            have z9 := l2.cell 0 _ rfl
            refine ⟨.bool true, ?_, rfl, e2'⟩
            simp [results, Try.f26, go_sem, z9]
          · have hn1 : ((1 : Int) < (n : Int)) = True := by simp; omega
            have hwo : IntKind.i64.wrap ((m : Int) + (m : Int)) = (m : Int) + (m : Int) := IntWalk.i64_in _ (by omega)
            have hs0 : ((s1 : Int) == IntKind.i64.wrap ((tt : Int) - ((m : Int) + (m : Int)))) = true := by rw [IntWalk.i64_in _ (by omega)]; simp; omega
            clear e1
            have sd := HS4.out.1.kept (show Below W9.heap.size W9 W9.drew from ⟨rfl, rfl, rfl, Nat.le_refl _, fun _ _ => rfl⟩)
            obtain ⟨Wz, hWz⟩ : ∃ x, x = W9.drew := ⟨_, rfl⟩
            rw [← hWz] at sd
            have HDZ : Hid (Wz.heap[D1]? = some (.deferred (some [])) ∧ Wz.heap[D2]? = some (.deferred (some []))) := by rw [hWz]; exact HS4.out.2
            have HSZ : Hid (TS w B8 [(B18, (tt : Int)), (B14, (s1 : Int)), (B15, l1)] g mB (-9223372036854775808) 9223372036854775807 Wz) := sd
            have HCE : Hid (∀ W, TS w B8 [(B18, (tt : Int)), (B14, (s1 : Int)), (B15, l1)] g mB (-9223372036854775808) 9223372036854775807 W → W.cell? ⟨B18, 0, none⟩ = some (.int .i64 (tt : Int)) ∧ W.cell? ⟨B14, 0, none⟩ = some (.int .i64 (s1 : Int))) := fun W hW => ⟨(hW.bx (B18, (tt : Int)) (by simp)).1.cell 0 _ rfl, (hW.bx (B14, (s1 : Int)) (by simp)).1.cell 0 _ rfl⟩
            have hS9 := HCE.out Wz sd
            clear sd y18
            gi_upto_region 36 with fail
            refine regionIn_of1 (S := fun W : World => W.cell? ⟨B18, 0, none⟩ = some (.int .i64 (tt : Int)) ∧ W.cell? ⟨B14, 0, none⟩ = some (.int .i64 (s1 : Int))) (by kernel_rfl) (by kernel_rfl) (by rw [← hWz]; exact hS9) (fun _ => ?_)
            rw [← hWz]
            clear hWz HS4
            refine zqk 0 rfl hS9 ?_
            simp only [Act.put, zq1, zq2, zq3, zq4, zq5]
            refine zqk 1 rfl hS9 ?_
            simp only [Act.put, zq1, zq2, zq3, zq4, zq5, zq6]
            refine zqk 2 rfl hS9 ?_
            simp only [Act.put, zq1, zq2, zq3, zq4, zq5, zq6]
            refine zqk 3 rfl hS9 ?_
            simp only [Act.put, zq1, zq2, zq3, zq4, zq5, zq6]
            refine zqk 4 rfl hS9 ?_
            simp only [Act.put, zq1, zq2, zq3, zq4, zq5, zq6]
            refine zqk 5 rfl hS9 ?_
            simp only [Act.put, zq1, zq2, zq3, zq4, zq5, zq6]
            refine zqk 6 rfl hS9 ?_
            simp only [Act.put, zq1, zq2, zq3, zq4, zq5, zq6]
            refine zqk 7 rfl hS9 ?_
            simp only [Act.put, zq1, zq2, zq3, zq4, zq5, zq6]
            refine zqk 9 rfl hS9 ?_
            simp only [Act.put, zq1, zq2, zq3, zq4, zq5, zq6]
            refine zqr 8 rfl (fun K hK => ?_)
            refine st_lenW rfl 123 rfl rfl (R := fun v' W' => v' = .int .i64 (tt : Int) ∧ Below Wz.heap.size Wz W') ((HLEN.out Wz HSZ.out.bel).mono fun e w' ⟨h1, h2⟩ => ⟨_, h1, rfl, h2⟩) ?_
            rintro v' Wa ⟨rfl, ba⟩
            have sa := HSZ.out.kept ba
            have hSa := HCE.out Wa sa
            refine hK.out _ _ hSa fun _ => ?_
            simp only [Act.put, zq1, zq2, zq3, zq4, zq5, zq6]
            clear hK K
            refine zqk 10 rfl hSa ?_
            simp only [Act.put, zq1, zq2, zq3, zq4, zq5, zq6]
            refine zqk 11 rfl hSa ?_
            simp only [Act.put, zq1, zq2, zq3, zq4, zq5, zq6]
            refine zqk 12 rfl hSa ?_
            simp only [Act.put, zq1, zq2, zq3, zq4, zq5, zq6]
            refine zqk 13 rfl hSa ?_
            simp only [Act.put, zq1, zq2, zq3, zq4, zq5, zq6]
            refine zqk 14 rfl hSa ?_
            simp only [Act.put, zq1, zq2, zq3, zq4, zq5, zq6]
            refine zqk 15 rfl hSa ?_
            simp only [Act.put, zq1, zq2, zq3, zq4, zq5, zq6]
            refine zqk 16 rfl hSa ?_
            simp only [Act.put, zq1, zq2, zq3, zq4, zq5, zq6]
            refine zqk 17 rfl hSa ?_
            simp only [Act.put, zq1, zq2, zq3, zq4, zq5, zq6]
            refine zqk 18 rfl hSa ?_
            simp only [Act.put, zq1, zq2, zq3, zq4, zq5, zq6]
            refine zqr 19 rfl (fun K hK => ?_)
            have ya8 := sa.res.cell 0 _ rfl
            have fa8 := sa.res.free 0
            have HMA : Hid (∀ D, D = D1 ∨ D = D2 → (Wa.setCell ⟨B8, 0, none⟩ (.bool true)).heap[D]? = some (.deferred (some []))) := fun D hD => by
              have h6 : Wz.heap[D]? = some (.deferred (some [])) := by
                rcases hD with rfl | rfl
                · exact HDZ.out.1
                · exact HDZ.out.2
              have h7 := (ba.block D (Array.getElem?_eq_some_iff.1 h6).1).trans h6
              exact (KeepsOthers.setCell Wa ⟨B8, 0, none⟩ (.bool true)).same D _ h7 rfl
            have HLA : Hid (LB (Wa.setCell ⟨B8, 0, none⟩ (.bool true)) B8 4 [.bool true] ∧ Below w.heap.size w (Wa.setCell ⟨B8, 0, none⟩ (.bool true))) := ⟨sa.res.set 0 _, sa.bel.setCell (p := ⟨B8, 0, none⟩) sa.r0 _⟩
            have HSE : Hid ((Wa.setCell ⟨B8, 0, none⟩ (.bool true)).cell? ⟨B18, 0, none⟩ = some (.int .i64 (tt : Int)) ∧ (Wa.setCell ⟨B8, 0, none⟩ (.bool true)).cell? ⟨B14, 0, none⟩ = some (.int .i64 (s1 : Int))) := by
              have key : ∀ (q : Nat) (x : Int), LB Wa q 3 [.int .i64 x] → (Wa.setCell ⟨B8, 0, none⟩ (.bool true)).cell? ⟨q, 0, none⟩ = some (.int .i64 x) := fun q x L => by
                have hne : q ≠ B8 := fun e => by
                  subst e
                  have hr := sa.res
                  unfold LB at L hr
                  rw [L] at hr
                  simp at hr
                have L2 : LB (Wa.setCell ⟨B8, 0, none⟩ (.bool true)) q 3 [.int .i64 x] := (show _ = _ from set_other _ _ _ _ hne).trans L
                exact L2.cell 0 _ rfl
              exact ⟨key _ _ (sa.bx (B18, (tt : Int)) (by simp)).1, key _ _ (sa.bx (B14, (s1 : Int)) (by simp)).1⟩
            clear sa ba HDZ HSZ hS9 hSa
            go_simp
            refine hK.out _ _ HSE.out fun _ => ?_
            try simp only [Act.put, zq1, zq2, zq3, zq4, zq5, zq6]
            clear hK K ya8 fa8
            refine wpAnyH_done (by kernel_rfl) ?_ _
            gi_wp2
            generalize Wa.setCell ⟨B8, 0, none⟩ (.bool true) = Wb at HMA HLA ⊢
            have t0 := HMA.out D2 (.inr rfl)
            have l0 := lb_putObj HLA.out.1 t0 rfl (.deferred none)
            have e0 := below_putObj HLA.out.2 HDD.out.2.2 (.deferred none)
            have u0 := mark_putObj (HMA.out D1 (.inl rfl)) (D := D2) (show D1 ≠ D2 by have := HDD.out.1; omega) (.deferred none)
            refine ⟨by simp, .inl ⟨_, _, rfl, run_takeDeferred t0, ?_⟩⟩
            have l2 := lb_putObj l0 u0 rfl (.deferred none)
            have e2' := below_putObj e0 HDD.out.2.1 (.deferred none)
            refine ⟨by simp, .inl ⟨_, _, rfl, run_takeDeferred u0, ?_⟩⟩
            have z9 := l2.cell 0 _ rfl
            refine ⟨.bool true, ?_, rfl, e2'⟩
            simp [results, Try.f26, go_sem, z9]
          · have hrm : (n : Int).tmod 2 = 0 := by rw [Int.tmod_eq_emod_of_nonneg (by omega)]; omega
            have hwo : IntKind.i64.wrap (0 + (m : Int)) = (m : Int) := by rw [Int.zero_add]; exact IntWalk.i64_in _ (by omega)
            have hs0 : ((s1 : Int) == IntKind.i64.wrap ((tt : Int) - (m : Int))) = true := by rw [IntWalk.i64_in _ (by omega)]; simp; omega
            clear e1
            have sd := HS4.out.1.kept (show Below W9.heap.size W9 W9.drew from ⟨rfl, rfl, rfl, Nat.le_refl _, fun _ _ => rfl⟩)
            obtain ⟨Wz, hWz⟩ : ∃ x, x = W9.drew := ⟨_, rfl⟩
            rw [← hWz] at sd
            have HDZ : Hid (Wz.heap[D1]? = some (.deferred (some [])) ∧ Wz.heap[D2]? = some (.deferred (some []))) := by rw [hWz]; exact HS4.out.2
            have HSZ : Hid (TS w B8 [(B18, (tt : Int)), (B14, (s1 : Int)), (B15, l1)] g mB (-9223372036854775808) 9223372036854775807 Wz) := sd
            have HCE : Hid (∀ W, TS w B8 [(B18, (tt : Int)), (B14, (s1 : Int)), (B15, l1)] g mB (-9223372036854775808) 9223372036854775807 W → W.cell? ⟨B18, 0, none⟩ = some (.int .i64 (tt : Int)) ∧ W.cell? ⟨B14, 0, none⟩ = some (.int .i64 (s1 : Int))) := fun W hW => ⟨(hW.bx (B18, (tt : Int)) (by simp)).1.cell 0 _ rfl, (hW.bx (B14, (s1 : Int)) (by simp)).1.cell 0 _ rfl⟩
            have hS9 := HCE.out Wz sd
            clear sd y18
            gi_upto_region 36 with fail
            refine regionIn_of1 (S := fun W : World => W.cell? ⟨B18, 0, none⟩ = some (.int .i64 (tt : Int)) ∧ W.cell? ⟨B14, 0, none⟩ = some (.int .i64 (s1 : Int))) (by kernel_rfl) (by kernel_rfl) (by rw [← hWz]; exact hS9) (fun _ => ?_)
            rw [← hWz]
            clear hWz HS4
            refine zqk 0 rfl hS9 ?_
            simp only [Act.put, zq1, zq2, zq3, zq4, zq5]
            refine zqk 1 rfl hS9 ?_
            simp only [Act.put, zq1, zq2, zq3, zq4, zq5, zq6]
            refine zqk 2 rfl hS9 ?_
            simp only [Act.put, zq1, zq2, zq3, zq4, zq5, zq6]
            refine zqk 3 rfl hS9 ?_
            simp only [Act.put, zq1, zq2, zq3, zq4, zq5, zq6]
            refine zqk 4 rfl hS9 ?_
            simp only [Act.put, zq1, zq2, zq3, zq4, zq5, zq6]
            refine zqk 5 rfl hS9 ?_
            simp only [Act.put, zq1, zq2, zq3, zq4, zq5, zq6]
            refine zqk 6 rfl hS9 ?_
            simp only [Act.put, zq1, zq2, zq3, zq4, zq5, zq6]
            refine zqk 7 rfl hS9 ?_
            simp only [Act.put, zq1, zq2, zq3, zq4, zq5, zq6]
            refine zqk 9 rfl hS9 ?_
            simp only [Act.put, zq1, zq2, zq3, zq4, zq5, zq6]
            refine zqr 8 rfl (fun K hK => ?_)
            refine st_lenW rfl 123 rfl rfl (R := fun v' W' => v' = .int .i64 (tt : Int) ∧ Below Wz.heap.size Wz W') ((HLEN.out Wz HSZ.out.bel).mono fun e w' ⟨h1, h2⟩ => ⟨_, h1, rfl, h2⟩) ?_
            rintro v' Wa ⟨rfl, ba⟩
            have sa := HSZ.out.kept ba
            have hSa := HCE.out Wa sa
            refine hK.out _ _ hSa fun _ => ?_
            simp only [Act.put, zq1, zq2, zq3, zq4, zq5, zq6]
            clear hK K
            refine zqk 10 rfl hSa ?_
            simp only [Act.put, zq1, zq2, zq3, zq4, zq5, zq6]
            refine zqk 11 rfl hSa ?_
            simp only [Act.put, zq1, zq2, zq3, zq4, zq5, zq6]
            refine zqk 12 rfl hSa ?_
            simp only [Act.put, zq1, zq2, zq3, zq4, zq5, zq6]
            refine zqk 13 rfl hSa ?_
            simp only [Act.put, zq1, zq2, zq3, zq4, zq5, zq6]
            refine zqk 14 rfl hSa ?_
            simp only [Act.put, zq1, zq2, zq3, zq4, zq5, zq6]
            refine zqk 15 rfl hSa ?_
            simp only [Act.put, zq1, zq2, zq3, zq4, zq5, zq6]
            refine zqk 16 rfl hSa ?_
            simp only [Act.put, zq1, zq2, zq3, zq4, zq5, zq6]
            refine zqk 17 rfl hSa ?_
            simp only [Act.put, zq1, zq2, zq3, zq4, zq5, zq6]
            refine zqk 18 rfl hSa ?_
            simp only [Act.put, zq1, zq2, zq3, zq4, zq5, zq6]
            refine zqr 19 rfl (fun K hK => ?_)
            have ya8 := sa.res.cell 0 _ rfl
            have fa8 := sa.res.free 0
            have HMA : Hid (∀ D, D = D1 ∨ D = D2 → (Wa.setCell ⟨B8, 0, none⟩ (.bool true)).heap[D]? = some (.deferred (some []))) := fun D hD => by
              have h6 : Wz.heap[D]? = some (.deferred (some [])) := by
                rcases hD with rfl | rfl
                · exact HDZ.out.1
                · exact HDZ.out.2
              have h7 := (ba.block D (Array.getElem?_eq_some_iff.1 h6).1).trans h6
              exact (KeepsOthers.setCell Wa ⟨B8, 0, none⟩ (.bool true)).same D _ h7 rfl
            have HLA : Hid (LB (Wa.setCell ⟨B8, 0, none⟩ (.bool true)) B8 4 [.bool true] ∧ Below w.heap.size w (Wa.setCell ⟨B8, 0, none⟩ (.bool true))) := ⟨sa.res.set 0 _, sa.bel.setCell (p := ⟨B8, 0, none⟩) sa.r0 _⟩
            have HSE : Hid ((Wa.setCell ⟨B8, 0, none⟩ (.bool true)).cell? ⟨B18, 0, none⟩ = some (.int .i64 (tt : Int)) ∧ (Wa.setCell ⟨B8, 0, none⟩ (.bool true)).cell? ⟨B14, 0, none⟩ = some (.int .i64 (s1 : Int))) := by
              have key : ∀ (q : Nat) (x : Int), LB Wa q 3 [.int .i64 x] → (Wa.setCell ⟨B8, 0, none⟩ (.bool true)).cell? ⟨q, 0, none⟩ = some (.int .i64 x) := fun q x L => by
                have hne : q ≠ B8 := fun e => by
                  subst e
                  have hr := sa.res
                  unfold LB at L hr
                  rw [L] at hr
                  simp at hr
                have L2 : LB (Wa.setCell ⟨B8, 0, none⟩ (.bool true)) q 3 [.int .i64 x] := (show _ = _ from set_other _ _ _ _ hne).trans L
                exact L2.cell 0 _ rfl
              exact ⟨key _ _ (sa.bx (B18, (tt : Int)) (by simp)).1, key _ _ (sa.bx (B14, (s1 : Int)) (by simp)).1⟩
            clear sa ba HDZ HSZ hS9 hSa
            go_simp
            refine hK.out _ _ HSE.out fun _ => ?_
            try simp only [Act.put, zq1, zq2, zq3, zq4, zq5, zq6]
            clear hK K ya8 fa8
            refine wpAnyH_done (by kernel_rfl) ?_ _
            gi_wp2
            generalize Wa.setCell ⟨B8, 0, none⟩ (.bool true) = Wb at HMA HLA ⊢
            have t0 := HMA.out D2 (.inr rfl)
            have l0 := lb_putObj HLA.out.1 t0 rfl (.deferred none)
            have e0 := below_putObj HLA.out.2 HDD.out.2.2 (.deferred none)
            have u0 := mark_putObj (HMA.out D1 (.inl rfl)) (D := D2) (show D1 ≠ D2 by have := HDD.out.1; omega) (.deferred none)
            refine ⟨by simp, .inl ⟨_, _, rfl, run_takeDeferred t0, ?_⟩⟩
            have l2 := lb_putObj l0 u0 rfl (.deferred none)
            have e2' := below_putObj e0 HDD.out.2.1 (.deferred none)
            refine ⟨by simp, .inl ⟨_, _, rfl, run_takeDeferred u0, ?_⟩⟩
            have z9 := l2.cell 0 _ rfl
            refine ⟨.bool true, ?_, rfl, e2'⟩
            simp [results, Try.f26, go_sem, z9]
          · have hrm : (n : Int).tmod 2 = 1 := by rw [Int.tmod_eq_emod_of_nonneg (by omega)]; omega
            have hs0 : ((s1 : Int) == IntKind.i64.wrap (tt : Int)) = true := by rw [IntWalk.i64_in _ (by omega)]; simp; omega
            clear e1
            have sd := HS4.out.1.kept (show Below W9.heap.size W9 W9.drew from ⟨rfl, rfl, rfl, Nat.le_refl _, fun _ _ => rfl⟩)
            obtain ⟨Wz, hWz⟩ : ∃ x, x = W9.drew := ⟨_, rfl⟩
            rw [← hWz] at sd
            have HDZ : Hid (Wz.heap[D1]? = some (.deferred (some [])) ∧ Wz.heap[D2]? = some (.deferred (some []))) := by rw [hWz]; exact HS4.out.2
            have HSZ : Hid (TS w B8 [(B18, (tt : Int)), (B14, (s1 : Int)), (B15, l1)] g mB (-9223372036854775808) 9223372036854775807 Wz) := sd
            have HCE : Hid (∀ W, TS w B8 [(B18, (tt : Int)), (B14, (s1 : Int)), (B15, l1)] g mB (-9223372036854775808) 9223372036854775807 W → W.cell? ⟨B18, 0, none⟩ = some (.int .i64 (tt : Int)) ∧ W.cell? ⟨B14, 0, none⟩ = some (.int .i64 (s1 : Int))) := fun W hW => ⟨(hW.bx (B18, (tt : Int)) (by simp)).1.cell 0 _ rfl, (hW.bx (B14, (s1 : Int)) (by simp)).1.cell 0 _ rfl⟩
            have hS9 := HCE.out Wz sd
            clear sd y18
            gi_upto_region 36 with fail
            refine regionIn_of1 (S := fun W : World => W.cell? ⟨B18, 0, none⟩ = some (.int .i64 (tt : Int)) ∧ W.cell? ⟨B14, 0, none⟩ = some (.int .i64 (s1 : Int))) (by kernel_rfl) (by kernel_rfl) (by rw [← hWz]; exact hS9) (fun _ => ?_)
            rw [← hWz]
            clear hWz HS4
            refine zqk 0 rfl hS9 ?_
            simp only [Act.put, zq1, zq2, zq3, zq4, zq5]
            refine zqk 1 rfl hS9 ?_
            simp only [Act.put, zq1, zq2, zq3, zq4, zq5, zq6]
            refine zqk 2 rfl hS9 ?_
            simp only [Act.put, zq1, zq2, zq3, zq4, zq5, zq6]
            refine zqk 3 rfl hS9 ?_
            simp only [Act.put, zq1, zq2, zq3, zq4, zq5, zq6]
            refine zqk 4 rfl hS9 ?_
            simp only [Act.put, zq1, zq2, zq3, zq4, zq5, zq6]
            refine zqk 5 rfl hS9 ?_
            simp only [Act.put, zq1, zq2, zq3, zq4, zq5, zq6]
            refine zqk 6 rfl hS9 ?_
            simp only [Act.put, zq1, zq2, zq3, zq4, zq5, zq6]
            refine zqk 7 rfl hS9 ?_
            simp only [Act.put, zq1, zq2, zq3, zq4, zq5, zq6]
            refine zqk 9 rfl hS9 ?_
            simp only [Act.put, zq1, zq2, zq3, zq4, zq5, zq6]
            refine zqr 8 rfl (fun K hK => ?_)
            refine st_lenW rfl 123 rfl rfl (R := fun v' W' => v' = .int .i64 (tt : Int) ∧ Below Wz.heap.size Wz W') ((HLEN.out Wz HSZ.out.bel).mono fun e w' ⟨h1, h2⟩ => ⟨_, h1, rfl, h2⟩) ?_
            rintro v' Wa ⟨rfl, ba⟩
            have sa := HSZ.out.kept ba
            have hSa := HCE.out Wa sa
            refine hK.out _ _ hSa fun _ => ?_
            simp only [Act.put, zq1, zq2, zq3, zq4, zq5, zq6]
            clear hK K
            refine zqk 10 rfl hSa ?_
            simp only [Act.put, zq1, zq2, zq3, zq4, zq5, zq6]
            refine zqk 11 rfl hSa ?_
            simp only [Act.put, zq1, zq2, zq3, zq4, zq5, zq6]
            refine zqk 12 rfl hSa ?_
            simp only [Act.put, zq1, zq2, zq3, zq4, zq5, zq6]
            refine zqk 13 rfl hSa ?_
            simp only [Act.put, zq1, zq2, zq3, zq4, zq5, zq6]
            refine zqk 14 rfl hSa ?_
            simp only [Act.put, zq1, zq2, zq3, zq4, zq5, zq6]
            refine zqk 15 rfl hSa ?_
            simp only [Act.put, zq1, zq2, zq3, zq4, zq5, zq6]
            refine zqk 16 rfl hSa ?_
            simp only [Act.put, zq1, zq2, zq3, zq4, zq5, zq6]
            refine zqk 17 rfl hSa ?_
            simp only [Act.put, zq1, zq2, zq3, zq4, zq5, zq6]
            refine zqk 18 rfl hSa ?_
            simp only [Act.put, zq1, zq2, zq3, zq4, zq5, zq6]
            refine zqr 19 rfl (fun K hK => ?_)
            have ya8 := sa.res.cell 0 _ rfl
            have fa8 := sa.res.free 0
            have HMA : Hid (∀ D, D = D1 ∨ D = D2 → (Wa.setCell ⟨B8, 0, none⟩ (.bool true)).heap[D]? = some (.deferred (some []))) := fun D hD => by
              have h6 : Wz.heap[D]? = some (.deferred (some [])) := by
                rcases hD with rfl | rfl
                · exact HDZ.out.1
                · exact HDZ.out.2
              have h7 := (ba.block D (Array.getElem?_eq_some_iff.1 h6).1).trans h6
              exact (KeepsOthers.setCell Wa ⟨B8, 0, none⟩ (.bool true)).same D _ h7 rfl
            have HLA : Hid (LB (Wa.setCell ⟨B8, 0, none⟩ (.bool true)) B8 4 [.bool true] ∧ Below w.heap.size w (Wa.setCell ⟨B8, 0, none⟩ (.bool true))) := ⟨sa.res.set 0 _, sa.bel.setCell (p := ⟨B8, 0, none⟩) sa.r0 _⟩
            have HSE : Hid ((Wa.setCell ⟨B8, 0, none⟩ (.bool true)).cell? ⟨B18, 0, none⟩ = some (.int .i64 (tt : Int)) ∧ (Wa.setCell ⟨B8, 0, none⟩ (.bool true)).cell? ⟨B14, 0, none⟩ = some (.int .i64 (s1 : Int))) := by
              have key : ∀ (q : Nat) (x : Int), LB Wa q 3 [.int .i64 x] → (Wa.setCell ⟨B8, 0, none⟩ (.bool true)).cell? ⟨q, 0, none⟩ = some (.int .i64 x) := fun q x L => by
                have hne : q ≠ B8 := fun e => by
                  subst e
                  have hr := sa.res
                  unfold LB at L hr
                  rw [L] at hr
                  simp at hr
                have L2 : LB (Wa.setCell ⟨B8, 0, none⟩ (.bool true)) q 3 [.int .i64 x] := (show _ = _ from set_other _ _ _ _ hne).trans L
                exact L2.cell 0 _ rfl
              exact ⟨key _ _ (sa.bx (B18, (tt : Int)) (by simp)).1, key _ _ (sa.bx (B14, (s1 : Int)) (by simp)).1⟩
            clear sa ba HDZ HSZ hS9 hSa
            go_simp
            refine hK.out _ _ HSE.out fun _ => ?_
            try simp only [Act.put, zq1, zq2, zq3, zq4, zq5, zq6]
            clear hK K ya8 fa8
            refine wpAnyH_done (by kernel_rfl) ?_ _
            gi_wp2
            generalize Wa.setCell ⟨B8, 0, none⟩ (.bool true) = Wb at HMA HLA ⊢
            have t0 := HMA.out D2 (.inr rfl)
            have l0 := lb_putObj HLA.out.1 t0 rfl (.deferred none)
            have e0 := below_putObj HLA.out.2 HDD.out.2.2 (.deferred none)
            have u0 := mark_putObj (HMA.out D1 (.inl rfl)) (D := D2) (show D1 ≠ D2 by have := HDD.out.1; omega) (.deferred none)
            refine ⟨by simp, .inl ⟨_, _, rfl, run_takeDeferred t0, ?_⟩⟩
            have l2 := lb_putObj l0 u0 rfl (.deferred none)
            have e2' := below_putObj e0 HDD.out.2.1 (.deferred none)
            refine ⟨by simp, .inl ⟨_, _, rfl, run_takeDeferred u0, ?_⟩⟩
            have z9 := l2.cell 0 _ rfl
            refine ⟨.bool true, ?_, rfl, e2'⟩
            simp [results, Try.f26, go_sem, z9]
end Go.Proofs.Ytceokpklcfmadaa
