/-
  The reference of manifest: Encode.
-/
import Derived.Test.YtfccimacloagiaaDoorMq3
namespace Go.Proofs.YtfccimacloagiaaDoor
open Go Go.RowKit
open Wb

set_option maxRecDepth 100000 in
set_option maxHeartbeats 4000000 in
theorem rencode8_bad (m : Mf) (v : Value) (w : World) (h : SgsAt w v m.l) (hc : chkM m ≠ 0) :
    Calls Tryd.prog 16 #[mfv m v] w fun e w' => e = .returned (.tuple #[.slice none 0 0, .int .i64 (chkM m : Int)]) ∧ Below w.heap.size w w' := by
  have HCK : Hid (∀ w', Below w.heap.size w w' → Calls Tryd.prog 14 #[mfv m v] w' fun e w'' => e = .returned (.int .i64 (chkM m : Int)) ∧ Below w'.heap.size w' w'') := fun w' hb => rcheck8_any m v w' (h.kept hb)
  obtain ⟨ao, cap, rfl, _, _, _⟩ := h
  obtain ⟨z, hz⟩ : ∃ z : Int, z = (chkM m : Int) := ⟨_, rfl⟩
  have hz0 : ¬ z = 0 := by omega
  rw [← hz] at HCK ⊢
  obtain ⟨g, vv, x, t, l⟩ := m
  unfold mfv at *
  clear hz hc
  simp only at *
  go_enter Tryd.func16, Tryd.ntmps16
  go_wp2_with (go_at_call 14; refine (HCK.out _ (up0 _ _)).mono ?_; rintro e w1 ⟨rfl, b1⟩; have B1 := andThen (up0 w _) b1)
  go_ret2
  exact ⟨rfl, B1⟩
set_option maxRecDepth 100000 in
set_option maxHeartbeats 8000000 in
theorem rencode8_good (m : Mf) (v : Value) (w : World) (h : SgsAt w v m.l) (hc : chkM m = 0) (ht : m.t ≤ 9223372036854775807) :
    Calls Tryd.prog 16 #[mfv m v] w fun e w' => ∃ v', e = .returned (.tuple #[v', .int .i64 0]) ∧ Own w.heap.size w' v' (encM m) ∧ Below w.heap.size w w' := by
  have hin := info5
  have HCK : Hid (∀ w', Below w.heap.size w w' → Calls Tryd.prog 14 #[mfv m v] w' fun e w'' => e = .returned (.int .i64 0) ∧ Below w'.heap.size w' w'') := fun w' hb => by
    have h9 := rcheck8_any m v w' (h.kept hb)
    rw [hc] at h9
    exact h9
  have HNU : Hid (∀ w', Below w.heap.size w w' → Calls Tryd.prog 33 #[mfv m v] w' fun e w'' => ∃ v', e = .returned v' ∧ RowN w'.heap.size w'' v' (numsM m) ∧ Below w'.heap.size w' w'') := fun w' hb => numbers_any m v w' (h.kept hb) hc
  have HNM : Hid (∀ n ∈ numsM m, 0 ≤ n ∧ n ≤ 9223372036854775807) := numsM_le hc ht
  have HBL : Hid ((bodyM m).length ≤ 4000) := bodyM_len hc ht
  have HEN : Hid (encM m = fr (bodyM m)) := rfl
  have HBO : Hid (bodyM m = [77] ++ putL (numsM m)) := rfl
  have HNL : Hid ((numsM m).length ≤ 400) := by
    have h2 := (chk_parts hc).2.2.2.2.2.2.2.2.1
    have h3 := sgNums_len m.l 0
    show _ ≤ _
    unfold numsM
    simp only [List.length_cons]
    omega
  have HPL : Hid (∀ k, (putL ((numsM m).take k)).length ≤ 4000) := fun k => by
    have h1 := putL_len ((numsM m).take k) (fun n hn => (HNM.out n (List.mem_of_mem_take hn)).2)
    have h2 : ((numsM m).take k).length ≤ (numsM m).length := List.length_take_le' k _
    have h3 := HNL.out
    omega
  obtain ⟨ao, cap, rfl, _, _, _⟩ := h
  obtain ⟨E, hE⟩ : ∃ E, E = encM m := ⟨_, rfl⟩
  obtain ⟨bd, hbd⟩ : ∃ bd, bd = bodyM m := ⟨_, rfl⟩
  obtain ⟨ns, hns⟩ : ∃ ns, ns = numsM m := ⟨_, rfl⟩
  rw [← hE] at HEN ⊢
  rw [← hbd] at HEN HBO HBL
  rw [← hns] at HNU HNM HBO HNL HPL
  obtain ⟨g, vv, x, t, l⟩ := m
  unfold mfv at HCK HNU ⊢
  simp only at HCK HNU ⊢
  clear hc hE hbd hns ht
  have HMB : Hid (∀ w', Below (w.alloc (.cells #[.int .i64 g, .int .i64 vv, .int .i64 x, .int .i64 t, .slice ao l.length cap] 24)).heap.size (w.alloc (.cells #[.int .i64 g, .int .i64 vv, .int .i64 x, .int .i64 t, .slice ao l.length cap] 24)) w' → Mb w' w.heap.size ⟨g, vv, x, t, []⟩ (.slice ao l.length cap)) := fun w' hb => (mb_new w ⟨g, vv, x, t, []⟩ _ 24).block (hb.block _ (by rw [heap1]; omega))
  go_enter Tryd.func16, Tryd.ntmps16
  go_wp2_with fail
  refine (HCK.out _ (up0 _ _)).mono ?_
  rintro e w1 ⟨rfl, b1⟩
  have q0 := fun o => (HMB.out _ (up b1 o)).cells.1
  have q1 := fun o => (HMB.out _ (up b1 o)).cells.2.1
  have q2 := fun o => (HMB.out _ (up b1 o)).cells.2.2.1
  have q3 := fun o => (HMB.out _ (up b1 o)).cells.2.2.2.1
  have q4 := fun o => (HMB.out _ (up b1 o)).cells.2.2.2.2
  simp only at q0 q1 q2 q3 q4
  have HB1 : Hid (Below w.heap.size w w1) := andThen (up0 w _) b1
  have HO1 : Hid (Own w1.heap.size (w1.alloc (.cells #[.int .u8 77] 5)) (.slice (some ⟨w1.heap.size, 0, none⟩) 1 1) [77]) := Own.lit w1 [77] (by intro q hq; simp at hq; omega) (Nat.le_refl _) (by simp [maxLen]) #[.int .u8 77] rfl
  clear b1 HMB HCK
  go_wp2_with fail
  refine (HNU.out _ (up HB1.out _)).mono ?_
  rintro e w2 ⟨nv, rfl, hr2, b2⟩
  have HI2 : Hid (IntsAt w2 nv ns) := hr2.at
  have HAP : Hid (∀ q, nv.ownBlock = some q → w1.heap.size + 1 ≤ q ∧ q < w2.heap.size) := fun q hq => by
    have h9 := World.ownsRow.lt hr2 q hq
    rw [heap1] at h9
    exact h9
  obtain ⟨an, cn, en⟩ := rowN_slice hr2
  subst en
  have HAN : Hid (∀ b off, an = some ⟨b, off, none⟩ → 0 < ns.length → (Value.slice an ns.length cn).ownBlock = some b ∧ off = 0) := fun b off e h0 => by
    rcases hr2.2 with ⟨e2, h2⟩ | ⟨g2, cap2, cur2, e2, _⟩
    · omega
    · simp only [Value.slice.injEq] at e2
      rw [e2.1] at e
      simp only [Option.some.injEq, Addr.mk.injEq, and_true] at e
      obtain ⟨rfl, rfl⟩ := e
      exact ⟨by rw [e2.1]; rfl, rfl⟩
  have HO2 : Hid (Own w1.heap.size w2 (.slice (some ⟨w1.heap.size, 0, none⟩) 1 1) [77] ∧ Below w1.heap.size w1 w2) := ⟨HO1.out.kept b2, ((Below.refl _ w1).alloc (Nat.le_refl _) _).trans (b2.mono (by rw [heap1]; omega))⟩
  clear hr2 b2 q0 q1 q2 q3 q4 HO1 HNU
  obtain ⟨_, cN, eN, hcN1, hcN2, hcell⟩ := HI2.out
  simp only [Value.slice.injEq] at eN
  obtain ⟨rfl, _, rfl⟩ := eN
  unfold maxLen at hcN2
  have HCE : Hid (∀ (k : Nat) (n : Int), ns[k]? = some n → ∃ b, an = some ⟨b, 0, none⟩ ∧ ∀ w', w2.grownBy w' (some w1.heap.size) → w'.cell? ⟨b, k, none⟩ = some (.int .i64 n)) := fun k n hn => by
    obtain ⟨b, off, e, hb, hcl⟩ := hcell k n hn
    obtain ⟨h1, rfl⟩ := HAN.out b off e (by have := (List.getElem?_eq_some_iff.1 hn).1; omega)
    refine ⟨b, e, fun w' hg => ?_⟩
    have := hg.block b hb (fun e2 => by have h3 := (HAP.out b h1).1; simp only [Option.some.injEq] at e2; omega)
    rw [World.cell?_of_block (a := ⟨b, k, none⟩) this]
    rw [Nat.zero_add] at hcl
    exact hcl
  clear hcell HI2
  go_wp2
  go_loopw [5, 7] (fun b i wr => ∃ (k : Nat), k ≤ ns.length ∧ i = .int .i64 (k : Int) ∧ Own w1.heap.size wr b ([77] ++ putL (ns.take k)) ∧ w2.grownBy wr (some w1.heap.size) ∧ Hereby w2 (.slice (some ⟨w1.heap.size, 0, none⟩) 1 1) b) (fun _ i _ => ns.length - (intOf i).toNat)
  case atStart => exact ⟨0, Nat.zero_le _, rfl, by simpa [putL] using HO2.out.1, World.grownBy.refl _ _, .inl rfl⟩
  case round =>
    obtain ⟨k, hk, rfl, ho, hg, hh⟩ := hrel
    by_cases hlt : k < ns.length
    · obtain ⟨n, hn⟩ : ∃ n, ns[k]? = some n := ⟨ns[k], List.getElem?_eq_getElem hlt⟩
      obtain ⟨hn0, hn1⟩ := HNM.out n (List.mem_of_getElem? hn)
      obtain ⟨u, rfl⟩ : ∃ u : Nat, n = (u : Int) := ⟨n.toNat, by omega⟩
      obtain ⟨b, rfl, hcl⟩ := HCE.out k _ hn
      have q0 := hcl wr hg
      have HM : Hid (putL (ns.take (k + 1)) = putL (ns.take k) ++ Wn.uint u) := by
        show _ = _
        rw [putL_snoc ns k _ hn]
        simp
      have HU : Hid (∀ w', Calls Tryd.prog 34 #[.int .u64 (u : Int)] w' fun e w'' => ∃ v', e = .returned v' ∧ Own w'.heap.size w'' v' (Wn.uint u) ∧ Below w'.heap.size w' w'') := fun w' => ruint_any u w' (by omega)
      have hul := Wn.uint_len10 u (by omega)
      have hpl := HPL.out k
      have HX : Hid (Own w1.heap.size wr u5 ([77] ++ putL (ns.take k)) ∧ w2.grownBy wr (some w1.heap.size) ∧ Hereby w2 (.slice (some ⟨w1.heap.size, 0, none⟩) 1 1) u5 ∧ w1.heap.size ≤ wr.heap.size) := ⟨ho, hg, hh, Nat.le_trans HO2.out.2.size hg.size⟩
      obtain ⟨a0, m0, c0, e0⟩ := own_slice ho
      subst e0
      clear hcl hn ho hg hh HNM HCE HPL
      generalize putL (ns.take k) = mm at *
      generalize Wn.uint u = f at *
      go_wp2_with fail
      refine (HU.out _).mono ?_
      rintro e w4 ⟨v4, rfl, ho4, b4⟩
      obtain ⟨a4, n4, c4, e4⟩ := own_slice ho4
      subst e4
      have HO : Hid (Own w1.heap.size w4 (.slice a0 m0 c0) ([77] ++ mm) ∧ Bs w4 (.slice a4 n4 c4) f ∧ w1.heap.size ≤ w4.heap.size) := ⟨HX.out.1.kept b4, ho4.bs, Nat.le_trans HX.out.2.2.2 b4.size⟩
      have HG4 : Hid (w2.grownBy w4 (some w1.heap.size)) := grown_below2 (row := .slice (some ⟨w1.heap.size, 0, none⟩) 1 1) HX.out.2.1 b4
      have hml : ([77] ++ mm).length + f.length ≤ 140737488355328 := by rw [List.length_append]; simp; omega
      clear ho4 b4 q0 HU
      go_wp2_with (at_builtin; refine wpList_append_at _ rfl (.tmp 22) (.tmp 28) 25 rfl w1.heap.size hin Tryd.underlying25 _ ([77] ++ mm) rfl HO.out.1 _ f rfl HO.out.2.1 hml HO.out.2.2 ?_)
      intro v5 w5 ho5 g5 hat5
      have R : Hid (Own w1.heap.size w5 v5 ([77] ++ putL (ns.take (k + 1))) ∧ w2.grownBy w5 (some w1.heap.size) ∧ Hereby w2 (.slice (some ⟨w1.heap.size, 0, none⟩) 1 1) v5) := ⟨by rw [HM.out]; simpa using ho5, grown_then (row := .slice (some ⟨w1.heap.size, 0, none⟩) 1 1) HG4.out HX.out.2.2.1 g5, by
        rcases hat5 with e | e
        · rcases HX.out.2.2.1 with h | h
          · exact .inl (e.trans h)
          · exact .inr fun g hg => h g (e ▸ hg)
        · refine .inr fun g hg => ?_
          rw [e] at hg
          have h1 := Option.some.inj hg
          have h2 := HG4.out.size
          omega⟩
      clear ho5 g5 hat5 HO HG4 HX
      go_wp2
      go_roundw
      case rel => exact ⟨k + 1, by omega, by go_num, R.out.1, R.out.2.1, R.out.2.2⟩
      case measure => simp [intOf]; omega
    · obtain rfl : k = ns.length := by omega
      rw [List.take_length, ← HBO.out] at ho
      have HBW : Hid (Below w1.heap.size w1 wr) := HO2.out.2.grown hg HO2.out.2.size (fun q hq => by simp only [Option.some.injEq] at hq; omega)
      have HFR : Hid (Calls Tryd.prog 35 #[u5] wr fun e w' => ∃ v', e = .returned (.tuple #[v', .int .i64 0]) ∧ Own w.heap.size w' v' E ∧ Below w.heap.size w w') := by
        have h1 := rframe_ok u5 bd wr ho.bs (by rw [HBO.out]; simp) (by have := HBL.out; omega)
        refine h1.mono ?_
        rintro e w' ⟨v', rfl, h2, h3⟩
        refine ⟨v', rfl, ?_, HB1.out.trans ((HBW.out.mono HB1.out.size).trans (h3.mono (Nat.le_trans HB1.out.size HBW.out.size)))⟩
        rw [HEN.out]
        exact own_weakM h2 (Nat.le_trans HB1.out.size HBW.out.size)
      obtain ⟨a5, m5, c5, e5⟩ := own_slice ho
      subst e5
      clear ho hg hh HNM HCE HPL HBO HEN
      go_wp2_with fail
      refine HFR.out.mono ?_
      rintro e w3 ⟨v3, rfl, ho3, b3⟩
      obtain ⟨a3, n3, c3, e3⟩ := own_slice ho3
      subst e3
      go_wp2
      go_ret2
      exact ⟨_, rfl, ho3, b3⟩
end Go.Proofs.YtfccimacloagiaaDoor
