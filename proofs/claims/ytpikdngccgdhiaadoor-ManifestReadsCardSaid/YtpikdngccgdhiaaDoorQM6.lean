import Derived.Deep.AppendLies
import Derived.Test.YtpikdngccgdhiaaDoorQM5
import Derived.Test.YtpikdngccgdhiaaDoorQM4
/-
  The reference of manifest: Encode.
-/
namespace Go.Proofs.YtpikdngccgdhiaaDoor
open Go Go.RowKit
open Wb

set_option maxRecDepth 100000 in
set_option maxHeartbeats 4000000 in
theorem rencode8_bad (m : Mf) (v : Value) (w : World) (h : SgsAt w v m.l) (hc : chkM m ≠ 0) :
    Calls Tryd.prog 16 #[mfv m v] w fun e w' => e = .returned (.tuple #[.slice none 0 0, .int .i64 (chkM m : Int)]) ∧ Below w.heap.size w w' := by
  have HCK : Hid (∀ w', Below w.heap.size w w' → Calls Tryd.prog 14 #[mfv m v] w' fun e w'' => e = .returned (.int .i64 (chkM m : Int)) ∧ Below w'.heap.size w' w'') := fun w' hb => rcheck8_any m v w' (h.kept hb)
  obtain ⟨ao, cap, rfl, _, _, _⟩ := h
  obtain ⟨z, hz⟩ : ∃ z : Int, z = (chkM m : Int) := ⟨_, rfl⟩
  have hz0 : ¬ z = 0 := by omega
  rw [← hz] at HCK ⊢
  obtain ⟨g, vv, x, t, l⟩ := m
  unfold mfv at *
  clear hz hc
  simp only at *
  go_enter Tryd.func16, Tryd.ntmps16
  go_wp2_with (go_at_call 14; refine (HCK.out _ (up0 _ _)).mono ?_; rintro e w1 ⟨rfl, b1⟩; have B1 := andThen (up0 w _) b1)
  go_ret2
  exact ⟨rfl, B1⟩
set_option maxRecDepth 100000 in
set_option maxHeartbeats 8000000 in
theorem rencode8_good (m : Mf) (v : Value) (w : World) (h : SgsAt w v m.l) (hc : chkM m = 0) (ht : m.t ≤ 9223372036854775807) :
    Calls Tryd.prog 16 #[mfv m v] w fun e w' => ∃ v', e = .returned (.tuple #[v', .int .i64 0]) ∧ Own w.heap.size w' v' (encM m) ∧ Below w.heap.size w w' := by
  have hin := info5
  have HCK : Hid (∀ w', Below w.heap.size w w' → Calls Tryd.prog 14 #[mfv m v] w' fun e w'' => e = .returned (.int .i64 0) ∧ Below w'.heap.size w' w'') := fun w' hb => by
    have h9 := rcheck8_any m v w' (h.kept hb)
    rw [hc] at h9
    exact h9
  have HNU : Hid (∀ w', Below w.heap.size w w' → Calls Tryd.prog 33 #[mfv m v] w' fun e w'' => ∃ v', e = .returned v' ∧ RowN w'.heap.size w'' v' (numsM m) ∧ Below w'.heap.size w' w'') := fun w' hb => numbers_any m v w' (h.kept hb) hc
  have HNM : Hid (∀ n ∈ numsM m, 0 ≤ n ∧ n ≤ 9223372036854775807) := numsM_le hc ht
  have HBL : Hid ((bodyM m).length ≤ 4000) := bodyM_len hc ht
  have HEN : Hid (encM m = fr (bodyM m)) := rfl
  have HBO : Hid (bodyM m = [77] ++ putL (numsM m)) := rfl
  have HNL : Hid ((numsM m).length ≤ 400) := by
    have h2 := (chk_parts hc).2.2.2.2.2.2.2.2.1
    have h3 := sgNums_len m.l 0
    show _ ≤ _
    unfold numsM
    simp only [List.length_cons]
    omega
  have HPL : Hid (∀ k, (putL ((numsM m).take k)).length ≤ 4000) := fun k => by
    have h1 := putL_len ((numsM m).take k) (fun n hn => (HNM.out n (List.mem_of_mem_take hn)).2)
    have h2 : ((numsM m).take k).length ≤ (numsM m).length := List.length_take_le' k _
    have h3 := HNL.out
    omega
  obtain ⟨ao, cap, rfl, _, _, _⟩ := h
  obtain ⟨E, hE⟩ : ∃ E, E = encM m := ⟨_, rfl⟩
  obtain ⟨bd, hbd⟩ : ∃ bd, bd = bodyM m := ⟨_, rfl⟩
  obtain ⟨ns, hns⟩ : ∃ ns, ns = numsM m := ⟨_, rfl⟩
  rw [← hE] at HEN ⊢
  rw [← hbd] at HEN HBO HBL
  rw [← hns] at HNU HNM HBO HNL HPL
  obtain ⟨g, vv, x, t, l⟩ := m
  unfold mfv at HCK HNU ⊢
  simp only at HCK HNU ⊢
  clear hc hE hbd hns ht
  have HMB : Hid (∀ w', Below (w.alloc (.cells #[.int .i64 g, .int .i64 vv, .int .i64 x, .int .i64 t, .slice ao l.length cap] 24)).heap.size (w.alloc (.cells #[.int .i64 g, .int .i64 vv, .int .i64 x, .int .i64 t, .slice ao l.length cap] 24)) w' → Mb w' w.heap.size ⟨g, vv, x, t, []⟩ (.slice ao l.length cap)) := fun w' hb => (mb_new w ⟨g, vv, x, t, []⟩ _ 24).block (hb.block _ (by rw [heap1]; omega))
  go_enter Tryd.func16, Tryd.ntmps16
  go_wp2_with fail
  refine (HCK.out _ (up0 _ _)).mono ?_
  rintro e w1 ⟨rfl, b1⟩
  have q0 := fun o => (HMB.out _ (up b1 o)).cells.1
  have q1 := fun o => (HMB.out _ (up b1 o)).cells.2.1
  have q2 := fun o => (HMB.out _ (up b1 o)).cells.2.2.1
  have q3 := fun o => (HMB.out _ (up b1 o)).cells.2.2.2.1
  have q4 := fun o => (HMB.out _ (up b1 o)).cells.2.2.2.2
  simp only at q0 q1 q2 q3 q4
  have HB1 : Hid (Below w.heap.size w w1) := andThen (up0 w _) b1
  have HO1 : Hid (Own w1.heap.size (w1.alloc (.cells #[.int .u8 77] 5)) (.slice (some ⟨w1.heap.size, 0, none⟩) 1 1) [77]) := Own.lit w1 [77] (by intro q hq; simp at hq; omega) (Nat.le_refl _) (by simp [maxLen]) #[.int .u8 77] rfl
  clear b1 HMB HCK
  go_wp2_with fail
  refine (HNU.out _ (up HB1.out _)).mono ?_
  rintro e w2 ⟨nv, rfl, hr2, b2⟩
  have HI2 : Hid (IntsAt w2 nv ns) := hr2.at
  have HAP : Hid (∀ q, nv.ownBlock = some q → w1.heap.size + 1 ≤ q ∧ q < w2.heap.size) := fun q hq => by
    have h9 := World.ownsRow.lt hr2 q hq
    rw [heap1] at h9
    exact h9
  obtain ⟨an, cn, en⟩ := rowN_slice hr2
  subst en
  have HAN : Hid (∀ b off, an = some ⟨b, off, none⟩ → 0 < ns.length → (Value.slice an ns.length cn).ownBlock = some b ∧ off = 0) := fun b off e h0 => by
    rcases hr2.2 with ⟨e2, h2⟩ | ⟨g2, cap2, cur2, e2, _⟩
    · omega
    · simp only [Value.slice.injEq] at e2
      rw [e2.1] at e
      simp only [Option.some.injEq, Addr.mk.injEq, and_true] at e
      obtain ⟨rfl, rfl⟩ := e
      exact ⟨by rw [e2.1]; rfl, rfl⟩
  have HO2 : Hid (Own w1.heap.size w2 (.slice (some ⟨w1.heap.size, 0, none⟩) 1 1) [77] ∧ Below w1.heap.size w1 w2) := ⟨HO1.out.kept b2, ((Below.refl _ w1).alloc (Nat.le_refl _) _).trans (b2.mono (by rw [heap1]; omega))⟩
  clear hr2 b2 q0 q1 q2 q3 q4 HO1 HNU
  obtain ⟨_, cN, eN, hcN1, hcN2, hcell⟩ := HI2.out
  simp only [Value.slice.injEq] at eN
  obtain ⟨rfl, _, rfl⟩ := eN
  unfold maxLen at hcN2
  have HCE : Hid (∀ (k : Nat) (n : Int), ns[k]? = some n → ∃ b, an = some ⟨b, 0, none⟩ ∧ ∀ w', w2.grownBy w' (some w1.heap.size) → w'.cell? ⟨b, k, none⟩ = some (.int .i64 n)) := fun k n hn => by
    obtain ⟨b, off, e, hb, hcl⟩ := hcell k n hn
    obtain ⟨h1, rfl⟩ := HAN.out b off e (by have := (List.getElem?_eq_some_iff.1 hn).1; omega)
    refine ⟨b, e, fun w' hg => ?_⟩
    have := hg.block b hb (fun e2 => by have h3 := (HAP.out b h1).1; simp only [Option.some.injEq] at e2; omega)
    rw [World.cell?_of_block (a := ⟨b, k, none⟩) this]
    rw [Nat.zero_add] at hcl
    exact hcl
  clear hcell HI2
  go_wp2
  go_loopw [5, 7] (fun b i wr => ∃ (k : Nat), k ≤ ns.length ∧ i = .int .i64 (k : Int) ∧ Own w1.heap.size wr b ([77] ++ putL (ns.take k)) ∧ w2.grownBy wr (some w1.heap.size) ∧ Hereby w2 (.slice (some ⟨w1.heap.size, 0, none⟩) 1 1) b) (fun _ i _ => ns.length - (intOf i).toNat)
  case atStart => exact ⟨0, Nat.zero_le _, rfl, by simpa [putL] using HO2.out.1, World.grownBy.refl _ _, .inl rfl⟩
  case round =>
    obtain ⟨k, hk, rfl, ho, hg, hh⟩ := hrel
    by_cases hlt : k < ns.length
    · obtain ⟨n, hn⟩ : ∃ n, ns[k]? = some n := ⟨ns[k], List.getElem?_eq_getElem hlt⟩
      obtain ⟨hn0, hn1⟩ := HNM.out n (List.mem_of_getElem? hn)
      obtain ⟨u, rfl⟩ : ∃ u : Nat, n = (u : Int) := ⟨n.toNat, by omega⟩
      obtain ⟨b, rfl, hcl⟩ := HCE.out k _ hn
      have q0 := hcl wr hg
      have HM : Hid (putL (ns.take (k + 1)) = putL (ns.take k) ++ Wn.uint u) := by
        show _ = _
        rw [putL_snoc ns k _ hn]
        simp
      have HU : Hid (∀ w', Calls Tryd.prog 34 #[.int .u64 (u : Int)] w' fun e w'' => ∃ v', e = .returned v' ∧ Own w'.heap.size w'' v' (Wn.uint u) ∧ Below w'.heap.size w' w'') := fun w' => ruint_any u w' (by omega)
      have hul := Wn.uint_len10 u (by omega)
      have hpl := HPL.out k
      have HX : Hid (Own w1.heap.size wr u5 ([77] ++ putL (ns.take k)) ∧ w2.grownBy wr (some w1.heap.size) ∧ Hereby w2 (.slice (some ⟨w1.heap.size, 0, none⟩) 1 1) u5 ∧ w1.heap.size ≤ wr.heap.size) := ⟨ho, hg, hh, Nat.le_trans HO2.out.2.size hg.size⟩
      obtain ⟨a0, m0, c0, e0⟩ := own_slice ho
      subst e0
      clear hcl hn ho hg hh HNM HCE HPL
      generalize putL (ns.take k) = mm at *
      generalize Wn.uint u = f at *
      go_wp2_with fail
      refine (HU.out _).mono ?_
      rintro e w4 ⟨v4, rfl, ho4, b4⟩
      obtain ⟨a4, n4, c4, e4⟩ := own_slice ho4
      subst e4
      have HO : Hid (Own w1.heap.size w4 (.slice a0 m0 c0) ([77] ++ mm) ∧ Bs w4 (.slice a4 n4 c4) f ∧ w1.heap.size ≤ w4.heap.size) := ⟨HX.out.1.kept b4, ho4.bs, Nat.le_trans HX.out.2.2.2 b4.size⟩
      have HG4 : Hid (w2.grownBy w4 (some w1.heap.size)) := grown_below2 (row := .slice (some ⟨w1.heap.size, 0, none⟩) 1 1) HX.out.2.1 b4
      have hml : ([77] ++ mm).length + f.length ≤ 140737488355328 := by rw [List.length_append]; simp; omega
      clear ho4 b4 q0 HU
      go_wp2_with (at_builtin; refine wpList_append_at _ rfl (.tmp 22) (.tmp 28) 25 rfl w1.heap.size hin Tryd.underlying25 _ ([77] ++ mm) rfl HO.out.1 _ f rfl HO.out.2.1 hml HO.out.2.2 ?_)
      intro v5 w5 ho5 g5 hat5
      have R : Hid (Own w1.heap.size w5 v5 ([77] ++ putL (ns.take (k + 1))) ∧ w2.grownBy w5 (some w1.heap.size) ∧ Hereby w2 (.slice (some ⟨w1.heap.size, 0, none⟩) 1 1) v5) := ⟨by rw [HM.out]; simpa using ho5, grown_then (row := .slice (some ⟨w1.heap.size, 0, none⟩) 1 1) HG4.out HX.out.2.2.1 g5, by
        rcases hat5 with e | e
        · rcases HX.out.2.2.1 with h | h
          · exact .inl (e.trans h)
          · exact .inr fun g hg => h g (e ▸ hg)
        · refine .inr fun g hg => ?_
          rw [e] at hg
          have h1 := Option.some.inj hg
          have h2 := HG4.out.size
          omega⟩
      clear ho5 g5 hat5 HO HG4 HX
      go_wp2
      go_roundw
      case rel => exact ⟨k + 1, by omega, by go_num, R.out.1, R.out.2.1, R.out.2.2⟩
      case measure => simp [intOf]; omega
    · obtain rfl : k = ns.length := by omega
      rw [List.take_length, ← HBO.out] at ho
      have HBW : Hid (Below w1.heap.size w1 wr) := HO2.out.2.grown hg HO2.out.2.size (fun q hq => by simp only [Option.some.injEq] at hq; omega)
      have HFR : Hid (Calls Tryd.prog 35 #[u5] wr fun e w' => ∃ v', e = .returned (.tuple #[v', .int .i64 0]) ∧ Own w.heap.size w' v' E ∧ Below w.heap.size w w') := by
        have h1 := rframe_ok u5 bd wr ho.bs (by rw [HBO.out]; simp) (by have := HBL.out; omega)
        refine h1.mono ?_
        rintro e w' ⟨v', rfl, h2, h3⟩
        refine ⟨v', rfl, ?_, HB1.out.trans ((HBW.out.mono HB1.out.size).trans (h3.mono (Nat.le_trans HB1.out.size HBW.out.size)))⟩
        rw [HEN.out]
        exact own_weakM h2 (Nat.le_trans HB1.out.size HBW.out.size)
      obtain ⟨a5, m5, c5, e5⟩ := own_slice ho
      subst e5
      clear ho hg hh HNM HCE HPL HBO HEN
      go_wp2_with fail
      refine HFR.out.mono ?_
      rintro e w3 ⟨v3, rfl, ho3, b3⟩
      obtain ⟨a3, n3, c3, e3⟩ := own_slice ho3
      subst e3
      go_wp2
      go_ret2
      exact ⟨_, rfl, ho3, b3⟩
end Go.Proofs.YtpikdngccgdhiaaDoor

/-
  ManifestChecks: all, laidSegs, intactSegs.
-/
namespace Go.Proofs.YtpikdngccgdhiaaDoor
open Go Go.RowKit
open Wb

set_option maxRecDepth 100000 in
theorem all_yes (v : Value) (l : List Nat) (mk : Nat) (w : World) (h : Bs w v l) (hm : ∀ x ∈ l, x = mk) :
    Calls Tryd.prog 18 #[v, .int .u8 (mk : Int)] w fun e w' => e = .returned (.bool true) ∧ Below w.heap.size w w' := by
  obtain ⟨ao, cap, rfl, hl, hmx, hn, hc⟩ := h.shape
  unfold maxLen at hmx
  have HC : Hid (∀ k, k < l.length → ∃ b off, ao = some ⟨b, off, none⟩ ∧ w.cell? ⟨b, off + k, none⟩ = some (.int .u8 (mk : Int))) := fun k hk => by
    obtain ⟨b, off, e, hcell⟩ := hc (List.ne_nil_of_length_pos (by omega))
    refine ⟨b, off, e, ?_⟩
    rw [hcell k hk, hm _ (List.getElem_mem hk)]
  clear hc hm h hn
  go_enter Tryd.func18, Tryd.ntmps18
  go_wp2
  go_loopw [5] (fun i wr => ∃ k : Nat, k ≤ l.length ∧ i = .int .i64 (k : Int) ∧ wr = w) (fun i _ => l.length - (intOf i).toNat)
  case atStart => exact ⟨0, Nat.zero_le _, rfl, rfl⟩
  case round =>
    obtain ⟨k, hk, rfl, rfl⟩ := hrel
    by_cases hlt : k < l.length
    · obtain ⟨b, off, rfl, q⟩ := HC.out k hlt
      clear HC
      go_wp2
      go_roundw
      case rel => exact ⟨k + 1, by omega, by go_num, trivial⟩
      case measure => simp [intOf]; omega
    · obtain rfl : k = l.length := by omega
      clear HC
      go_wp2
      go_ret
      exact ⟨rfl, Below.refl _ _⟩
theorem flat_sgc_append (a b : List Sg) : (a ++ b).flatMap sgc = a.flatMap sgc ++ b.flatMap sgc := by simp
theorem wpList_append_segs {P : Program} (w : World) {ops : Array Oper} {rest : List Oper} {o : Oper} {a : Act} {Q : Exit → Act → World → Prop} (hgd : o.guard = none) (s x : Operand) (t : TypeId)
    (ho : o.op = .call { callee := .builtin .append, args := #[s, x], argTypes := #[t, t] })
    (B : Nat) (hinfo : (P.info? 46).map (fun i => (i.zero, i.size, i.bytes)) = some (some (.agg #[.int .i64 0, .int .i64 0, .int .i64 0]), 3, 24)) (ht : P.underlying t = some (.slice 46))
    (v : Value) (l : List Sg) (hv : a.eval s = v) (h : SgR B w v l) (xv : Value) (m : List Sg) (hx : a.eval x = xv) (hm : SgsAt w xv m)
    (hne : ∀ ao n cap, xv = .slice ao n cap → ao = none → cap = 0) (hmax : (l.length + m.length) * 24 ≤ 140737488355328) (hB : B ≤ w.heap.size)
    (hK : ∀ v' w', SgR B w' v' (l ++ m) → w.grownBy w' v.ownBlock → (v'.ownBlock = v.ownBlock ∨ v'.ownBlock = some w.heap.size) → wpList P ops Q rest (a.put o.dst v') w') : wpList P ops Q (o :: rest) a w := by
  obtain ⟨i0, hi, hz0, hz1, hz2⟩ := info_partsM hinfo
  obtain ⟨ao, cap, rfl, hl, hmx, hc⟩ := hm
  cases ao with
  | none =>
    obtain rfl := hne _ _ _ rfl rfl
    have h0 : m = [] := List.eq_nil_of_length_eq_zero (by omega)
    subst h0
    refine wpList_append_own_none hgd s x t ho B 46 i0 3 ht hi v l.length (l.flatMap sgc) hv h hx ?_
    exact hK v w (by simpa using h) (World.grownBy.refl _ _) (.inl rfl)
  | some ad =>
    refine wpList_append_own_at w hgd s x t ho B 46 i0 _ 3 24 ht hi hz0 hz1 hz2 rfl (by decide) v l.length (l.flatMap sgc) hv h ad m.length cap (m.flatMap sgc) hx (flat_sgc_len m) ?_ ?_ (by unfold maxLen; omega) hmax hB ?_
    · intro j u hj
      have hjl : j < m.length * 3 := by have := (List.getElem?_eq_some_iff.1 hj).1; rwa [flat_sgc_len] at this
      obtain ⟨sg, hsg⟩ : ∃ sg, m[j / 3]? = some sg := ⟨m[j / 3]'(by omega), List.getElem?_eq_getElem _⟩
      obtain ⟨b, off, e, hr⟩ := hc (j / 3) sg hsg
      obtain rfl := Option.some.inj e
      rw [Addr.add_lit]
      have h3 : ∃ u', (sgc sg)[j % 3]? = some u' := by
        have : j % 3 < 3 := Nat.mod_lt _ (by decide)
        exact ⟨(sgc sg)[j % 3]'(by simpa [sgc] using this), List.getElem?_eq_getElem _⟩
      obtain ⟨u', hu'⟩ := h3
      have h4 := flat_sgc_get m (j / 3) sg (j % 3) u' hsg hu'
      rw [show j / 3 * 3 + j % 3 = j by omega, hj] at h4
      obtain rfl := Option.some.inj h4
      have h5 := hr (j % 3) _ hu'
      rw [show off + j / 3 * 3 + j % 3 = off + j by omega] at h5
      exact h5
    · intro u hu
      obtain ⟨sg, _, hu2⟩ := List.mem_flatMap.1 hu
      simp only [sgc, List.mem_cons, List.not_mem_nil, or_false] at hu2
      rcases hu2 with rfl | rfl | rfl <;> rfl
    · intro v' w' h2 h3 _ h5
      refine hK v' w' ?_ h3 h5
      unfold SgR
      rw [List.length_append, flat_sgc_append]
      exact h2
end Go.Proofs.YtpikdngccgdhiaaDoor

/-
  ManifestChecks: laidSegs.
-/
namespace Go.Proofs.YtpikdngccgdhiaaDoor
open Go Go.RowKit
open Wb

def NoneZ (v : Value) : Prop := ∀ ao n cap, v = .slice ao n cap → ao = none → cap = 0
theorem nz_some (p : Addr) (n c : Nat) : ∀ ao n' cap, Value.slice (some p) n c = .slice ao n' cap → ao = none → cap = 0 := by
  intro ao n' cap e e2
  subst e2
  simp at e
def marksS : List Sg := [⟨-201, 0, 0⟩, ⟨-202, 0, 0⟩]
theorem marks_at (w : World) (t : TypeId) : SgsAt (w.alloc (.cells #[.int .i64 (-201), .int .i64 0, .int .i64 0, .int .i64 (-202), .int .i64 0, .int .i64 0] t)) (.slice (some ⟨w.heap.size, 0, none⟩) 2 2) marksS := by
  refine ⟨_, 2, rfl, Nat.le_refl _, by unfold maxLen; omega, fun k s hs => ⟨w.heap.size, 0, rfl, fun j u hj => ?_⟩⟩
  have hk := (List.getElem?_eq_some_iff.1 hs).1
  have hk2 : k < 2 := hk
  have hj3 : j < 3 := by have := (List.getElem?_eq_some_iff.1 hj).1; simpa [sgc] using this
  have h9 := World.cell?_alloc_new w #[.int .i64 (-201), .int .i64 0, .int .i64 0, .int .i64 (-202), .int .i64 0, .int .i64 0] t (0 + k * 3 + j)
  rw [h9]
  match k, hk2, j, hj3 with
  | 0, _, 0, _ => simp [marksS] at hs; subst hs; simpa [sgc] using hj
  | 0, _, 1, _ => simp [marksS] at hs; subst hs; simpa [sgc] using hj
  | 0, _, 2, _ => simp [marksS] at hs; subst hs; simpa [sgc] using hj
  | 1, _, 0, _ => simp [marksS] at hs; subst hs; simpa [sgc] using hj
  | 1, _, 1, _ => simp [marksS] at hs; subst hs; simpa [sgc] using hj
  | 1, _, 2, _ => simp [marksS] at hs; subst hs; simpa [sgc] using hj
set_option maxRecDepth 100000 in
set_option maxHeartbeats 8000000 in
theorem laidSegs_any (m : Mf) (v : Value) (w : World) (h : SgsAt w v m.l) (hz : NoneZ v) (h300 : m.l.length ≤ 300) :
    Calls Tryd.prog 15 #[mfv m v] w fun e w' => ∃ ao, ∃ cap : Nat, e = .returned (mfv m (.slice ao m.l.length cap)) ∧ SgR w.heap.size w' (.slice ao (m.l.length + 2) cap) (m.l ++ marksS) ∧ Below w.heap.size w w' := by
  have hin := infoSg3
  have HSA : Hid (∀ w', Below w.heap.size w w' → SgsAt w' v m.l) := fun w' hb => h.kept hb
  obtain ⟨ao, cap, rfl, hc1, hc2, _⟩ := h
  unfold maxLen at hc2
  obtain ⟨g, vv, x, t, l⟩ := m
  unfold mfv
  simp only at HSA hc1 h300 ⊢
  obtain ⟨W, hW⟩ : ∃ W, W = ((w.alloc (.cells #[.int .i64 g, .int .i64 vv, .int .i64 x, .int .i64 t, .slice ao l.length cap] 24)).alloc (.cells #[.int .i64 0, .int .i64 0, .int .i64 0, .int .i64 0, .slice none 0 0] 24)) := ⟨_, rfl⟩
  have HWE : Hid (W = ((w.alloc (.cells #[.int .i64 g, .int .i64 vv, .int .i64 x, .int .i64 t, .slice ao l.length cap] 24)).alloc (.cells #[.int .i64 0, .int .i64 0, .int .i64 0, .int .i64 0, .slice none 0 0] 24)) ∧ W.heap.size = w.heap.size + 2) := ⟨hW, by rw [hW, heap1, heap1]⟩
  have HBW : Hid (Below w.heap.size w W) := by show Below _ _ _; rw [hW]; exact up (up0 _ _) _
  have HM1 : Hid (Mb W w.heap.size ⟨g, vv, x, t, []⟩ (.slice ao l.length cap)) := by show Mb _ _ _ _; rw [hW]; exact (mb_new w ⟨g, vv, x, t, []⟩ _ 24).block (alloc_old _ _ _ (by rw [heap1]; omega))
  have HM2 : Hid (Mb W (w.heap.size + 1) zeroM (.slice none 0 0)) := by
    have := mb_new (w.alloc (.cells #[.int .i64 g, .int .i64 vv, .int .i64 x, .int .i64 t, .slice ao l.length cap] 24)) zeroM (.slice none 0 0) 24
    rw [heap1] at this
    show Mb _ _ _ _
    rw [hW]
    exact this
  have HNZ : Hid (∀ ao' n cap', Value.slice ao l.length cap = .slice ao' n cap' → ao' = none → cap' = 0) := hz
  have m4 := HM1.out.cells.2.2.2.2
  clear hW hz
  go_enter Tryd.func15, Tryd.ntmps15
  go_upto_region 1 with fail
  rw [← HWE.out.1]
  go_wp2_with (at_builtin; refine wpList_append_segs _ rfl (.const (.slice none 0 0)) (.tmp 5) 22 rfl W.heap.size hin Tryd.underlying22 _ [] rfl (SgR.nil _ _) _ l rfl (HSA.out _ HBW.out) HNZ.out (by simp; omega) (Nat.le_refl _) ?_)
  intro v3 w3 hs3 g3 hat3
  obtain ⟨a3, c3, e3⟩ : ∃ a3, ∃ c3 : Nat, v3 = .slice a3 l.length c3 := by
    obtain ⟨a3, c3, e, _⟩ := hs3.at
    exact ⟨a3, c3, e⟩
  subst e3
  have HS3 : Hid (∀ o, SgR W.heap.size (w3.alloc o) (.slice a3 l.length c3) l ∧ W.heap.size ≤ (w3.alloc o).heap.size) := fun o => ⟨hs3.kept (up0 _ _), by rw [heap1]; have := g3.size; omega⟩
  have HB3 : Hid (Below W.heap.size W w3) := ⟨g3.os, g3.tape, g3.output, g3.size, fun q hq => g3.block q hq (by simp [Value.ownBlock])⟩
  have HU3 : Hid (∀ q, (Value.slice a3 l.length c3).ownBlock = some q → W.heap.size ≤ q) := fun q hq => (World.ownsRow.lt hs3 q hq).1
  clear hs3 g3 hat3 m4 HSA
  go_wp2_with (at_builtin; refine wpList_append_segs _ rfl (.tmp 6) (.tmp 9) 22 rfl W.heap.size hin Tryd.underlying22 _ l rfl (HS3.out _).1 _ marksS rfl (marks_at w3 _) (nz_some _ _ _) (by simp [marksS]; omega) (HS3.out _).2 ?_)
  intro v5 w5 hs5 g5 hat5
  obtain ⟨a5, c5, e5, hc51, hc52⟩ : ∃ a5, ∃ c5 : Nat, v5 = .slice a5 (l.length + 2) c5 ∧ l.length + 2 ≤ c5 ∧ c5 ≤ maxLen := by
    obtain ⟨a5, c5, e, h1, h2, _⟩ := hs5.at
    rw [List.length_append] at e h1
    exact ⟨a5, c5, e, h1, h2⟩
  subst e5
  unfold maxLen at hc52
  have HB5 : Hid (Below W.heap.size W w5) := (up HB3.out _).grown g5 (HS3.out _).2 (fun q hq => HU3.out q hq)
  have HS5 : Hid (SgR W.heap.size w5 (.slice a5 (l.length + 2) c5) (l ++ marksS)) := hs5
  have hm5 := HM1.out.block (HB5.out.block _ (by rw [HWE.out.2]; omega))
  have hr5 := HM2.out.block (HB5.out.block (w.heap.size + 1) (by rw [HWE.out.2]; omega))
  obtain ⟨W6, hW6⟩ : ∃ W6, W6 = w5.setCell ⟨w.heap.size, 4, none⟩ (.slice a5 l.length c5) := ⟨_, rfl⟩
  have hm6 : Mb W6 w.heap.size ⟨g, vv, x, t, []⟩ (.slice a5 l.length c5) := by rw [hW6]; exact hm5.put4 _
  have hr6 : Mb W6 (w.heap.size + 1) zeroM (.slice none 0 0) := by rw [hW6]; exact hr5.block ((Only.set w.heap.size w5 4 _).block _ (by omega))
  have HB6 : Hid (Below w.heap.size w W6) := by
    show Below _ _ _
    rw [hW6]
    exact (HBW.out.trans (HB5.out.mono HBW.out.size)).setCell (p := ⟨w.heap.size, 4, none⟩) (Nat.le_refl _) _
  have HS6 : Hid (SgR w.heap.size (store5 W6 (w.heap.size + 1) ⟨g, vv, x, t, []⟩ (.slice a5 l.length c5)) (.slice a5 (l.length + 2) c5) (l ++ marksS)) := by
    have hsz := HWE.out.2
    refine (HS5.out.block (fun q hq => ?_)).weak (by omega)
    have h9 := (World.ownsRow.lt HS5.out q hq).1
    rw [store5_block _ _ _ _ q (by omega), hW6]
    exact (Only.set w.heap.size w5 4 _).block q (by omega)
  have HW6 : Hid (W6 = w5.setCell ⟨w.heap.size, 4, none⟩ (.slice a5 l.length c5)) := hW6
  have l4 := hm5.cells.2.2.2.2
  have f4 := hm5.frozen 4
  obtain ⟨m0, m1, m2, m3, m4⟩ := hm6.cells
  simp only at m0 m1 m2 m3 m4
  obtain ⟨r0, r1, r2, r3, r4⟩ := hr6.cells
  unfold zeroM at r0 r1 r2 r3
  simp only at r0 r1 r2 r3
  have z0 := hr6.frozen 0
  have z1 := hr6.frozen 1
  have z2 := hr6.frozen 2
  have z3 := hr6.frozen 3
  have z4 := hr6.frozen 4
  have HEN : Hid (Mb (store5 W6 (w.heap.size + 1) ⟨g, vv, x, t, []⟩ (.slice a5 l.length c5)) (w.heap.size + 1) ⟨g, vv, x, t, []⟩ (.slice a5 l.length c5) ∧ Below w.heap.size w (store5 W6 (w.heap.size + 1) ⟨g, vv, x, t, []⟩ (.slice a5 l.length c5))) := ⟨hr6.store _ _, store5_below HB6.out (by omega) _ _⟩
  clear hs5 g5 hat5 hm5 hr5 hm6 hr6 hW6 HS3 HB3 HU3 HM1 HM2 HWE HB5 HS5
  go_upto_region 3 with fail
  rw [← HW6.out]
  clear HW6 l4 f4
  go_wp2
  obtain ⟨WE, hWE⟩ : ∃ WE, WE = store5 W6 (w.heap.size + 1) ⟨g, vv, x, t, []⟩ (.slice a5 l.length c5) := ⟨_, rfl⟩
  rw [← hWE] at HEN HS6
  have hWE2 : WE = (((((W6.setCell ⟨w.heap.size + 1, 0, none⟩ (.int .i64 g)).setCell ⟨w.heap.size + 1, 1, none⟩ (.int .i64 vv)).setCell ⟨w.heap.size + 1, 2, none⟩ (.int .i64 x)).setCell ⟨w.heap.size + 1, 3, none⟩ (.int .i64 t)).setCell ⟨w.heap.size + 1, 4, none⟩ (.slice a5 l.length c5)) := hWE
  rw [← hWE2]
  clear hWE hWE2
  obtain ⟨y0, y1, y2, y3, y4⟩ := HEN.out.1.cells
  simp only at y0 y1 y2 y3 y4
  clear r0 r1 r2 r3 r4 z0 z1 z2 z3 z4 m0 m1 m2 m3 m4
  (try simp only [Exit.inBlock, Exit.then])
  refine bodyPost_ret (by simp [results, Tryd.results15, go_sem, y0, y1, y2, y3, y4]; try rfl) rfl ?_
  exact ⟨a5, c5, rfl, HS6.out, HEN.out.2⟩
end Go.Proofs.YtpikdngccgdhiaaDoor

/-
  ManifestChecks: intactSegs, cutSegs.
-/
namespace Go.Proofs.YtpikdngccgdhiaaDoor
open Go Go.RowKit
open Wb

theorem head_at {w : World} {ao : Option Addr} {cap : Nat} {l : List Sg} (h : SgsAt w (.slice ao (l.length + 2) cap) (l ++ marksS)) : SgsAt w (.slice ao l.length cap) l := by
  have h1 : SgsAt w (.slice ao (l ++ marksS).length cap) (l ++ marksS) := by
    rw [List.length_append]
    exact h
  have h2 := h1.take l.length (by rw [List.length_append]; omega)
  rw [List.take_left'] at h2
  · exact h2
  · rfl
set_option maxRecDepth 100000 in
set_option maxHeartbeats 8000000 in
theorem intactSegs_yes (m : Mf) (ao : Option Addr) (cap : Nat) (v2 : Value) (w : World) (h : SgsAt w (.slice ao (m.l.length + 2) cap) (m.l ++ marksS)) (h2 : SgsAt w v2 m.l) :
    Calls Tryd.prog 17 #[mfv m (.slice ao m.l.length cap), mfv m v2] w fun e w' => e = .returned (.bool true) ∧ Below w.heap.size w w' := by
  have HSY : Hid (∀ w', Below w.heap.size w w' → Calls Tryd.prog 12 #[mfv m (.slice ao m.l.length cap), mfv m v2] w' fun e w'' => e = .returned (.bool true) ∧ Below w'.heap.size w' w'') := fun w' hb => same_yes m _ _ w' (head_at (h.kept hb)) (h2.kept hb)
  have HRC : Hid (∀ w', Below w.heap.size w w' → ∃ b off, ao = some ⟨b, off, none⟩ ∧ w'.cell? ⟨b, off + m.l.length * 3, none⟩ = some (.int .i64 (-201)) ∧ w'.cell? ⟨b, off + m.l.length * 3 + 1, none⟩ = some (.int .i64 0) ∧ w'.cell? ⟨b, off + m.l.length * 3 + 2, none⟩ = some (.int .i64 0) ∧ w'.cell? ⟨b, off + (m.l.length + 1) * 3, none⟩ = some (.int .i64 (-202)) ∧ w'.cell? ⟨b, off + (m.l.length + 1) * 3 + 1, none⟩ = some (.int .i64 0) ∧ w'.cell? ⟨b, off + (m.l.length + 1) * 3 + 2, none⟩ = some (.int .i64 0)) := fun w' hb => by
    obtain ⟨ao', cap', e, _, _, hcc⟩ := (h.kept hb).cells
    simp only [Value.slice.injEq] at e
    obtain ⟨rfl, _, rfl⟩ := e
    obtain ⟨b, off, e1, x0, x1, x2⟩ := hcc m.l.length ⟨-201, 0, 0⟩ (by rw [List.getElem?_append_right (Nat.le_refl _)]; simp [marksS])
    obtain ⟨b', off', e2, y0, y1, y2⟩ := hcc (m.l.length + 1) ⟨-202, 0, 0⟩ (by rw [List.getElem?_append_right (by omega)]; simp [marksS])
    rw [e1] at e2
    simp only [Option.some.injEq, Addr.mk.injEq, and_true] at e2
    obtain ⟨rfl, rfl⟩ := e2
    exact ⟨b, off, e1, x0, x1, x2, y0, y1, y2⟩
  obtain ⟨ao0, cap0, e0, hc1, hc2, _⟩ := h
  simp only [Value.slice.injEq] at e0
  obtain ⟨rfl, -, rfl⟩ := e0
  rw [List.length_append] at hc1
  have hc3 : m.l.length + 2 ≤ cap := hc1
  clear hc1
  unfold maxLen at hc2
  obtain ⟨a2, c2, rfl, hc21, hc22, _⟩ := h2
  unfold maxLen at hc22
  obtain ⟨b, off, rfl, _⟩ := HRC.out w (Below.refl _ _)
  obtain ⟨g, vv, x, t, l⟩ := m
  unfold mfv at HSY ⊢
  simp only at HSY HRC hc3 hc21 ⊢
  obtain ⟨W, hW⟩ : ∃ W, W = (w.alloc (.cells #[.int .i64 g, .int .i64 vv, .int .i64 x, .int .i64 t, .slice (some ⟨b, off, none⟩) l.length cap] 24)).alloc (.cells #[.int .i64 g, .int .i64 vv, .int .i64 x, .int .i64 t, .slice a2 l.length c2] 24) := ⟨_, rfl⟩
  have HBW : Hid (Below w.heap.size w W ∧ W.heap.size = w.heap.size + 2) := ⟨by rw [hW]; exact up (up0 _ _) _, by rw [hW, heap1, heap1]⟩
  have hm1 : Mb W w.heap.size ⟨g, vv, x, t, []⟩ (.slice (some ⟨b, off, none⟩) l.length cap) := by rw [hW]; exact (mb_new w ⟨g, vv, x, t, []⟩ _ 24).block (alloc_old _ _ _ (by rw [heap1]; omega))
  have hm2 : Mb W (w.heap.size + 1) ⟨g, vv, x, t, []⟩ (.slice a2 l.length c2) := by
    have := mb_new (w.alloc (.cells #[.int .i64 g, .int .i64 vv, .int .i64 x, .int .i64 t, .slice (some ⟨b, off, none⟩) l.length cap] 24)) ⟨g, vv, x, t, []⟩ (.slice a2 l.length c2) 24
    rw [heap1] at this
    rw [hW]
    exact this
  have HCE : Hid (∀ w', Below W.heap.size W w' → w'.cell? ⟨w.heap.size, 4, none⟩ = some (.slice (some ⟨b, off, none⟩) l.length cap) ∧ w'.cell? ⟨w.heap.size + 1, 4, none⟩ = some (.slice a2 l.length c2)) := fun w' hb => ⟨(hm1.block (hb.block _ (by rw [HBW.out.2]; omega))).cells.2.2.2.2, (hm2.block (hb.block _ (by rw [HBW.out.2]; omega))).cells.2.2.2.2⟩
  have HWE : Hid (W = (w.alloc (.cells #[.int .i64 g, .int .i64 vv, .int .i64 x, .int .i64 t, .slice (some ⟨b, off, none⟩) l.length cap] 24)).alloc (.cells #[.int .i64 g, .int .i64 vv, .int .i64 x, .int .i64 t, .slice a2 l.length c2] 24)) := hW
  clear hW hm1 hm2
  go_enter Tryd.func17, Tryd.ntmps17
  go_wp2_with fail
  rw [← HWE.out]
  refine (HSY.out _ HBW.out.1).mono ?_
  rintro e w1 ⟨rfl, b1⟩
  have B1 := andThen HBW.out.1 b1
  obtain ⟨q1, q2⟩ := HCE.out _ b1
  obtain ⟨b', off', e', x0, x1, x2, y0, y1, y2⟩ := HRC.out _ B1
  simp only [Option.some.injEq, Addr.mk.injEq, and_true] at e'
  obtain ⟨rfl, rfl⟩ := e'
  have hcn : cap ≤ 9223372036854775807 := by omega
  have hi0 : (l.length : Int) + 2 ≤ (cap : Int) := by omega
  have hi1 : (l.length : Int) < (l.length : Int) + 2 := by omega
  have hi2 : (l.length : Int) + 1 < (l.length : Int) + 2 := by omega
  clear b1 HSY HRC HCE HWE hc2
  go_wp2
  go_ret
  exact ⟨rfl, B1⟩
set_option maxRecDepth 100000 in
set_option maxHeartbeats 4000000 in
theorem cutSegs2_any (m : Mf) (v : Value) (w0 w : World) (h : SgsAt w0 v m.l) (hz : NoneZ v) :
    Calls Tryd.prog 7 #[mfv m v] w fun e w' => ∃ v', e = .returned (mfv ⟨m.g, m.v, m.x, m.t, m.l.take 300⟩ v') ∧ (∀ w'', Below w0.heap.size w0 w'' → SgsAt w'' v' (m.l.take 300)) ∧ NoneZ v' ∧ Below w.heap.size w w' := by
  have HS : Hid (SgsAt w0 v m.l) := h
  obtain ⟨ao, cap, rfl, hc1, hc2, _⟩ := h
  unfold maxLen at hc2
  have HNZ : Hid (∀ n, NoneZ (.slice ao n cap)) := fun n ao' n' cap' e e2 => by
    simp only [Value.slice.injEq] at e
    exact hz ao' m.l.length cap' (by rw [e.1, e.2.2]) e2
  clear hz
  obtain ⟨g, vv, x, t, l⟩ := m
  unfold mfv
  simp only at HS HNZ hc1 ⊢
  by_cases h3 : 300 < l.length
  · have HK : Hid (∀ w', Below w0.heap.size w0 w' → SgsAt w' (.slice ao 300 cap) (l.take 300)) := fun w' hb => (HS.out.kept hb).take 300 (by omega)
    clear HS
    go_enter Tryd.func7, Tryd.ntmps7
    go_wp2
    go_returns
    exact ⟨_, rfl, HK.out, HNZ.out _, by go_grown⟩
  · have HT : Hid (l.take 300 = l) := List.take_of_length_le (by omega)
    have HK : Hid (∀ w', Below w0.heap.size w0 w' → SgsAt w' (.slice ao l.length cap) l) := fun w' hb => HS.out.kept hb
    rw [HT.out]
    clear HS HT
    go_enter Tryd.func7, Tryd.ntmps7
    go_wp2
    go_returns
    exact ⟨_, rfl, HK.out, HNZ.out _, by go_grown⟩
end Go.Proofs.YtpikdngccgdhiaaDoor

/-
  ManifestChecks: marks.
-/
namespace Go.Proofs.YtpikdngccgdhiaaDoor
open Go Go.RowKit
open Wb

theorem heap_new (w : World) (o : Obj) : (w.alloc o).heap[w.heap.size]? = some o := by
  show (w.heap.push o)[w.heap.size]? = _
  exact Array.getElem?_push_size
theorem heap_old (w : World) (o : Obj) (g : Nat) (h : g < w.heap.size) : (w.alloc o).heap[g]? = w.heap[g]? := by
  show (w.heap.push o)[g]? = _
  rw [Array.getElem?_push, if_neg (by omega)]
theorem set_other (w : World) (p : Addr) (u : Value) (g : Nat) (h : g ≠ p.block) : (w.setCell p u).heap[g]? = w.heap[g]? := by
  simp only [World.setCell, Array.getElem?_modify]
  rw [if_neg (Ne.symm h)]
theorem own_kept2 {B : Nat} {w w' : World} {d : Value} {l : List Nat} (h : Own B w d l) (hb : ∀ g, d.ownBlock = some g → w'.heap[g]? = w.heap[g]?) : Own B w' d l := by
  refine ⟨⟨h.row.1, ?_⟩, h.good⟩
  rcases h.row.2 with h1 | ⟨g, cap, cur, rfl, h1, hg, rest⟩
  · exact .inl h1
  · exact .inr ⟨g, cap, cur, rfl, h1, (hb g rfl).trans hg, rest⟩
/-- a byte of a record's data is turned -/
theorem Own.put {B : Nat} {w : World} {g n cap : Nat} {l : List Nat} (h : Own B w (.slice (some ⟨g, 0, none⟩) l.length cap) l) (k b : Nat) (_hk : k < l.length) (hb : b < 256) (_hn : n = l.length) : Own B (w.setCell ⟨g, k, none⟩ (.int .u8 (b : Int))) (.slice (some ⟨g, 0, none⟩) l.length cap) (l.set k b) := by
  have hst := (World.ownsRow.stored h.row k (.int .u8 (b : Int))).1
  have e : (bv l).set k (.int .u8 (b : Int)) = bv (l.set k b) := by unfold bv; rw [List.map_set]
  rw [e] at hst
  refine ⟨?_, fun x hx => ?_⟩
  · rw [List.length_set]
    exact hst
  · rcases List.mem_or_eq_of_mem_set hx with hx | hx
    · exact h.good x hx
    · omega
/-- marks: n of a, then k of t -/
def mks (n a k t : Nat) : List Nat := List.replicate n a ++ List.replicate k t
theorem mks_len (n a k t : Nat) : (mks n a k t).length = n + k := by simp [mks]
theorem mks_get (n a k t j : Nat) (h : j < n + k) : (mks n a k t)[j]? = some (if j < n then a else t) := by
  unfold mks
  by_cases hj : j < n
  · rw [List.getElem?_append_left (by simpa using hj), List.getElem?_replicate, if_pos hj, if_pos hj]
  · rw [List.getElem?_append_right (by simpa using hj), List.getElem?_replicate, if_neg hj, if_pos (by simp; omega)]
theorem mks_more (n a k m t : Nat) : mks n a k t ++ List.replicate m t = mks n a (k + m) t := by
  unfold mks
  rw [List.append_assoc, List.replicate_append_replicate]
/-- the run of an append of marks onto marks: what it makes, and that every view of the same marks stays -/
theorem append_marks {P : Program} (w : World) (B : Nat) (t ty : TypeId) (hinfo : (P.info? 5).map (fun i => (i.zero, i.size, i.bytes)) = some (some (.int .u8 0), 1, 1)) (ht : P.underlying t = some (.slice 5))
    (v : Value) (n a k tm m : Nat) (h : Own B w v (mks n a k tm)) (xv : Value) (hx : Bs w xv (List.replicate m tm)) (hm : 0 < m) (hmax : n + k + m ≤ 140737488355328) (hB : B ≤ w.heap.size) :
    ∃ v' w', (Builtin.append_ #[t, t] ty #[v, xv]).run P w = .ok v' w' ∧ Own B w' v' (mks n a (k + m) tm) ∧ w.grownBy w' v.ownBlock ∧ (v'.ownBlock = v.ownBlock ∨ v'.ownBlock = some w.heap.size) ∧
      ∀ u k', Own B w u (mks n a k' tm) → Own B w' u (mks n a k' tm) := by
  obtain ⟨i0, hi, hz0, hz1, hz2⟩ := info_parts hinfo
  obtain ⟨ax, cx, rfl, _, _, hnx, hcx⟩ := hx.shape
  have hne : List.replicate m tm ≠ [] := fun e => by have := congrArg List.length e; simp at this; omega
  obtain ⟨bx, ox, rfl, hcell⟩ := hcx hne
  have hnews : ∀ j u, (bv (List.replicate m tm))[j]? = some u → w.cell? ((⟨bx, ox, none⟩ : Addr).add j) = some u := fun j u hj => by
    have hjl : j < (List.replicate m tm).length := by have := (List.getElem?_eq_some_iff.1 hj).1; rwa [bv_length] at this
    rw [bv_get _ j hjl] at hj
    rw [Addr.add_lit, hcell j hjl]
    exact hj
  have hgood : ok (mks n a (k + m) tm) := by rw [← mks_more]; exact ok_append h.good hx.good
  have hbl : (mks n a k tm).length = n + k := mks_len n a k tm
  have hrow := h.row
  rw [hbl] at hrow
  have hrl : (List.replicate m tm).length = m := List.length_replicate
  rw [hrl]
  obtain ⟨v', w', hr, h2, h3, _, h5⟩ := run_append_own_at (P := P) w B t ty 5 i0 (.int .u8 0) 1 1 ht hi hz0 hz1 hz2 rfl (by decide) v (n + k) (bv (mks n a k tm)) hrow ⟨bx, ox, none⟩ m cx (bv (List.replicate m tm)) (by rw [bv_length, hrl, Nat.mul_one]) hnews (bv_one _) (by unfold maxLen; omega) (by omega) hB
  refine ⟨v', w', hr, ⟨?_, hgood⟩, h3, h5, fun u k' hu => ?_⟩
  · rw [mks_len, ← mks_more, bv_append, ← Nat.add_assoc]
    exact h2
  · by_cases hub : u.ownBlock = v.ownBlock
    · rcases hu.row.2 with ⟨rfl, h0⟩ | ⟨g, cap, cur, rfl, hbg, hg, hnc, hcm, hcs, htk⟩
      · exact ⟨⟨hu.row.1, .inl ⟨rfl, h0⟩⟩, hu.good⟩
      · rcases hrow.2 with ⟨rfl, _⟩ | ⟨g', cap', cur', rfl, hbg', hg', hnc', hcm', hcs', htk'⟩
        · cases hub
        · obtain rfl : g = g' := by simpa [Value.ownBlock] using hub
          obtain rfl : cur = cur' := by
            have := hg.symm.trans hg'
            simpa using this
          have hcc : cap = cap' := by omega
          subst hcc
          by_cases hroom : n + k + m ≤ cap
          · have hfit : (n + k) * i0.size + (bv (List.replicate m tm)).length ≤ cur.size := by rw [hz1, bv_length, hrl, hcs]; omega
            have hr2 := run_append_room (P := P) w t ty 5 i0 ht hi g (n + k) cap cur hg ⟨bx, ox, none⟩ m cx (bv (List.replicate m tm)) (by rw [hz1, bv_length, hrl, Nat.mul_one]) hnews (bv_one _) hroom hfit
            rw [hr2] at hr
            injection hr with e1 e2
            subst e1 e2
            refine ⟨⟨hu.row.1, .inr ⟨g, cap, _, rfl, hbg, setRow_heap w g cur _ 5 _ hg, hnc, hcm, ?_, ?_⟩⟩, hu.good⟩
            · simp only [List.size_toArray, List.length_append, List.length_take, List.length_drop, Array.length_toList, hz1, bv_length, hrl]
              omega
            · rw [← htk, mks_len, Nat.mul_one, hz1, Nat.mul_one, bv_length, hrl]
              have hcp : ∀ p, p < n + k' → cur.toList[p]? = some (.int .u8 (((if p < n then a else tm) : Nat) : Int)) := fun p hp => by
                have h9 : (cur.toList.take ((mks n a k' tm).length * 1))[p]? = (bv (mks n a k' tm))[p]? := by rw [htk]
                rw [List.getElem?_take_of_lt (by rw [mks_len]; omega)] at h9
                have hpl : p < (mks n a k' tm).length := by rw [mks_len]; exact hp
                rw [h9, bv_get _ p hpl]
                have h8 := mks_get n a k' tm p hp
                rw [List.getElem?_eq_getElem hpl] at h8
                rw [Option.some.inj h8]
              have hnc2 : n + k' ≤ cap := by have := hnc; rw [mks_len] at this; exact this
              refine List.ext_getElem? fun p => ?_
              by_cases hp : p < n + k'
              · rw [List.getElem?_take_of_lt hp, List.getElem?_take_of_lt hp]
                by_cases h1 : p < n + k
                · rw [List.append_assoc, List.getElem?_append_left (by rw [List.length_take, Array.length_toList]; omega), List.getElem?_take_of_lt h1]
                · have htl : (cur.toList.take (n + k)).length = n + k := by rw [List.length_take, Array.length_toList]; omega
                  by_cases h2 : p < n + k + m
                  · rw [List.append_assoc, List.getElem?_append_right (by omega), htl, List.getElem?_append_left (by rw [bv_length, hrl]; omega), bv_get _ _ (by rw [hrl]; omega), List.getElem_replicate, hcp p hp, if_neg (by omega)]
                  · rw [List.append_assoc, List.getElem?_append_right (by omega), htl, List.getElem?_append_right (by rw [bv_length, hrl]; omega), bv_length, hrl, List.getElem?_drop]
                    congr 1
                    omega
              · rw [List.getElem?_eq_none (by rw [List.length_take]; omega), List.getElem?_eq_none (by rw [List.length_take]; omega)]
          · have holds : ∀ j u, (bv (mks n a k tm))[j]? = some u → w.cell? ((⟨g, 0, none⟩ : Addr).add j) = some u := hrow.cells (g := g) rfl
            have hr2 := run_append_grow (P := P) w t ty 5 i0 (.int .u8 0) ht hi hz0 ⟨g, 0, none⟩ (n + k) cap (bv (mks n a k tm)) (by rw [hz1, bv_length, hbl, Nat.mul_one]) holds ⟨bx, ox, none⟩ m cx (bv (List.replicate m tm)) (by rw [hz1, bv_length, hrl, Nat.mul_one]) hnews (by omega) (by omega) (growslice_fits (by omega) (by rw [hz2]; omega))
            rw [hr2] at hr
            injection hr with e1 e2
            subst e1 e2
            refine ⟨⟨hu.row.1, .inr ⟨g, cap, cur, rfl, hbg, ?_, hnc, hcm, hcs, htk⟩⟩, hu.good⟩
            rw [← hg]
            exact heap_old w.drew _ g (Array.getElem?_eq_some_iff.1 hg).1
    · exact own_kept2 hu fun g hg => h3.block g (World.ownsRow.lt hu.row g hg).2 fun e => hub (hg.trans e)
theorem wpList_append_marks {P : Program} (w : World) {ops : Array Oper} {rest : List Oper} {o : Oper} {a : Act} {Q : Exit → Act → World → Prop} (hgd : o.guard = none) (s x : Operand) (t : TypeId)
    (ho : o.op = .call { callee := .builtin .append, args := #[s, x], argTypes := #[t, t] })
    (B : Nat) (hinfo : (P.info? 5).map (fun i => (i.zero, i.size, i.bytes)) = some (some (.int .u8 0), 1, 1)) (ht : P.underlying t = some (.slice 5))
    (v : Value) (n am k tm m : Nat) (hv : a.eval s = v) (h : Own B w v (mks n am k tm)) (xv : Value) (hxe : a.eval x = xv) (hx : Bs w xv (List.replicate m tm)) (hm : 0 < m) (hmax : n + k + m ≤ 140737488355328) (hB : B ≤ w.heap.size)
    (hK : ∀ v' w', Own B w' v' (mks n am (k + m) tm) → w.grownBy w' v.ownBlock → (v'.ownBlock = v.ownBlock ∨ v'.ownBlock = some w.heap.size) → (∀ u k', Own B w u (mks n am k' tm) → Own B w' u (mks n am k' tm)) → wpList P ops Q rest (a.put o.dst v') w') : wpList P ops Q (o :: rest) a w := by
  refine wpList_plain hgd fun K hK2 => ?_
  obtain ⟨v', w', hr, h1, h2, h3, h4⟩ := append_marks (P := P) w B t o.type hinfo ht v n am k tm m h xv hx hm hmax hB
  unfold Oper.wp execOp
  simp only [ho, resolve, invoke, builtin, Sem.run_bind, Sem.run_pure, Result.andThen_ok, List.map_toArray, List.map_cons, List.map_nil, hv, hxe, hr]
  exact hK2 _ _ (hK v' w' h1 h2 h3 h4)
end Go.Proofs.YtpikdngccgdhiaaDoor
