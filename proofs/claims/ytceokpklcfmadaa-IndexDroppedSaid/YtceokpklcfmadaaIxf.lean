/-
  Package index: sameBytes, sameInts, Get.
-/
import Derived.Test.YtceokpklcfmadaaIxe
namespace Go.Proofs.Ytceokpklcfmadaa
open Go Go.RowKit Go.ChangeShapes
open Wb

/-- numbers in a row -/
def Ri (w : World) (v : Value) (zs : List Int) : Prop := ∃ a c, v = .slice a zs.length c ∧ zs.length ≤ maxLen ∧ (zs ≠ [] → ∃ b off, a = some ⟨b, off, none⟩ ∧ ∀ j (h : j < zs.length), w.cell? ⟨b, off + j, none⟩ = some (.int .i64 zs[j]))
theorem Ri.of {w : World} {base : Nat} {e : TypeId} {v : Value} {zs : List Int} (h : w.ownsRow base e 1 v zs.length (zs.map (Value.int .i64))) : Ri w v zs := by
  rcases h.2 with ⟨rfl, h0⟩ | ⟨g, cap, cur, rfl, -, hh, h1, h2, h3, h4⟩
  · obtain rfl := List.length_eq_zero_iff.1 h0
    exact ⟨none, 0, rfl, by simp, fun e => absurd rfl e⟩
  · refine ⟨some ⟨g, 0, none⟩, cap, rfl, Nat.le_trans h1 h2, fun _ => ⟨g, 0, rfl, fun j hj => ?_⟩⟩
    have h5 : cur.toList[j]? = some (.int .i64 zs[j]) := by
      have h6 : (cur.toList.take (zs.length * 1))[j]? = some (.int .i64 zs[j]) := by
        rw [h4]
        simp [hj]
      rw [List.getElem?_take_of_lt (by omega)] at h6
      exact h6
    rw [Nat.zero_add]
    unfold World.cell?
    simp [hh]
    simpa using h5
theorem Ri.kept {w w' : World} {v : Value} {zs : List Int} (h : Ri w v zs) (hb : Below w.heap.size w w') : Ri w' v zs := by
  obtain ⟨a, c, rfl, hm, hc⟩ := h
  refine ⟨a, c, rfl, hm, fun hne => ?_⟩
  obtain ⟨b, off, rfl, hcell⟩ := hc hne
  exact ⟨b, off, rfl, fun j hj => (hb.cell (p := ⟨b, off + j, none⟩) (World.block_lt_of_cell? _ _ (hcell j hj))).trans (hcell j hj)⟩
set_option maxHeartbeats 400000 in
theorem ixsameb_any (va vb : Value) (a b : List Nat) (w : World) (ha : Bs w va a) (hb : Bs w vb b) :
    Calls Try.prog 44 #[va, vb] w fun e w' => e = .returned (.bool (decide (a = b))) ∧ Below w.heap.size w w' := by
  obtain ⟨aoa, capa, rfl, hla, hma, hna, hca⟩ := ha.shape
  obtain ⟨aob, capb, rfl, hlb, hmb, hnb, hcb⟩ := hb.shape
  unfold maxLen at hma hmb
  have ga := ha.good
  have gb := hb.good
  by_cases hlen : a.length = b.length
  · have HL : Hid (a.length = b.length) := hlen
    have d0 : ((a.length : Int) != (b.length : Int)) = false := by simp [hlen]
    clear hlen
    go_enter Try.func44, Try.ntmps44
    go_wp2
    go_loopw [5] (fun i wr => ∃ k : Nat, k ≤ a.length ∧ i = .int .i64 k ∧ a.take k = b.take k ∧ Below w.heap.size w wr) (fun i _ => a.length - (intOf i).toNat)
    case atStart => exact ⟨0, Nat.zero_le _, rfl, by simp, Below.refl _ _⟩
    case round =>
      obtain ⟨k, hk, rfl, heq, hbel⟩ := hrel
      have HQ : Hid (a.take k = b.take k) := heq
      clear heq
      by_cases hlt : k < a.length
      · have hlt' : k < b.length := by rw [← HL.out]; exact hlt
        obtain ⟨b1, off1, rfl, hcell1⟩ := hca (List.ne_nil_of_length_pos (by omega))
        obtain ⟨b2, off2, rfl, hcell2⟩ := hcb (List.ne_nil_of_length_pos (by omega))
        have q1 := (hbel.cell (p := ⟨b1, off1 + k, none⟩) (World.block_lt_of_cell? _ _ (hcell1 k hlt))).trans (hcell1 k hlt)
        have q2 := (hbel.cell (p := ⟨b2, off2 + k, none⟩) (World.block_lt_of_cell? _ _ (hcell2 k hlt'))).trans (hcell2 k hlt')
        clear hca hcb hcell1 hcell2 hna hnb ha hb
        by_cases hxy : a[k] = b[k]
        · have HS : Hid (a.take (k + 1) = b.take (k + 1)) := by
            show _ = _
            rw [List.take_succ_eq_append_getElem hlt, List.take_succ_eq_append_getElem hlt', HQ.out, hxy]
          rw [hxy] at q1
          generalize b[k] = y at *
          have d1 : ((y : Int) != (y : Int)) = false := by simp
          clear hxy
          go_wp2
          go_quiet (fail)
          go_wp2
          go_roundw
          case rel => exact ⟨k + 1, by omega, by go_num, HS.out, bel_drewI hbel _⟩
          case measure => simp [intOf]; omega
        · have HN : Hid (¬ a = b) := by
            intro e
            subst e
            exact hxy rfl
          have d1 : ((a[k] : Int) != (b[k] : Int)) = true := by rw [bne_iff_ne]; omega
          generalize a[k] = x at *
          generalize b[k] = y at *
          clear hxy
          go_wp2
          go_quiet (fail)
          go_wp2
          go_ret
          exact ⟨by rw [decide_eq_false HN.out]; rfl, bel_drewI hbel _⟩
      · have HE : Hid (a = b) := by
          have h := HQ.out
          rw [List.take_of_length_le (by omega), List.take_of_length_le (by rw [← HL.out]; omega)] at h
          exact h
        go_wp2
        go_ret
        exact ⟨by rw [decide_eq_true HE.out]; rfl, hbel⟩
  · have HN : Hid (¬ a = b) := fun e => hlen (by rw [e])
    have d0 : ((a.length : Int) != (b.length : Int)) = true := by rw [bne_iff_ne]; omega
    clear hlen hca hcb
    go_enter Try.func44, Try.ntmps44
    go_wp2
    go_ret
    exact ⟨by rw [decide_eq_false HN.out]; rfl, Below.refl _ _⟩

set_option maxHeartbeats 400000 in
theorem ixsamei_any (va vb : Value) (a b : List Int) (w : World) (ha : Ri w va a) (hb : Ri w vb b) :
    Calls Try.prog 17 #[va, vb] w fun e w' => e = .returned (.bool (decide (a = b))) ∧ Below w.heap.size w w' := by
  obtain ⟨aoa, capa, rfl, hma, hca⟩ := ha
  obtain ⟨aob, capb, rfl, hmb, hcb⟩ := hb
  unfold maxLen at hma hmb
  by_cases hlen : a.length = b.length
  · have HL : Hid (a.length = b.length) := hlen
    have d0 : ((a.length : Int) != (b.length : Int)) = false := by simp [hlen]
    clear hlen
    go_enter Try.func17, Try.ntmps17
    go_wp2
    go_loopw [5] (fun i wr => ∃ k : Nat, k ≤ a.length ∧ i = .int .i64 k ∧ a.take k = b.take k ∧ Below w.heap.size w wr) (fun i _ => a.length - (intOf i).toNat)
    case atStart => exact ⟨0, Nat.zero_le _, rfl, by simp, Below.refl _ _⟩
    case round =>
      obtain ⟨k, hk, rfl, heq, hbel⟩ := hrel
      have HQ : Hid (a.take k = b.take k) := heq
      clear heq
      by_cases hlt : k < a.length
      · have hlt' : k < b.length := by rw [← HL.out]; exact hlt
        obtain ⟨b1, off1, rfl, hcell1⟩ := hca (List.ne_nil_of_length_pos (by omega))
        obtain ⟨b2, off2, rfl, hcell2⟩ := hcb (List.ne_nil_of_length_pos (by omega))
        have q1 := (hbel.cell (p := ⟨b1, off1 + k, none⟩) (World.block_lt_of_cell? _ _ (hcell1 k hlt))).trans (hcell1 k hlt)
        have q2 := (hbel.cell (p := ⟨b2, off2 + k, none⟩) (World.block_lt_of_cell? _ _ (hcell2 k hlt'))).trans (hcell2 k hlt')
        clear hca hcb hcell1 hcell2
        by_cases hxy : a[k] = b[k]
        · have HS : Hid (a.take (k + 1) = b.take (k + 1)) := by
            show _ = _
            rw [List.take_succ_eq_append_getElem hlt, List.take_succ_eq_append_getElem hlt', HQ.out, hxy]
          rw [hxy] at q1
          generalize b[k] = y at *
          have d1 : (y != y) = false := by simp
          clear hxy
          go_wp2
          go_quiet (fail)
          go_wp2
          go_roundw
          case rel => exact ⟨k + 1, by omega, by go_num, HS.out, bel_drewI hbel _⟩
          case measure => simp [intOf]; omega
        · have HN : Hid (¬ a = b) := by
            intro e
            subst e
            exact hxy rfl
          have d1 : (a[k] != b[k]) = true := by rw [bne_iff_ne]; exact hxy
          generalize a[k] = x at *
          generalize b[k] = y at *
          clear hxy
          go_wp2
          go_quiet (fail)
          go_wp2
          go_ret
          exact ⟨by rw [decide_eq_false HN.out]; rfl, bel_drewI hbel _⟩
      · have HE : Hid (a = b) := by
          have h := HQ.out
          rw [List.take_of_length_le (by omega), List.take_of_length_le (by rw [← HL.out]; omega)] at h
          exact h
        go_wp2
        go_ret
        exact ⟨by rw [decide_eq_true HE.out]; rfl, hbel⟩
  · have HN : Hid (¬ a = b) := fun e => hlen (by rw [e])
    have d0 : ((a.length : Int) != (b.length : Int)) = true := by rw [bne_iff_ne]; omega
    clear hlen hca hcb
    go_enter Try.func17, Try.ntmps17
    go_wp2
    go_ret
    exact ⟨by rw [decide_eq_false HN.out]; rfl, Below.refl _ _⟩

set_option maxRecDepth 100000 in
set_option maxHeartbeats 1000000 in
theorem ixget_any (g b base n : Nat) (kvs : Ix.Gm) (k : Int) (w : World) (h : MI w g b base n kvs) (hk : (Lit.int .i64 k).wf = true) (hn : n < 1000000000) :
    Calls Try.prog 21 #[.pointer (some ⟨g, 0, none⟩), .int .i64 k] w fun e w' => ∃ v', e = .returned v' ∧ Ri w' v' (Ix.get kvs k) ∧ Below w.heap.size w w' := by
  obtain ⟨i0, hi, hz0, hz1, hz2⟩ := info_parts infoI
  have hsz : (Try.prog.info? 3).map (·.size) = some 1 := by rw [hi]; simp [hz1]
  have hc0 : w.cell? ⟨g, 0, none⟩ = some (.map (some b)) := h.box.cell 0 _ rfl
  obtain ⟨v, hrun0, hoi, hle, -, -⟩ := h.at k hk hn
  have HM : Hid (MI w g b base n kvs ∧ (Lit.int .i64 k).wf = true ∧ n < 1000000000) := ⟨h, hk, hn⟩
  obtain ⟨a0, c0, rfl⟩ : ∃ a0, ∃ c0 : Nat, v = .slice a0 (Ix.get kvs k).length c0 := by
    obtain ⟨a0, c0, e, -⟩ := Ri.of hoi.1
    exact ⟨a0, c0, e⟩
  clear h hoi hk
  obtain ⟨zs, hzs⟩ : ∃ zs, zs = Ix.get kvs k := ⟨_, rfl⟩
  rw [← hzs] at hrun0 hle ⊢
  have HZ : Hid (zs = Ix.get kvs k) := hzs
  clear hzs
  go_enter Try.func21, Try.ntmps21
  go_wp2_with (at_make; refine wpList_make_full _ rfl _ _ 35 rfl w.heap.size 3 i0 (.int .i64 0) 1 Try.underlying35 hi hz0 hz1 _ _ _ _ zs.length rfl rfl rfl rfl (by rw [hz2]; omega) (by unfold maxLen; omega) (Nat.le_refl _) ?_)
  intro w1 hown hgr
  have hb1 : Below w.heap.size w w1 := (Below.refl _ w).grown hgr (Nat.le_refl _) (fun k hk => by cases hk)
  have h1 := HM.out.1.kept hb1
  have hc1 : w1.cell? ⟨g, 0, none⟩ = some (.map (some b)) := h1.box.cell 0 _ rfl
  obtain ⟨v1, hrun1, hoi1, -, -, -⟩ := h1.at k HM.out.2.1 HM.out.2.2
  rw [← HZ.out] at hoi1
  obtain ⟨cur, hcur, hcsz⟩ : ∃ cur : Array Value, w1.heap[w.heap.size]? = some (.cells cur 3 (0, 0)) ∧ cur.size = zs.length := by
    rcases hown.2 with ⟨h1, _⟩ | ⟨g, c2, cur, hv, _, hg, _, _, hcs, htk⟩
    · cases h1
    · simp only [Value.slice.injEq, Option.some.injEq, Addr.mk.injEq, and_true, true_and] at hv
      obtain ⟨rfl, rfl⟩ := hv
      exact ⟨cur, hg, by omega⟩
  obtain ⟨ao, cap, rfl, hmx, hc⟩ := Ri.of hoi1.1
  have fin : ∃ n w2, (Builtin.copy_ #[35, 35] 3 #[.slice (some ⟨w.heap.size, 0, none⟩) zs.length zs.length, .slice ao zs.length cap]).run Try.prog w1 = .ok (goInt n) w2 ∧ Ri w2 (.slice (some ⟨w.heap.size, 0, none⟩) zs.length zs.length) zs ∧ Below w.heap.size w w2 := by
    by_cases he : zs = []
    · subst he
      exact ⟨0, w1, run_copy_none (P := Try.prog) w1 35 35 3 3 _ _ _ _ _ _ Try.underlying35 hsz rfl, ⟨_, _, rfl, by simp, fun e => absurd rfl e⟩, hb1⟩
    · obtain ⟨bb, off, rfl, hcell⟩ := hc he
      have hrun := run_copy_row (P := Try.prog) w1 35 35 3 3 w.heap.size 0 zs.length zs.length ⟨bb, off, none⟩ zs.length cap cur 3 (zs.map (Value.int .i64)) Try.underlying35 hsz hcur (by rw [List.length_map]; exact (Nat.min_self _).symm) (by
        intro j u hj
        have hjl : j < zs.length := by have := (List.getElem?_eq_some_iff.1 hj).1; rwa [List.length_map] at this
        rw [Addr.add_lit, hcell j hjl]
        simp [hjl] at hj
        rw [← hj]) (by rw [List.length_map]; omega) (fun v hv => by
        obtain ⟨x, -, rfl⟩ := List.mem_map.1 hv
        rfl)
      refine ⟨_, _, hrun, Ri.of (base := w.heap.size) (e := 3) ⟨by rw [List.length_map, Nat.mul_one], .inr ⟨_, zs.length, _, rfl, Nat.le_refl _, setRow_heap w1 _ _ _ _ _ hcur, Nat.le_refl _, hmx, ?_, ?_⟩⟩, below_setRow hb1 (Nat.le_refl _) _⟩
      · simp [hcsz]
      · simp
  obtain ⟨n2, w2, hrun, R1, R2⟩ := fin
  have HR : Hid (Ri w2 (.slice (some ⟨w.heap.size, 0, none⟩) zs.length zs.length) zs ∧ Below w.heap.size w w2) := ⟨R1, R2⟩
  clear hcur hown hgr hc hcsz R1 R2 hoi1 h1
  go_wp2
  go_ret
  exact ⟨_, rfl, HR.out.1, HR.out.2⟩
end Go.Proofs.Ytceokpklcfmadaa
