/-
  annalsref5: pairs in a row; Get.
-/
import Derived.Test.YtceokpklcfmadaaIxl
import Derived.Test.YtceokpklcfmadaaIxk
namespace Go.Proofs.Ytceokpklcfmadaa
open Go Go.RowKit Go.ChangeShapes
open Wb

/-- pairs in a row -/
def Pr (w : World) (v : Value) (ps : List (Int × Int)) : Prop := ∃ a c, v = .slice a ps.length c ∧ ps.length ≤ c ∧ c ≤ maxLen ∧ (ps ≠ [] → ∃ b off, a = some ⟨b, off, none⟩ ∧ ∀ j (h : j < ps.length), w.cell? ⟨b, off + j * 2, none⟩ = some (.int .i64 ps[j].1) ∧ w.cell? ⟨b, off + j * 2 + 1, none⟩ = some (.int .i64 ps[j].2))
theorem Pr.kept {w w' : World} {v : Value} {ps : List (Int × Int)} (h : Pr w v ps) (hb : Below w.heap.size w w') : Pr w' v ps := by
  obtain ⟨a, c, rfl, hm, hm2, hc⟩ := h
  refine ⟨a, c, rfl, hm, hm2, fun hne => ?_⟩
  obtain ⟨b, off, rfl, hcell⟩ := hc hne
  exact ⟨b, off, rfl, fun j hj => ⟨(hb.cell (p := ⟨b, off + j * 2, none⟩) (World.block_lt_of_cell? _ _ (hcell j hj).1)).trans (hcell j hj).1, (hb.cell (p := ⟨b, off + j * 2 + 1, none⟩) (World.block_lt_of_cell? _ _ (hcell j hj).2)).trans (hcell j hj).2⟩⟩
/-- append of one number -/
theorem wpList_appI {P : Program} (w : World) {ops : Array Oper} {rest : List Oper} {o : Oper} {a : Act} {Q : Exit → Act → World → Prop} (hgd : o.guard = none) (s x : Operand) (t : TypeId)
    (ho : o.op = .call { callee := .builtin .append, args := #[s, x], argTypes := #[t, t] })
    (B : Nat) (hinfo : (P.info? 3).map (fun i => (i.zero, i.size, i.bytes)) = some (some (.int .i64 0), 1, 8)) (ht : P.underlying t = some (.slice 3))
    (v : Value) (zs : List Int) (hv : a.eval s = v) (h : w.ownsRow B 3 1 v zs.length (zs.map (Value.int .i64))) (g c : Nat) (z : Int) (hx : a.eval x = .slice (some ⟨g, 0, none⟩) 1 c)
    (hc : w.cell? ⟨g, 0, none⟩ = some (.int .i64 z)) (hmax : zs.length ≤ 100000000) (hB : B ≤ w.heap.size)
    (hK : ∀ v' w', w'.ownsRow B 3 1 v' (zs ++ [z]).length ((zs ++ [z]).map (Value.int .i64)) → w.grownBy w' v.ownBlock → wpList P ops Q rest (a.put o.dst v') w') : wpList P ops Q (o :: rest) a w := by
  obtain ⟨i0, hi, hq⟩ := Option.map_eq_some_iff.1 hinfo
  simp only [Prod.mk.injEq] at hq
  obtain ⟨v', w', hrun, h2, h3, _⟩ := run_append_own (P := P) w B t o.type 3 i0 _ 1 8 ht hi hq.1 hq.2.1 hq.2.2 rfl (by decide) v zs.length _ h ⟨g, 0, none⟩ 1 c [.int .i64 z] rfl (fun j u hj => by
    cases j with
    | zero =>
      rw [Addr.add_lit]
      have e : u = .int .i64 z := by simpa using hj.symm
      rw [e]
      exact hc
    | succ j => simp at hj) (fun u hu => by rw [List.mem_singleton.1 hu]; rfl) (by unfold maxLen; omega) (by omega) hB
  refine wpList_plain hgd fun _ hK' => ?_
  unfold Oper.wp
  simp [execOp, ho, resolve, invoke, builtin, hv, hx, hrun, Result.andThen]
  refine hK' _ _ (hK v' w' ?_ h3)
  rw [List.length_append, List.map_append]
  exact h2
namespace Ix
/-- the values of a key -/
def vals (ps : List (Int × Int)) (k : Int) : List Int := (ps.filter fun p => p.1 == k).map (·.2)
theorem vals_take (ps : List (Int × Int)) (k : Int) (j : Nat) (hj : j < ps.length) : vals (ps.take (j + 1)) k = vals (ps.take j) k ++ (if ps[j].1 = k then [ps[j].2] else []) := by
  unfold vals
  rw [List.take_succ_eq_append_getElem hj, List.filter_append, List.map_append]
  congr 1
  by_cases h : ps[j].1 = k <;> simp [h]
theorem vals_len (ps : List (Int × Int)) (k : Int) : (vals ps k).length ≤ ps.length := by
  unfold vals
  rw [List.length_map]
  exact List.length_filter_le _ _
end Ix
/-- what Get has gathered -/
structure GtS (w : World) (ps : List (Int × Int)) (k : Int) (j : Nat) (o : Value) (wr : World) : Prop where
  row : wr.ownsRow w.heap.size 3 1 o (Ix.vals (ps.take j) k).length ((Ix.vals (ps.take j) k).map (Value.int .i64))
  bel : Below w.heap.size w wr
set_option maxRecDepth 100000 in
set_option maxHeartbeats 4000000 in
theorem rixget_any (v : Value) (ps : List (Int × Int)) (k : Int) (w : World) (h : Pr w v ps) (hl : ps.length ≤ 10000000) :
    Calls Try.prog 28 #[v, .int .i64 k] w fun e w' => ∃ v', e = .returned v' ∧ Ri w' v' (Ix.vals ps k) ∧ Below w.heap.size w w' := by
  have hin := infoI
  obtain ⟨a, c, rfl, hm1, hm2, hc⟩ := h
  unfold maxLen at hm2
  have HC : Hid (ps ≠ [] → ∃ b off, a = some ⟨b, off, none⟩ ∧ ∀ j (h : j < ps.length), w.cell? ⟨b, off + j * 2, none⟩ = some (.int .i64 ps[j].1) ∧ w.cell? ⟨b, off + j * 2 + 1, none⟩ = some (.int .i64 ps[j].2)) := hc
  clear hc
  go_enter Try.func28, Try.ntmps28
  go_wp2_with fail
  go_loopw [5, 6] (fun o i wr => ∃ j : Nat, j ≤ ps.length ∧ i = .int .i64 (j : Int) ∧ GtS w ps k j o wr) (fun _ i _ => ps.length - (intOf i).toNat)
  case atStart => exact ⟨0, Nat.zero_le _, rfl, ⟨World.ownsRow_nil _ _ _ _, Below.refl _ _⟩⟩
  case round =>
    obtain ⟨j, hj, rfl, hg⟩ := hrel
    have HG : Hid (GtS w ps k j u5 wr) := hg
    clear hg
    by_cases hlt : j < ps.length
    · obtain ⟨b, off, rfl, hcell⟩ := HC.out (List.ne_nil_of_length_pos (by omega))
      have q1 := (HG.out.bel.cell (p := ⟨b, off + j * 2, none⟩) (World.block_lt_of_cell? _ _ (hcell j hlt).1)).trans (hcell j hlt).1
      have q2 := (HG.out.bel.cell (p := ⟨b, off + j * 2 + 1, none⟩) (World.block_lt_of_cell? _ _ (hcell j hlt).2)).trans (hcell j hlt).2
      have HV := Ix.vals_take ps k j hlt
      clear hcell
      by_cases he : ps[j].1 = k
      · rw [if_pos he] at HV
        have HV9 : Hid (Ix.vals (ps.take (j + 1)) k = Ix.vals (ps.take j) k ++ [ps[j].2]) := HV
        rw [he] at q1
        generalize ps[j].2 = z at *
        have HL : Hid ((Ix.vals (ps.take j) k).length ≤ 100000000) := by
          have := Ix.vals_len (ps.take j) k
          rw [List.length_take] at this
          show _ ≤ _
          omega
        have HR : Hid (∀ W, W = wr.alloc (.cells #[.int .i64 z] 3) → W.ownsRow w.heap.size 3 1 u5 (Ix.vals (ps.take j) k).length ((Ix.vals (ps.take j) k).map (Value.int .i64)) ∧ W.cell? ⟨wr.heap.size, 0, none⟩ = some (.int .i64 z) ∧ w.heap.size ≤ W.heap.size ∧ Below w.heap.size w W) := fun W e => by
          subst e
          exact ⟨HG.out.row.alloc _, (lb_new wr [.int .i64 z] 3).cell 0 _ rfl, Nat.le_trans HG.out.bel.size (up0 _ _).size, up HG.out.bel _⟩
        clear HV he
        go_wp2_with (at_builtin; refine wpList_appI _ rfl (.tmp 20) (.tmp 26) 35 rfl w.heap.size hin Try.underlying35 u5 (Ix.vals (ps.take j) k) rfl (HR.out _ rfl).1 wr.heap.size 1 z rfl (HR.out _ rfl).2.1 HL.out (HR.out _ rfl).2.2.1 ?_)
        intro v3 w3 hr3 hg3
        have H3 : Hid (GtS w ps k (j + 1) v3 w3) := by
          refine ⟨by rw [HV9.out, List.length_append, List.map_append]; exact hr3, (HR.out _ rfl).2.2.2.grown hg3 (HR.out _ rfl).2.2.1 fun q e => (World.ownsRow.lt HG.out.row q e).1⟩
        clear hr3 hg3 HR
        go_wp2_with fail
        go_roundw
        case rel => exact ⟨j + 1, by omega, by go_num, H3.out⟩
        case measure => simp [intOf]; omega
      · rw [if_neg he, List.append_nil] at HV
        have H3 : Hid (GtS w ps k (j + 1) u5 wr) := by
          refine ⟨?_, HG.out.bel⟩
          rw [HV]
          exact HG.out.row
        have hd : (ps[j].1 == k) = false := by simpa using he
        generalize ps[j].1 = x at *
        clear HV he q2
        go_wp2_with fail
        go_roundw
        case rel => exact ⟨j + 1, by omega, by go_num, H3.out⟩
        case measure => simp [intOf]; omega
    · have H3 : Hid (Ri wr u5 (Ix.vals ps k)) := by
        have h9 := Ri.of HG.out.row
        rw [List.take_of_length_le (by omega)] at h9
        exact h9
      go_wp2_with fail
      go_ret
      exact ⟨_, rfl, H3.out, HG.out.bel⟩
end Go.Proofs.Ytceokpklcfmadaa
