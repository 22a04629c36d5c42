/-
  annalsref5: Encode: pure, and what it holds.
-/
import Derived.Test.YtceokpklcfmadaaJa2
import Derived.Test.YtceokpklcfmadaaIz0
import Derived.Test.YtceokpklcfmadaaRef1
namespace Go.Proofs.Ytceokpklcfmadaa
open Go Go.RowKit Go.ChangeShapes
open Wb

namespace Ix
theorem encF_ok_step (kvs : Gm) (pre : List (Int × Int)) (x : Int × Int) (s : List Nat × Int × Int) (h : encF kvs pre = .ok s) : encF kvs (pre ++ [x]) = encS kvs s x := by
  rw [encF_snoc, h]
  rfl
/-- pairs up to the j-th value of the i-th key -/
def upto (kvs : Gm) (i : Nat) (k : Int) (vs : List Int) (j : Nat) : List (Int × Int) := prs (kvs.take i) ++ (vs.take j).map fun v => (k, v)
theorem upto_succ (kvs : Gm) (i : Nat) (k : Int) (vs : List Int) (j : Nat) (hj : j < vs.length) : upto kvs i k vs (j + 1) = upto kvs i k vs j ++ [(k, vs[j])] := by
  unfold upto
  rw [List.take_succ_eq_append_getElem hj, List.map_append, List.append_assoc]
  rfl
theorem upto_full (kvs : Gm) (i : Nat) (k : Int) (vs : List Int) (h : kvs[i]? = some (k, vs)) : upto kvs i k vs vs.length = prs (kvs.take (i + 1)) := by
  obtain ⟨hi, e⟩ := List.getElem?_eq_some_iff.1 h
  unfold upto
  rw [List.take_length, List.take_succ_eq_append_getElem hi, e, prs_append]
  simp [prs]
theorem upto_prefix (kvs : Gm) (i : Nat) (k : Int) (vs : List Int) (j : Nat) (h : kvs[i]? = some (k, vs)) : upto kvs i k vs j <+: prs kvs := by
  obtain ⟨hi, e⟩ := List.getElem?_eq_some_iff.1 h
  have h1 : upto kvs i k vs j <+: prs (kvs.take (i + 1)) := by
    rw [← upto_full kvs i k vs h]
    unfold upto
    rw [List.take_length]
    refine (List.prefix_append_right_inj _).2 ?_
    rw [List.map_take]
    exact List.take_prefix _ _
  refine h1.trans ?_
  have e2 : prs kvs = prs (kvs.take (i + 1)) ++ prs (kvs.drop (i + 1)) := by rw [← prs_append, List.take_append_drop]
  rw [e2]
  exact List.prefix_append _ _
/-- the key that was written last -/
def lastKey (kvs : Gm) : Nat → Int
  | 0 => 0
  | i + 1 => ((kvs[i]?).map (·.1)).getD 0
end Ix
set_option maxRecDepth 100000 in
set_option maxHeartbeats 4000000 in
theorem rixget_own (v : Value) (ps : List (Int × Int)) (k : Int) (w : World) (h : Pr w v ps) (hl : ps.length ≤ 10000000) :
    Calls Try.prog 28 #[v, .int .i64 k] w fun e w' => ∃ v', e = .returned v' ∧ w'.ownsRow w.heap.size 3 1 v' (Ix.vals ps k).length ((Ix.vals ps k).map (Value.int .i64)) ∧ Below w.heap.size w w' := by
  have hin := infoI
  obtain ⟨a, c, rfl, hm1, hm2, hc⟩ := h
  unfold maxLen at hm2
  have HC : Hid (ps ≠ [] → ∃ b off, a = some ⟨b, off, none⟩ ∧ ∀ j (h : j < ps.length), w.cell? ⟨b, off + j * 2, none⟩ = some (.int .i64 ps[j].1) ∧ w.cell? ⟨b, off + j * 2 + 1, none⟩ = some (.int .i64 ps[j].2)) := hc
  clear hc
  go_enter Try.func28, Try.ntmps28
  go_wp2_with fail
  go_loopw [5, 6] (fun o i wr => ∃ j : Nat, j ≤ ps.length ∧ i = .int .i64 (j : Int) ∧ GtS w ps k j o wr) (fun _ i _ => ps.length - (intOf i).toNat)
  case atStart => exact ⟨0, Nat.zero_le _, rfl, ⟨World.ownsRow_nil _ _ _ _, Below.refl _ _⟩⟩
  case round =>
    obtain ⟨j, hj, rfl, hg⟩ := hrel
    have HG : Hid (GtS w ps k j u5 wr) := hg
    clear hg
    by_cases hlt : j < ps.length
    · obtain ⟨b, off, rfl, hcell⟩ := HC.out (List.ne_nil_of_length_pos (by omega))
      have q1 := (HG.out.bel.cell (p := ⟨b, off + j * 2, none⟩) (World.block_lt_of_cell? _ _ (hcell j hlt).1)).trans (hcell j hlt).1
      have q2 := (HG.out.bel.cell (p := ⟨b, off + j * 2 + 1, none⟩) (World.block_lt_of_cell? _ _ (hcell j hlt).2)).trans (hcell j hlt).2
      have HV := Ix.vals_take ps k j hlt
      clear hcell
      by_cases he : ps[j].1 = k
      · rw [if_pos he] at HV
        have HV9 : Hid (Ix.vals (ps.take (j + 1)) k = Ix.vals (ps.take j) k ++ [ps[j].2]) := HV
        rw [he] at q1
        generalize ps[j].2 = z at *
        have HL : Hid ((Ix.vals (ps.take j) k).length ≤ 100000000) := by
          have := Ix.vals_len (ps.take j) k
          rw [List.length_take] at this
          show _ ≤ _
          omega
        have HR : Hid (∀ W, W = wr.alloc (.cells #[.int .i64 z] 3) → W.ownsRow w.heap.size 3 1 u5 (Ix.vals (ps.take j) k).length ((Ix.vals (ps.take j) k).map (Value.int .i64)) ∧ W.cell? ⟨wr.heap.size, 0, none⟩ = some (.int .i64 z) ∧ w.heap.size ≤ W.heap.size ∧ Below w.heap.size w W) := fun W e => by
          subst e
          exact ⟨HG.out.row.alloc _, (lb_new wr [.int .i64 z] 3).cell 0 _ rfl, Nat.le_trans HG.out.bel.size (up0 _ _).size, up HG.out.bel _⟩
        clear HV he
        go_wp2_with (at_builtin; refine wpList_appI _ rfl (.tmp 20) (.tmp 26) 35 rfl w.heap.size hin Try.underlying35 u5 (Ix.vals (ps.take j) k) rfl (HR.out _ rfl).1 wr.heap.size 1 z rfl (HR.out _ rfl).2.1 HL.out (HR.out _ rfl).2.2.1 ?_)
        intro v3 w3 hr3 hg3
        have H3 : Hid (GtS w ps k (j + 1) v3 w3) := by
          refine ⟨by rw [HV9.out, List.length_append, List.map_append]; exact hr3, (HR.out _ rfl).2.2.2.grown hg3 (HR.out _ rfl).2.2.1 fun q e => (World.ownsRow.lt HG.out.row q e).1⟩
        clear hr3 hg3 HR
        go_wp2_with fail
        go_roundw
        case rel => exact ⟨j + 1, by omega, by go_num, H3.out⟩
        case measure => simp [intOf]; omega
      · rw [if_neg he, List.append_nil] at HV
        have H3 : Hid (GtS w ps k (j + 1) u5 wr) := by
          refine ⟨?_, HG.out.bel⟩
          rw [HV]
          exact HG.out.row
        have hd : (ps[j].1 == k) = false := by simpa using he
        generalize ps[j].1 = x at *
        clear HV he q2
        go_wp2_with fail
        go_roundw
        case rel => exact ⟨j + 1, by omega, by go_num, H3.out⟩
        case measure => simp [intOf]; omega
    · have H3 : Hid (wr.ownsRow w.heap.size 3 1 u5 (Ix.vals ps k).length ((Ix.vals ps k).map (Value.int .i64))) := by
        have h9 := HG.out.row
        rw [List.take_of_length_le (by omega)] at h9
        exact h9
      go_wp2_with fail
      go_ret
      exact ⟨_, rfl, H3.out, HG.out.bel⟩
/-- what the reference's Encode answers -/
def RePost (ps : List (Int × Int)) (w : World) (e : Ending) (w' : World) : Prop := Below w.heap.size w w' ∧ ((∃ s, Ix.encF (Ix.gml ps) (prs (Ix.gml ps)) = .ok s ∧ ∃ ad, ∃ m c : Nat, e = .returned (.tuple #[.slice ad m c, .int .i64 0]) ∧ Wb.Own w.heap.size w' (.slice ad m c) s.1) ∨ (∃ (er : Nat) (pre : List (Int × Int)), pre <+: prs (Ix.gml ps) ∧ Ix.encF (Ix.gml ps) pre = .error er ∧ e = .returned (.tuple #[.slice none 0 0, .int .i64 (er : Int)])))
/-- between two keys: the bytes so far -/
def ReO (w : World) (kvs : Ix.Gm) (i : Nat) (ov : Value) (wr : World) : Prop := Below w.heap.size w wr ∧ ∃ (out : List Nat) (off : Int), Ix.encF kvs (prs (kvs.take i)) = .ok (out, Ix.lastKey kvs i, off) ∧ Wb.Own w.heap.size wr ov out ∧ out.length ≤ 10 + 30 * (prs (kvs.take i)).length
theorem ReO.kept {w : World} {kvs : Ix.Gm} {i : Nat} {ov : Value} {wr W : World} (h : ReO w kvs i ov wr) (hb : Below wr.heap.size wr W) : ReO w kvs i ov W := by
  obtain ⟨h1, out, off, e1, e2, e3⟩ := h
  exact ⟨andThen h1 hb, out, off, e1, e2.kept hb, e3⟩
theorem Ix.lastKey_lt (kvs : Ix.Gm) (hr : Ix.rising kvs) (i : Nat) (k : Int) (vs : List Int) (hp : kvs[i]? = some (k, vs)) (hk : 1 ≤ k) : Ix.lastKey kvs i < k := by
  cases i with
  | zero =>
    show (0 : Int) < k
    omega
  | succ j =>
    obtain ⟨hi, e⟩ := List.getElem?_eq_some_iff.1 hp
    have h1 := List.pairwise_iff_getElem.1 hr j (j + 1) (by omega) hi (by omega)
    rw [e] at h1
    rw [Ix.lastKey, List.getElem?_eq_getElem (show j < kvs.length by omega)]
    exact h1
/-- between two values of a key -/
def ReI (w : World) (kvs : Ix.Gm) (i : Nat) (k : Int) (vs : List Int) (hd : List Nat) (j : Nat) (ov : Value) (wr : World) : Prop := Below w.heap.size w wr ∧ ∃ out : List Nat, Wb.Own w.heap.size wr ov out ∧ out.length ≤ 30 + 30 * (Ix.upto kvs i k vs j).length ∧ ((j = 0 ∧ out = hd) ∨ ∃ h : j - 1 < vs.length, 0 < j ∧ Ix.encF kvs (Ix.upto kvs i k vs j) = .ok (out, k, vs[j - 1]) ∧ out.length ≤ 10 + 30 * (Ix.upto kvs i k vs j).length)
theorem ReI.kept {w : World} {kvs : Ix.Gm} {i : Nat} {k : Int} {vs : List Int} {hd : List Nat} {j : Nat} {ov : Value} {wr W : World} (h : ReI w kvs i k vs hd j ov wr) (hb : Below wr.heap.size wr W) : ReI w kvs i k vs hd j ov W := by
  obtain ⟨h1, out, e1, e2, e3⟩ := h
  exact ⟨andThen h1 hb, out, e1.kept hb, e2, e3⟩
/-- a key's values, apart from the bytes -/
def VsS (B : Nat) (gv : Value) (vs : List Int) (ov : Value) (W : World) : Prop := W.ownsRow B 3 1 gv vs.length (vs.map (Value.int .i64)) ∧ ∀ q, gv.ownBlock = some q → ov.ownBlock ≠ some q
theorem VsS.kept {B : Nat} {gv : Value} {vs : List Int} {ov : Value} {W W' : World} (h : VsS B gv vs ov W) (hb : Below W.heap.size W W') : VsS B gv vs ov W' := ⟨h.1.kept (grown_none hb none) (by cases gv.ownBlock <;> simp), h.2⟩
theorem VsS.app {B : Nat} {gv : Value} {vs : List Int} {ov v' : Value} {W W' : World} (h : VsS B gv vs ov W) (hg : W.grownBy W' ov.ownBlock) (hat : v'.ownBlock = ov.ownBlock ∨ v'.ownBlock = some W.heap.size) : VsS B gv vs v' W' := by
  refine ⟨h.1.kept hg ?_, fun q e => ?_⟩
  · cases e : gv.ownBlock with
    | none => exact .inl rfl
    | some q => exact .inr fun e2 => h.2 q e e2.symm
  · rcases hat with e3 | e3
    · rw [e3]
      exact h.2 q e
    · intro e4
      have e5 := Option.some.inj (e3.symm.trans e4)
      have := (World.ownsRow.lt h.1 q e).2
      omega
theorem VsS.cells {B : Nat} {ga : Option Addr} {m gc : Nat} {vs : List Int} {ov : Value} {W : World} (h : VsS B (.slice ga m gc) vs ov W) (j : Nat) (hj : j < vs.length) : ∃ gb go, ga = some ⟨gb, go, none⟩ ∧ W.cell? ⟨gb, go + j, none⟩ = some (.int .i64 vs[j]) ∧ (0 < j → W.cell? ⟨gb, go + (j - 1), none⟩ = some (.int .i64 (vs[j - 1]'(by omega)))) := by
  obtain ⟨a, c, e, -, hc⟩ := Ri.of h.1
  simp only [Value.slice.injEq] at e
  obtain ⟨rfl, -, -⟩ := e
  obtain ⟨gb, go, e1, hcell⟩ := hc (List.ne_nil_of_length_pos (by omega))
  exact ⟨gb, go, e1, hcell j hj, fun _ => hcell (j - 1) (by omega)⟩
end Go.Proofs.Ytceokpklcfmadaa
