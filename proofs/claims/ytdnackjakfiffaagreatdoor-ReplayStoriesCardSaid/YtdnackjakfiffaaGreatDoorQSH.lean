import Derived.Lib.SlBytesConst
import Derived.Test.YtdnackjakfiffaaGreatDoorQSA
import Derived.Test.YtdnackjakfiffaaGreatDoorQSG
/-
  SagaMay .. : Apply whole; num, of, sameInts, first.
-/
namespace Go.Proofs.YtdnackjakfiffaaGreatDoor
open Go Go.RowKit
open Wb

/-- what Apply answers -/
theorem apply_any (S : Sg) (h : SH) (r : Rec) (d : Value) (w : World) (k : SgAt w S h) (hb : Bs w d r.l) (hT : STabs w) (hnm : S.nm.size ≤ 140737488355000) (hnm2 : r.nm.size ≤ 140737488355000) (hf : r.x.fit) : Calls Tryz.prog 73 #[sv S h, rv r.x r.nm d] w fun e w' => ApPost w (applyP S r) e w' := by
  unfold applyP
  cases hc : chkS S with
  | false => rw [if_pos rfl]; exact apply_c S h r d w k hT hnm hc
  | true =>
    rw [if_neg (by simp)]
    by_cases h0 : (upP 3 r).1 = 0
    · rw [if_neg (by simpa using h0)]
      by_cases h1 : refP S.x (upP 3 r).2.x = 0
      · rw [if_neg (by simpa using h1)]
        obtain ⟨⟨_, _, _, hv⟩, _⟩ := up3 r hb.good h0
        have hk1 := (ref_zero h1).2.1
        exact apply_m S h r d w k hb hT hnm hnm2 hf hc h0 h1 (by omega)
      · rw [if_pos h1]; exact apply_r S h r d w k hb hT hnm hnm2 hf hc h0 h1
    · rw [if_pos h0]; exact apply_u S h r d w k hb hT hnm hnm2 hf hc h0
/-- results in two cells -/
theorem results_cell_cell {P : Program} {fn : Func} {p q : Tmp} {ty ty2 : TypeId} (h : fn.results = #[.cell p ty, .cell q ty2]) (tmps : Array Value) (w : World) (g g2 : Nat) (cs cs2 : List Value) (d d2 : TypeDesc)
    (hp : tmps.getD p undef = .pointer (some ⟨g, 0, none⟩)) (hc : w.rangeAt g 0 cs) (hu : P.underlying ty = some d) (hd : d.isRow = true) (hi : (P.info? ty).map (·.size) = some cs.length)
    (hp2 : tmps.getD q undef = .pointer (some ⟨g2, 0, none⟩)) (hc2 : w.rangeAt g2 0 cs2) (hu2 : P.underlying ty2 = some d2) (hd2 : d2.isRow = true) (hi2 : (P.info? ty2).map (·.size) = some cs2.length) :
    (results fn tmps).run P w = .ok (.tuple #[.agg cs.toArray, .agg cs2.toArray]) w := by
  have hp' : tmps[p]?.getD undef = .pointer (some ⟨g, 0, none⟩) := by simpa using hp
  have hp2' : tmps[q]?.getD undef = .pointer (some ⟨g2, 0, none⟩) := by simpa using hp2
  simp [results, h, hp', hp2', asAddr, run_loadVar_mid w g 0 ty cs d hc hu hd hi, run_loadVar_mid w g2 0 ty2 cs2 d2 hc2 hu2 hd2 hi2]
def buy : ByteArray := ⟨#[98, 117, 121]⟩
def rec1 : Rec := ⟨⟨3, 1, 7, 0, 0, 5, 0, 0, 2, 1⟩, buy, [105, 110]⟩
def sg1 : Sg := ⟨⟨7, 2, 1, 5, 5, 1, 0, false, 0, 0, 0⟩, buy, [105, 110], [], [], []⟩
end Go.Proofs.YtdnackjakfiffaaGreatDoor

/-
  SagaMay ..: sameInts, first.
-/
namespace Go.Proofs.YtdnackjakfiffaaGreatDoor
open Go Go.RowKit
open Wb

theorem in_newM (w : World) : Bs (w.alloc (.cells #[.int .u8 105, .int .u8 110] 5 (2, 3))) (.slice (some ⟨w.heap.size, 0, none⟩) 2 2) [105, 110] := by
  refine ⟨⟨some ⟨w.heap.size, 0, none⟩, 2, rfl, Nat.le_refl _, by simp [maxLen], fun e => (by cases e), fun _ => ⟨w.heap.size, 0, rfl, fun j hj => ?_⟩⟩, by intro x hx; simp at hx; omega⟩
  have e := heap_new w (.cells #[.int .u8 105, .int .u8 110] 5 (2, 3))
  rw [Nat.zero_add]
  match j, hj with
  | 0, _ => unfold World.cell?; rw [e]; rfl
  | 1, _ => unfold World.cell?; rw [e]; rfl
/-- what first answers -/
def FirstPost (w : World) (e : Ending) (w' : World) : Prop := ∃ a, ∃ c : Nat, ∃ h1 : SH, e = .returned (.tuple #[rv rec1.x rec1.nm (.slice a rec1.l.length c), sv sg1 h1]) ∧ Bs w' (.slice a rec1.l.length c) rec1.l ∧ SgAt w' sg1 h1 ∧ Below w.heap.size w w'
end Go.Proofs.YtdnackjakfiffaaGreatDoor
