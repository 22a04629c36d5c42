import Derived.Lib.SlBytesConst
import Derived.Test.YtodcakplmoajiaaDoorGSA
namespace Go.Proofs.YtodcakplmoajiaaDoor
open Go Go.RowKit
open Wb

def upK (x : SN) (j : Nat) : List Int := (([2, 3, 4, 5, 6, 7] : List Int).take (j - 2)).filter x.may
theorem apply_any (S : Sg) (h : SH) (r : Rec) (d : Value) (w : World) (k : SgAt w S h) (hb : Bs w d r.l) (hT : STabs w) (hnm : S.nm.size ≤ 140737488355000) (hnm2 : r.nm.size ≤ 140737488355000) (hf : r.x.fit) : Calls Tryd.prog 23 #[sv S h, rv r.x r.nm d] w fun e w' => ApPost w (applyP S r) e w' := by
 unfold applyP
 cases hc : chkS S with
 | false => rw [if_pos rfl]; exact apply_c S h r d w k hT hnm hc
 | true =>
  rw [if_neg (by simp)]
  by_cases h0 : (upP 3 r).1 = 0
  ·rw [if_neg (by simpa using h0)]
   by_cases h1 : refP S.x (upP 3 r).2.x = 0
   ·rw [if_neg (by simpa using h1)]
    obtain ⟨⟨_, _, _, hv⟩, _⟩ := up3 r hb.good h0
    have hk1 := (ref_zero h1).2.1
    exact apply_m S h r d w k hb hT hnm hnm2 hf hc h0 h1 (by omega)
   ·rw [if_pos h1]; exact apply_r S h r d w k hb hT hnm hnm2 hf hc h0 h1
  ·rw [if_pos h0]; exact apply_u S h r d w k hb hT hnm hnm2 hf hc h0
def buy : ByteArray := ⟨#[98, 117, 121]⟩
def rec1 : Rec := ⟨⟨3, 1, 7, 0, 0, 5, 0, 0, 2, 1⟩, buy, [105, 110]⟩
def sg1 : Sg := ⟨⟨7, 2, 1, 5, 5, 1, 0, false, 0, 0, 0⟩, buy, [105, 110], [], [], []⟩
def FirstPost (w : World) (e : Ending) (w' : World) : Prop := ∃ a, ∃ c : Nat, ∃ h1 : SH, e = .returned (.tuple #[rv rec1.x rec1.nm (.slice a rec1.l.length c), sv sg1 h1]) ∧ Bs w' (.slice a rec1.l.length c) rec1.l ∧ SgAt w' sg1 h1 ∧ Below w.heap.size w w'
end Go.Proofs.YtodcakplmoajiaaDoor
