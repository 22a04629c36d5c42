import Derived.Test.YtodcakplmoajiaaDoorChecked
import Derived.Deep.MidRow
import Derived.Laws.AppendOwnNone
import Derived.Maps.AppendAt
import Derived.WalkSpells
import Derived.WalkLawsBesides
import Derived.OwnWalk
import Derived.Deep.QuietTactic
import Derived.BigQuiet
import Derived.WalkSmall
import Derived.Test.YtodcakplmoajiaaDoorRows
import Derived.Lib.LaidU8
import Derived.ChangeMaps5
import Derived.ProofKit
import Derived.OpenShut
import Derived.ShutString
import Derived.ChangeOld
import Derived.Deep.DeepHandedRow
namespace Go.Proofs.YtodcakplmoajiaaDoor.Fld
open Go Go.RowKit

theorem up {w w1 : World} (h : Below w.heap.size w w1) (o : Obj) : Below w.heap.size w (w1.alloc o) := h.alloc h.size o
theorem andThen {w w1 w2 : World} (h : Below w.heap.size w w1) (k : Below w1.heap.size w1 w2) : Below w.heap.size w w2 := h.trans (k.mono h.size)
theorem up0 (w : World) (o : Obj) : Below w.heap.size w (w.alloc o) := up (Below.refl _ _) o

def ic (l : List Int) : List Value := l.map fun z => Value.int .i64 z
theorem ic_len (l : List Int) : (ic l).length = l.length := by simp [ic]
theorem info_parts3 {P : Program} {t : TypeId} {z : Value} {a b : Nat} (h : (P.info? t).map (fun i => (i.zero, i.size, i.bytes)) = some (some z, a, b)) : ∃ i, P.info? t = some i ∧ i.zero = some z ∧ i.size = a ∧ i.bytes = b := by
 cases hq : P.info? t with
 | none => rw [hq] at h; simp at h
 | some i =>
  rw [hq] at h
  simp at h
  exact ⟨i, rfl, h.1, h.2.1, h.2.2⟩
def RoI (B : Nat) (w : World) (v : Value) (l : List Int) : Prop := w.ownsRow B 3 1 v l.length (ic l)
theorem RoI.kept {B : Nat} {w w' : World} {v : Value} {l : List Int} (h : RoI B w v l) (hb : Below w.heap.size w w') : RoI B w' v l := by
 refine ⟨h.1, ?_⟩
 rcases h.2 with h1 | ⟨g, cap, cur, rfl, h1, hg, rest⟩
 ·exact .inl h1
 ·exact .inr ⟨g, cap, cur, rfl, h1, (hb.block g (Array.getElem?_eq_some_iff.1 hg).1).trans hg, rest⟩
theorem RoI.below {w0 w w' : World} {v : Value} {l : List Int} (h : RoI w0.heap.size w v l) (hb : Below w0.heap.size w0 w) (hg : w.grownBy w' v.ownBlock) : Below w0.heap.size w0 w' :=
 hb.grown hg hb.size (fun k hk => (World.ownsRow.lt h k hk).1)
theorem RoI.shape {B : Nat} {w : World} {v : Value} {l : List Int} (h : RoI B w v l) : ∃ ao cap, v = .slice ao l.length cap := by
 rcases h.2 with ⟨rfl, h1⟩ | ⟨g, cap, cur, rfl, _⟩
 ·exact ⟨none, 0, by rw [h1]⟩
 ·exact ⟨_, cap, rfl⟩
theorem RoI.cell {B : Nat} {w : World} {ao : Option Addr} {n cap : Nat} {l : List Int} (h : RoI B w (.slice ao n cap) l) (j : Nat) (hj : j < l.length) : ∃ g, ao = some ⟨g, 0, none⟩ ∧ w.cell? ⟨g, j, none⟩ = some (.int .i64 l[j]) := by
 have h0 := h
 rcases h.2 with ⟨_, h1⟩ | ⟨g, cap', cur, he, hb, hg, h1, h2, h3, h4⟩
 ·omega
 ·cases he
  refine ⟨g, rfl, ?_⟩
  rw [World.ownsRow.cellAt h0 j (by omega)]
  simp [ic, hj]
end Go.Proofs.YtodcakplmoajiaaDoor.Fld

namespace Go.Proofs.YtodcakplmoajiaaDoor.Fld
open Go Go.RowKit

theorem isV_any (v : Int) (w : World) : Calls Tryd.prog 76 #[.int .i64 v] w fun e w' => e = .returned (.bool (decide (1 ≤ v) && decide (v ≤ 3))) ∧ w' = w := by
 by_cases h1 : 1 ≤ v
 ·have H1 : Hid ((decide (1 ≤ v) && decide (v ≤ 3)) = decide (v ≤ 3)) := by show _ = _; rw [decide_eq_true h1, Bool.true_and]
  rw [H1.out]
  go_enter Tryd.func76, Tryd.ntmps76
  go_wp2
  go_ret
  exact ⟨rfl, rfl⟩
 ·have H1 : Hid ((decide (1 ≤ v) && decide (v ≤ 3)) = false) := by show _ = _; rw [decide_eq_false h1, Bool.false_and]
  rw [H1.out]
  go_enter Tryd.func76, Tryd.ntmps76
  go_wp2
  go_ret
  exact ⟨rfl, rfl⟩
theorem isK_any (v : Int) (w : World) : Calls Tryd.prog 77 #[.int .i64 v] w fun e w' => e = .returned (.bool (decide (1 ≤ v) && decide (v ≤ 7))) ∧ w' = w := by
 by_cases h1 : 1 ≤ v
 ·have H1 : Hid ((decide (1 ≤ v) && decide (v ≤ 7)) = decide (v ≤ 7)) := by show _ = _; rw [decide_eq_true h1, Bool.true_and]
  rw [H1.out]
  go_enter Tryd.func77, Tryd.ntmps77
  go_wp2
  go_ret
  exact ⟨rfl, rfl⟩
 ·have H1 : Hid ((decide (1 ≤ v) && decide (v ≤ 7)) = false) := by show _ = _; rw [decide_eq_false h1, Bool.false_and]
  rw [H1.out]
  go_enter Tryd.func77, Tryd.ntmps77
  go_wp2
  go_ret
  exact ⟨rfl, rfl⟩

def nz (l : List Int) : List Int := l.filter fun z => z != 0
end Go.Proofs.YtodcakplmoajiaaDoor.Fld

namespace Go.Proofs.YtodcakplmoajiaaDoor.Fld
open Go Go.RowKit

def ltr (s : ByteArray) (n : Nat) : List Int := (List.range n).map fun i => (((s.get! i).toNat : Int) - 97) % 256 + 1
def SlI (w : World) (v : Value) (l : List Int) : Prop := ∃ ao cap, v = .slice ao l.length cap ∧ ∀ j (h : j < l.length), ∃ g, ao = some ⟨g, 0, none⟩ ∧ w.cell? ⟨g, j, none⟩ = some (.int .i64 l[j])
theorem SlI.kept {w w' : World} {v : Value} {l : List Int} (h : SlI w v l) (hb : Below w.heap.size w w') : SlI w' v l := by
 obtain ⟨ao, cap, rfl, hc⟩ := h
 refine ⟨ao, cap, rfl, fun j hj => ?_⟩
 obtain ⟨g, hg, hcell⟩ := hc j hj
 exact ⟨g, hg, (hb.cell (p := ⟨g, j, none⟩) (World.block_lt_of_cell? _ _ hcell)).trans hcell⟩

end Go.Proofs.YtodcakplmoajiaaDoor.Fld

namespace Go.Proofs.YtodcakplmoajiaaDoor.Fld
open Go Go.RowKit

def tagRs : List (List Int) := [[1, 2, 3, 11, 0, 0, 0], [1, 2, 5, 8, 10, 11, 0], [1, 2, 5, 8, 9, 10, 11], [1, 2, 3, 0, 0, 0, 0], [1, 2, 3, 4, 5, 0, 0], [1, 2, 3, 4, 5, 0, 0], [1, 2, 3, 11, 0, 0, 0], [1, 2, 3, 5, 11, 0, 0], [1, 2, 3, 5, 11, 0, 0], [1, 2, 3, 11, 0, 0, 0], [1, 2, 3, 5, 6, 11, 0], [1, 2, 3, 5, 6, 7, 11], [1, 2, 3, 0, 0, 0, 0], [1, 2, 3, 4, 5, 0, 0], [1, 2, 3, 4, 5, 0, 0], [1, 2, 3, 11, 0, 0, 0], [1, 2, 3, 5, 11, 0, 0], [1, 2, 3, 5, 11, 0, 0], [1, 2, 0, 0, 0, 0, 0], [1, 2, 5, 0, 0, 0, 0], [1, 2, 5, 7, 0, 0, 0]]
def rowLs : List (List UInt8) := [[97, 98, 99, 107], [97, 98, 101, 104, 106, 107], [97, 98, 101, 104, 105, 106, 107], [97, 98, 99], [97, 98, 99, 100, 101], [97, 98, 99, 100, 101], [97, 98, 99, 107], [97, 98, 99, 101, 107], [97, 98, 99, 101, 107], [97, 98, 99, 107], [97, 98, 99, 101, 102, 107], [97, 98, 99, 101, 102, 103, 107], [97, 98, 99], [97, 98, 99, 100, 101], [97, 98, 99, 100, 101], [97, 98, 99, 107], [97, 98, 99, 101, 107], [97, 98, 99, 101, 107], [97, 98], [97, 98, 101], [97, 98, 101, 103]]
def tagR (m : Nat) : List Int := tagRs.getD m []
def rowB (m : Nat) : ByteArray := ⟨(rowLs.getD m []).toArray⟩
theorem tag_tie : ∀ m, m < 21 → nz (tagR m) = ltr (rowB m) (rowB m).size ∧ (tagR m).length = 7 ∧ (rowB m).size ≤ 7 := by decide +kernel

def TagsT (w : World) : Prop := ∀ i j, i < 7 → j < 3 → w.rangeAt 1 (i * 21 + j * 7) (ic (tagR (i * 3 + j)))
theorem TagsT.kept {w w' : World} (h : TagsT w) (hb : Below w.heap.size w w') : TagsT w' := fun i j hi hj m v hv =>
 (hb.cell (p := ⟨1, i * 21 + j * 7 + m, none⟩) (World.block_lt_of_cell? _ _ (h i j hi hj m v hv))).trans (h i j hi hj m v hv)
def fl (v k : Int) : List Int := if 1 ≤ v ∧ v ≤ 3 ∧ 1 ≤ k ∧ k ≤ 7 then nz (tagR ((k.toNat - 1) * 3 + (v.toNat - 1))) else []
theorem gTags : Tryd.prog.globalNamed "annals/record.tags" = some 1 := by kernel_rfl
theorem gTagsT : (Tryd.prog.globals[1]?).map (·.type) = some 121 := by kernel_rfl
theorem cRow : Tryd.prog.cellsOf 119 = 7 := by kernel_rfl
theorem cRow3 : Tryd.prog.cellsOf 120 = 21 := by kernel_rfl
theorem cInt : Tryd.prog.cellsOf 3 = 1 := by kernel_rfl
theorem cStr : Tryd.prog.cellsOf 9 = 1 := by kernel_rfl
theorem tags_of {W : World} {l : List (String × DataW Unit)} (h : laidMet Tryd.prog l W) (hm : ("annals/record.tags", Rows.laid_annals_record_tags) ∈ l) : TagsT W := by
 obtain ⟨g', t', cs, fuel, p, hg', ht', hvar, hd⟩ := Lib.laidMet.reads h hm
 obtain rfl := Option.some.inj (gTags.symm.trans hg')
 obtain rfl := Option.some.inj (gTagsT.symm.trans ht')
 intro i j hi hj m v hv
 have key : ∃ L Li, (Rows.laid_annals_record_tags : DataW Unit) = .agg L ∧ L[i]? = some (.agg Li) ∧ Li[j]? = some (Lib.tabData .i64 (tagR (i * 3 + j))) := by
  obtain rfl | rfl | rfl | rfl | rfl | rfl | rfl : i = 0 ∨ i = 1 ∨ i = 2 ∨ i = 3 ∨ i = 4 ∨ i = 5 ∨ i = 6 := by omega
  all_goals (
   obtain rfl | rfl | rfl : j = 0 ∨ j = 1 ∨ j = 2 := by omega
   all_goals exact ⟨_, _, rfl, rfl, rfl⟩)
 obtain ⟨L, Li, e1, e2, e3⟩ := key
 rw [e1] at hd
 obtain ⟨f1, d1, q1, hd1, hr1⟩ := Lib.array_elem Tryd.underlying121 hd i hi
 rw [e2] at hd1
 obtain rfl := Option.some.inj hd1
 rw [cRow3] at hr1
 obtain ⟨f2, d2, q2, hd2, hr2⟩ := Lib.array_elem Tryd.underlying120 hr1 j hj
 rw [e3] at hd2
 obtain rfl := Option.some.inj hd2
 rw [cRow] at hr2
 have e := Lib.cells_of_tab Tryd.underlying119 Tryd.underlying3 cInt cRow hr2
 have hl : (tagR (i * 3 + j)).length = 7 := (tag_tie _ (by omega)).2.1
 have hm7 : m < 7 := by
  have := (List.getElem?_eq_some_iff.1 hv).1
  rw [ic_len] at this
  omega
 rw [World.var?_cell gTags hvar, ← Array.getElem?_toList]
 have e2 := congrArg (·[m]?) e
 simp only [List.getElem?_take, List.getElem?_drop] at e2
 rw [if_pos hm7, if_pos (by omega), show i * 21 + (j * 7 + m) = i * 21 + j * 7 + m by omega] at e2
 rw [e2]
 exact hv
def lay_tags : Obj → Obj
 | .cells _ ty frozen => .cells (ic tagRs.flatten).toArray ty frozen
 | o => o
def lay_rows : Obj → Obj
 | .cells _ ty frozen => .cells ((rowLs.map fun l => Value.string ⟨l.toArray⟩)).toArray ty frozen
 | o => o
theorem own : ownKnob Tryd.prog.godebug = none := by kernel_rfl
theorem laidOut : laidOutB Tryd.prog = true := by kernel_rfl
end Go.Proofs.YtodcakplmoajiaaDoor.Fld
