/-
  Package record: the table of tags, the reference's rows of letters.
-/
import Derived.Test.YtbmoghpeapdlaaaDoorRFld2
import Derived.Test.YtbmoghpeapdlaaaDoorRows
import Derived.Lib.LaidU8
import Derived.ChangeMaps5
import Derived.ProofKit
import Derived.OpenShut
import Derived.ShutString
import Derived.ChangeOld
import Derived.Deep.DeepHandedRow
namespace Go.Proofs.YtbmoghpeapdlaaaDoor
open Go Go.RowKit

def tagRs : List (List Int) := [[1, 2, 3, 11, 0, 0, 0], [1, 2, 5, 8, 10, 11, 0], [1, 2, 5, 8, 9, 10, 11], [1, 2, 3, 0, 0, 0, 0], [1, 2, 3, 4, 5, 0, 0], [1, 2, 3, 4, 5, 0, 0], [1, 2, 3, 11, 0, 0, 0], [1, 2, 3, 5, 11, 0, 0], [1, 2, 3, 5, 11, 0, 0], [1, 2, 3, 11, 0, 0, 0], [1, 2, 3, 5, 6, 11, 0], [1, 2, 3, 5, 6, 7, 11], [1, 2, 3, 0, 0, 0, 0], [1, 2, 3, 4, 5, 0, 0], [1, 2, 3, 4, 5, 0, 0], [1, 2, 3, 11, 0, 0, 0], [1, 2, 3, 5, 11, 0, 0], [1, 2, 3, 5, 11, 0, 0], [1, 2, 0, 0, 0, 0, 0], [1, 2, 5, 0, 0, 0, 0], [1, 2, 5, 7, 0, 0, 0]]
def rowLs : List (List UInt8) := [[97, 98, 99, 107], [97, 98, 101, 104, 106, 107], [97, 98, 101, 104, 105, 106, 107], [97, 98, 99], [97, 98, 99, 100, 101], [97, 98, 99, 100, 101], [97, 98, 99, 107], [97, 98, 99, 101, 107], [97, 98, 99, 101, 107], [97, 98, 99, 107], [97, 98, 99, 101, 102, 107], [97, 98, 99, 101, 102, 103, 107], [97, 98, 99], [97, 98, 99, 100, 101], [97, 98, 99, 100, 101], [97, 98, 99, 107], [97, 98, 99, 101, 107], [97, 98, 99, 101, 107], [97, 98], [97, 98, 101], [97, 98, 101, 103]]
def tagR (m : Nat) : List Int := tagRs.getD m []
def rowB (m : Nat) : ByteArray := ⟨(rowLs.getD m []).toArray⟩
theorem tag_tie : ∀ m, m < 21 → nz (tagR m) = ltr (rowB m) (rowB m).size ∧ (tagR m).length = 7 ∧ (rowB m).size ≤ 7 := by decide +kernel

/-- the table of tags stands -/
def TagsT (w : World) : Prop := ∀ i j, i < 7 → j < 3 → w.rangeAt 0 (i * 21 + j * 7) (ic (tagR (i * 3 + j)))
/-- the reference's rows stand -/
def RowsT (w : World) : Prop := ∀ i j, i < 7 → j < 3 → w.cell? ⟨1, i * 3 + j, none⟩ = some (.string (rowB (i * 3 + j)))
theorem TagsT.kept {w w' : World} (h : TagsT w) (hb : Below w.heap.size w w') : TagsT w' := fun i j hi hj m v hv =>
  (hb.cell (p := ⟨0, i * 21 + j * 7 + m, none⟩) (World.block_lt_of_cell? _ _ (h i j hi hj m v hv))).trans (h i j hi hj m v hv)
theorem RowsT.kept {w w' : World} (h : RowsT w) (hb : Below w.heap.size w w') : RowsT w' := fun i j hi hj =>
  (hb.cell (p := ⟨1, i * 3 + j, none⟩) (World.block_lt_of_cell? _ _ (h i j hi hj))).trans (h i j hi hj)

/-- the tags of a version and a kind -/
def fl (v k : Int) : List Int := if 1 ≤ v ∧ v ≤ 3 ∧ 1 ≤ k ∧ k ≤ 7 then nz (tagR ((k.toNat - 1) * 3 + (v.toNat - 1))) else []
theorem fl_len (v k : Int) : (fl v k).length ≤ 7 := by
  unfold fl
  split
  · have h := (tag_tie ((k.toNat - 1) * 3 + (v.toNat - 1)) (by omega)).2.1
    have h2 := List.length_filter_le (fun z : Int => z != 0) (tagR ((k.toNat - 1) * 3 + (v.toNat - 1)))
    unfold nz
    omega
  · simp
theorem fields_any (v k : Int) (w : World) (hT : TagsT w) :
    Calls Tryd.prog 4 #[.int .i64 v, .int .i64 k] w fun e w' => ∃ o, e = .returned o ∧ RoI w.heap.size w' o (fl v k) ∧ Below w.heap.size w w' := by
  by_cases h : 1 ≤ v ∧ v ≤ 3 ∧ 1 ≤ k ∧ k ≤ 7
  · obtain ⟨h1, h2, h3, h4⟩ := h
    have e : fl v k = nz (tagR ((k.toNat - 1) * 3 + (v.toNat - 1))) := by unfold fl; rw [if_pos ⟨h1, h2, h3, h4⟩]
    rw [e]
    exact fields_in v k _ w h1 h2 h3 h4 (tag_tie _ (by omega)).2.1 (hT (k.toNat - 1) (v.toNat - 1) (by omega) (by omega))
  · have e : fl v k = [] := by unfold fl; rw [if_neg h]
    rw [e]
    exact fields_out v k w h
theorem rfields_any (v k : Int) (w : World) (hT : RowsT w) :
    Calls Tryd.prog 6 #[.int .i64 v, .int .i64 k] w fun e w' => ∃ o, e = .returned o ∧ RoI w.heap.size w' o (fl v k) ∧ Below w.heap.size w w' := by
  by_cases h : 1 ≤ v ∧ v ≤ 3 ∧ 1 ≤ k ∧ k ≤ 7
  · obtain ⟨h1, h2, h3, h4⟩ := h
    have ht := tag_tie ((k.toNat - 1) * 3 + (v.toNat - 1)) (by omega)
    have e : fl v k = ltr (rowB ((k.toNat - 1) * 3 + (v.toNat - 1))) (rowB ((k.toNat - 1) * 3 + (v.toNat - 1))).size := by unfold fl; rw [if_pos ⟨h1, h2, h3, h4⟩, ht.1]
    rw [e]
    exact rfields_in v k _ w h1 h2 h3 h4 ht.2.2 (hT (k.toNat - 1) (v.toNat - 1) (by omega) (by omega))
  · have e : fl v k = [] := by unfold fl; rw [if_neg h]
    rw [e]
    exact rfields_out v k w h

theorem gTags : Tryd.prog.globalNamed "annals/record.tags" = some 0 := by kernel_rfl
theorem gRows : Tryd.prog.globalNamed "annals/annalsref3.rows" = some 1 := by kernel_rfl
theorem gTagsT : (Tryd.prog.globals[0]?).map (·.type) = some 29 := by kernel_rfl
theorem gRowsT : (Tryd.prog.globals[1]?).map (·.type) = some 31 := by kernel_rfl
theorem cRow : Tryd.prog.cellsOf 27 = 7 := by kernel_rfl
theorem cRow3 : Tryd.prog.cellsOf 28 = 21 := by kernel_rfl
theorem cInt : Tryd.prog.cellsOf 3 = 1 := by kernel_rfl
theorem cStr : Tryd.prog.cellsOf 9 = 1 := by kernel_rfl
theorem cRRow : Tryd.prog.cellsOf 30 = 3 := by kernel_rfl
theorem tags_of {W : World} {l : List (String × DataW Unit)} (h : laidMet Tryd.prog l W) (hm : ("annals/record.tags", Rows.laid_annals_record_tags) ∈ l) : TagsT W := by
  obtain ⟨g', t', cs, fuel, p, hg', ht', hvar, hd⟩ := Lib.laidMet.reads h hm
  obtain rfl := Option.some.inj (gTags.symm.trans hg')
  obtain rfl := Option.some.inj (gTagsT.symm.trans ht')
  intro i j hi hj m v hv
  have key : ∃ L Li, (Rows.laid_annals_record_tags : DataW Unit) = .agg L ∧ L[i]? = some (.agg Li) ∧ Li[j]? = some (Lib.tabData .i64 (tagR (i * 3 + j))) := by
    obtain rfl | rfl | rfl | rfl | rfl | rfl | rfl : i = 0 ∨ i = 1 ∨ i = 2 ∨ i = 3 ∨ i = 4 ∨ i = 5 ∨ i = 6 := by omega
    all_goals (
      obtain rfl | rfl | rfl : j = 0 ∨ j = 1 ∨ j = 2 := by omega
      all_goals exact ⟨_, _, rfl, rfl, rfl⟩)
  obtain ⟨L, Li, e1, e2, e3⟩ := key
  rw [e1] at hd
  obtain ⟨f1, d1, q1, hd1, hr1⟩ := Lib.array_elem Tryd.underlying29 hd i hi
  rw [e2] at hd1
  obtain rfl := Option.some.inj hd1
  rw [cRow3] at hr1
  obtain ⟨f2, d2, q2, hd2, hr2⟩ := Lib.array_elem Tryd.underlying28 hr1 j hj
  rw [e3] at hd2
  obtain rfl := Option.some.inj hd2
  rw [cRow] at hr2
  have e := Lib.cells_of_tab Tryd.underlying27 Tryd.underlying3 cInt cRow hr2
  have hl : (tagR (i * 3 + j)).length = 7 := (tag_tie _ (by omega)).2.1
  have hm7 : m < 7 := by
    have := (List.getElem?_eq_some_iff.1 hv).1
    rw [ic_len] at this
    omega
  rw [World.var?_cell gTags hvar, ← Array.getElem?_toList]
  have e2 := congrArg (·[m]?) e
  simp only [List.getElem?_take, List.getElem?_drop] at e2
  rw [if_pos hm7, if_pos (by omega), show i * 21 + (j * 7 + m) = i * 21 + j * 7 + m by omega] at e2
  rw [e2]
  exact hv
theorem rows_of {W : World} {l : List (String × DataW Unit)} (h : laidMet Tryd.prog l W) (hm : ("annals/annalsref3.rows", Rows.laid_annals_annalsref3_rows) ∈ l) : RowsT W := by
  obtain ⟨g', t', cs, fuel, p, hg', ht', hvar, hd⟩ := Lib.laidMet.reads h hm
  obtain rfl := Option.some.inj (gRows.symm.trans hg')
  obtain rfl := Option.some.inj (gRowsT.symm.trans ht')
  intro i j hi hj
  have key : ∃ L Li, (Rows.laid_annals_annalsref3_rows : DataW Unit) = .agg L ∧ L[i]? = some (.agg Li) ∧ Li[j]? = some (.lit (.string (rowLs.getD (i * 3 + j) []))) := by
    obtain rfl | rfl | rfl | rfl | rfl | rfl | rfl : i = 0 ∨ i = 1 ∨ i = 2 ∨ i = 3 ∨ i = 4 ∨ i = 5 ∨ i = 6 := by omega
    all_goals (
      obtain rfl | rfl | rfl : j = 0 ∨ j = 1 ∨ j = 2 := by omega
      all_goals exact ⟨_, _, rfl, rfl, rfl⟩)
  obtain ⟨L, Li, e1, e2, e3⟩ := key
  rw [e1] at hd
  obtain ⟨f1, d1, q1, hd1, hr1⟩ := Lib.array_elem Tryd.underlying31 hd i hi
  rw [e2] at hd1
  obtain rfl := Option.some.inj hd1
  rw [cRRow] at hr1
  obtain ⟨f2, d2, q2, hd2, hr2⟩ := Lib.array_elem Tryd.underlying30 hr1 j hj
  rw [e3] at hd2
  obtain rfl := Option.some.inj hd2
  rw [cStr] at hr2
  obtain ⟨s, hs1, hs2, _⟩ := DataW.trod_string Tryd.underlying9 hr2
  have hs : s = rowB (i * 3 + j) := by
    have h9 : rowLs.getD (i * 3 + j) [] = s.data.toList := by
      have := congrArg Prod.fst hs2
      simpa using this
    unfold rowB
    rw [h9]
  rw [World.var?_cell gRows hvar, ← Array.getElem?_toList]
  have e4 := congrArg (·[0]?) hs1
  simp only [List.getElem?_take, List.getElem?_drop] at e4
  rw [if_pos (by omega), if_pos (by omega), show i * 3 + (j * 1 + 0) = i * 3 + j by omega] at e4
  rw [e4, hs]
  rfl
/-- For the witness: a table's block holds what its initialiser lays. -/
def lay_tags : Obj → Obj
  | .cells _ ty frozen => .cells (ic tagRs.flatten).toArray ty frozen
  | o => o
def lay_rows : Obj → Obj
  | .cells _ ty frozen => .cells ((rowLs.map fun l => Value.string ⟨l.toArray⟩)).toArray ty frozen
  | o => o
theorem own : ownKnob Tryd.prog.godebug = none := by kernel_rfl
theorem laidOut : laidOutB Tryd.prog = true := by kernel_rfl
end Go.Proofs.YtbmoghpeapdlaaaDoor
