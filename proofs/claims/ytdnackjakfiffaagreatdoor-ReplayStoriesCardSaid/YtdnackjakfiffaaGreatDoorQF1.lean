import Derived.Test.YtdnackjakfiffaaGreatDoorChecked
import Derived.Deep.MidRow
import Derived.Laws.AppendOwnNone
import Derived.Maps.AppendAt
import Derived.WalkSpells
import Derived.WalkLawsBesides
import Derived.OwnWalk
import Derived.Deep.QuietTactic
import Derived.BigQuiet
import Derived.WalkSmall
import Derived.Test.YtdnackjakfiffaaGreatDoorRows
import Derived.Lib.LaidU8
import Derived.ChangeMaps5
import Derived.ProofKit
import Derived.OpenShut
import Derived.ShutString
import Derived.ChangeOld
import Derived.Deep.DeepHandedRow
/-
  What a call leaves below; rows of numbers.
-/
namespace Go.Proofs.YtdnackjakfiffaaGreatDoor.Fld
open Go Go.RowKit

theorem up {w w1 : World} (h : Below w.heap.size w w1) (o : Obj) : Below w.heap.size w (w1.alloc o) := h.alloc h.size o
theorem andThen {w w1 w2 : World} (h : Below w.heap.size w w1) (k : Below w1.heap.size w1 w2) : Below w.heap.size w w2 := h.trans (k.mono h.size)
theorem up0 (w : World) (o : Obj) : Below w.heap.size w (w.alloc o) := up (Below.refl _ _) o

def ic (l : List Int) : List Value := l.map fun z => Value.int .i64 z
theorem ic_len (l : List Int) : (ic l).length = l.length := by simp [ic]
theorem info_parts3 {P : Program} {t : TypeId} {z : Value} {a b : Nat} (h : (P.info? t).map (fun i => (i.zero, i.size, i.bytes)) = some (some z, a, b)) : ∃ i, P.info? t = some i ∧ i.zero = some z ∧ i.size = a ∧ i.bytes = b := by
  cases hq : P.info? t with
  | none => rw [hq] at h; simp at h
  | some i =>
    rw [hq] at h
    simp at h
    exact ⟨i, rfl, h.1, h.2.1, h.2.2⟩
theorem info3 : ∃ i, Tryz.prog.info? 3 = some i ∧ i.zero = some (.int .i64 0) ∧ i.size = 1 ∧ i.bytes = 8 := by
  have h : (Tryz.prog.info? 3).map (fun i => (i.zero, i.size, i.bytes)) = some (some (.int .i64 0), 1, 8) := by kernel_rfl
  exact info_parts3 h
/-- numbers in a row of the call's own -/
def RoI (B : Nat) (w : World) (v : Value) (l : List Int) : Prop := w.ownsRow B 3 1 v l.length (ic l)
theorem RoI.kept {B : Nat} {w w' : World} {v : Value} {l : List Int} (h : RoI B w v l) (hb : Below w.heap.size w w') : RoI B w' v l := by
  refine ⟨h.1, ?_⟩
  rcases h.2 with h1 | ⟨g, cap, cur, rfl, h1, hg, rest⟩
  · exact .inl h1
  · exact .inr ⟨g, cap, cur, rfl, h1, (hb.block g (Array.getElem?_eq_some_iff.1 hg).1).trans hg, rest⟩
theorem RoI.below {w0 w w' : World} {v : Value} {l : List Int} (h : RoI w0.heap.size w v l) (hb : Below w0.heap.size w0 w) (hg : w.grownBy w' v.ownBlock) : Below w0.heap.size w0 w' :=
  hb.grown hg hb.size (fun k hk => (World.ownsRow.lt h k hk).1)
theorem RoI.shape {B : Nat} {w : World} {v : Value} {l : List Int} (h : RoI B w v l) : ∃ ao cap, v = .slice ao l.length cap := by
  rcases h.2 with ⟨rfl, h1⟩ | ⟨g, cap, cur, rfl, _⟩
  · exact ⟨none, 0, by rw [h1]⟩
  · exact ⟨_, cap, rfl⟩
theorem RoI.cell {B : Nat} {w : World} {ao : Option Addr} {n cap : Nat} {l : List Int} (h : RoI B w (.slice ao n cap) l) (j : Nat) (hj : j < l.length) : ∃ g, ao = some ⟨g, 0, none⟩ ∧ w.cell? ⟨g, j, none⟩ = some (.int .i64 l[j]) := by
  have h0 := h
  rcases h.2 with ⟨_, h1⟩ | ⟨g, cap', cur, he, hb, hg, h1, h2, h3, h4⟩
  · omega
  · cases he
    refine ⟨g, rfl, ?_⟩
    rw [World.ownsRow.cellAt h0 j (by omega)]
    simp [ic, hj]
theorem roI_nil (B : Nat) (w : World) : RoI B w (.slice none 0 0) [] := ⟨rfl, .inl ⟨rfl, rfl⟩⟩
/-- append(v, c) of one number -/
theorem wpList_app_int {P : Program} (w : World) {ops : Array Oper} {rest : List Oper} {o : Oper} {a : Act} {Q : Exit → Act → World → Prop} (hgd : o.guard = none) (s x : Operand) (t : TypeId)
    (ho : o.op = .call { callee := .builtin .append, args := #[s, x], argTypes := #[t, t] })
    (B : Nat) (hinfo : ∃ i, P.info? 3 = some i ∧ i.zero = some (.int .i64 0) ∧ i.size = 1 ∧ i.bytes = 8) (ht : P.underlying t = some (.slice 3))
    (v : Value) (l : List Int) (hv : a.eval s = v) (h : RoI B w v l) (g : Nat) (c : Int) (hx : a.eval x = .slice (some ⟨g, 0, none⟩) 1 1) (hc : w.cell? ⟨g, 0, none⟩ = some (.int .i64 c)) (hl : l.length ≤ 1000) (hB : B ≤ w.heap.size)
    (hK : ∀ v' w', RoI B w' v' (l ++ [c]) → w.grownBy w' v.ownBlock → wpList P ops Q rest (a.put o.dst v') w') : wpList P ops Q (o :: rest) a w := by
  obtain ⟨i, hi, hz, h1, h2⟩ := hinfo
  refine wpList_append_own w hgd s x t ho B 3 i (.int .i64 0) 1 8 ht hi hz h1 h2 rfl (by decide) v l.length (ic l) hv h ⟨g, 0, none⟩ 1 1 [.int .i64 c] hx rfl ?_ (by intro u hu; simp at hu; subst hu; rfl) (by unfold maxLen; omega) (by omega) hB fun v' w' h3 h4 _ => hK v' w' ?_ h4
  · intro j u hj
    match j, hj with
    | 0, hj =>
      simp at hj
      subst hj
      rw [Addr.add_lit]
      exact hc
  · show w'.ownsRow B 3 1 v' (l ++ [c]).length (ic (l ++ [c]))
    have e2 : ic (l ++ [c]) = ic l ++ [.int .i64 c] := by simp [ic]
    rw [List.length_append, e2]
    exact h3
end Go.Proofs.YtdnackjakfiffaaGreatDoor.Fld

/-
  Package record: Fields.
-/
namespace Go.Proofs.YtdnackjakfiffaaGreatDoor.Fld
open Go Go.RowKit

theorem isV_any (v : Int) (w : World) : Calls Tryz.prog 63 #[.int .i64 v] w fun e w' => e = .returned (.bool (decide (1 ≤ v) && decide (v ≤ 3))) ∧ w' = w := by
  by_cases h1 : 1 ≤ v
  · have H1 : Hid ((decide (1 ≤ v) && decide (v ≤ 3)) = decide (v ≤ 3)) := by show _ = _; rw [decide_eq_true h1, Bool.true_and]
    rw [H1.out]
    go_enter Tryz.func63, Tryz.ntmps63
    go_wp2
    go_ret
    exact ⟨rfl, rfl⟩
  · have H1 : Hid ((decide (1 ≤ v) && decide (v ≤ 3)) = false) := by show _ = _; rw [decide_eq_false h1, Bool.false_and]
    rw [H1.out]
    go_enter Tryz.func63, Tryz.ntmps63
    go_wp2
    go_ret
    exact ⟨rfl, rfl⟩
theorem isK_any (v : Int) (w : World) : Calls Tryz.prog 64 #[.int .i64 v] w fun e w' => e = .returned (.bool (decide (1 ≤ v) && decide (v ≤ 7))) ∧ w' = w := by
  by_cases h1 : 1 ≤ v
  · have H1 : Hid ((decide (1 ≤ v) && decide (v ≤ 7)) = decide (v ≤ 7)) := by show _ = _; rw [decide_eq_true h1, Bool.true_and]
    rw [H1.out]
    go_enter Tryz.func64, Tryz.ntmps64
    go_wp2
    go_ret
    exact ⟨rfl, rfl⟩
  · have H1 : Hid ((decide (1 ≤ v) && decide (v ≤ 7)) = false) := by show _ = _; rw [decide_eq_false h1, Bool.false_and]
    rw [H1.out]
    go_enter Tryz.func64, Tryz.ntmps64
    go_wp2
    go_ret
    exact ⟨rfl, rfl⟩

theorem infoRow : (Tryz.prog.info? 99).map (·.size) = some 7 := by kernel_rfl
/-- numbers that are not zero -/
def nz (l : List Int) : List Int := l.filter fun z => z != 0
theorem nz_take (l : List Int) (k : Nat) (h : k < l.length) : nz (l.take (k + 1)) = nz (l.take k) ++ (if l[k] != 0 then [l[k]] else []) := by
  unfold nz
  rw [List.take_succ_eq_append_getElem h, List.filter_append]
  simp [List.filter_cons]
theorem nz_le (l : List Int) (k : Nat) : (nz (l.take k)).length ≤ k := by
  unfold nz
  have h1 := List.length_filter_le (fun z : Int => z != 0) (l.take k)
  have h2 : (l.take k).length ≤ k := by rw [List.length_take]; omega
  omega
/-- the i-th number of an array by value -/
theorem run_index_int {P : Program} (w : World) (ta te : TypeId) (n : Nat) (l : List Int) (i : Nat) (hi : i < l.length) (hn : l.length = n) (ht : P.underlying ta = some (.array n te)) (he : P.underlying te = some (.int .i64)) (hs : (P.info? te).map (·.size) = some 1) :
    (Instr.index ta (.agg (ic l).toArray) (.int .i64 (i : Int))).run P w = .ok (.int .i64 l[i]) w := by
  have hagg : (isAgg te).run P w = .ok false w := by
    unfold isAgg
    rw [Sem.run_bind, run_underlying he w]
    rfl
  cases hq : P.info? te with
  | none => simp [hq] at hs
  | some inf =>
    have hz : inf.size = 1 := by simpa [hq] using hs
    have h2 : i < n := by omega
    simp [Instr.index, run_underlying ht, asIntOf, h2, part, hagg, sizeOf, typeInfo, hq, hz, ic, hi, go_sem]
theorem infoInt : (Tryz.prog.info? 3).map (·.size) = some 1 := by kernel_rfl

end Go.Proofs.YtdnackjakfiffaaGreatDoor.Fld

/-
  The reference's Fields; same.
-/
namespace Go.Proofs.YtdnackjakfiffaaGreatDoor.Fld
open Go Go.RowKit

/-- the tags that n letters name -/
def ltr (s : ByteArray) (n : Nat) : List Int := (List.range n).map fun i => (((s.get! i).toNat : Int) - 97) % 256 + 1
theorem ltr_step (s : ByteArray) (n : Nat) (h : n < s.size) : ltr s (n + 1) = ltr s n ++ [(((s[n]'h).toNat : Int) - 97) % 256 + 1] := by
  unfold ltr
  rw [List.range_succ, List.map_append]
  have e : s.get! n = s[n]'h := by
    rw [ByteArray.getElem_eq_getElem_data]
    show s.data[n]! = _
    rw [getElem!_pos s.data n h]
  simp [e]
theorem ltr_len (s : ByteArray) (n : Nat) : (ltr s n).length = n := by simp [ltr]

/-- a slice of these numbers -/
def SlI (w : World) (v : Value) (l : List Int) : Prop := ∃ ao cap, v = .slice ao l.length cap ∧ ∀ j (h : j < l.length), ∃ g, ao = some ⟨g, 0, none⟩ ∧ w.cell? ⟨g, j, none⟩ = some (.int .i64 l[j])
theorem RoI.sl {B : Nat} {w : World} {v : Value} {l : List Int} (h : RoI B w v l) : SlI w v l := by
  obtain ⟨ao, cap, rfl⟩ := h.shape
  exact ⟨ao, cap, rfl, fun j hj => h.cell j hj⟩
theorem SlI.kept {w w' : World} {v : Value} {l : List Int} (h : SlI w v l) (hb : Below w.heap.size w w') : SlI w' v l := by
  obtain ⟨ao, cap, rfl, hc⟩ := h
  refine ⟨ao, cap, rfl, fun j hj => ?_⟩
  obtain ⟨g, hg, hcell⟩ := hc j hj
  exact ⟨g, hg, (hb.cell (p := ⟨g, j, none⟩) (World.block_lt_of_cell? _ _ hcell)).trans hcell⟩

end Go.Proofs.YtdnackjakfiffaaGreatDoor.Fld

/-
  Package record: the table of tags, the reference's rows of letters.
-/
namespace Go.Proofs.YtdnackjakfiffaaGreatDoor.Fld
open Go Go.RowKit

def tagRs : List (List Int) := [[1, 2, 3, 11, 0, 0, 0], [1, 2, 5, 8, 10, 11, 0], [1, 2, 5, 8, 9, 10, 11], [1, 2, 3, 0, 0, 0, 0], [1, 2, 3, 4, 5, 0, 0], [1, 2, 3, 4, 5, 0, 0], [1, 2, 3, 11, 0, 0, 0], [1, 2, 3, 5, 11, 0, 0], [1, 2, 3, 5, 11, 0, 0], [1, 2, 3, 11, 0, 0, 0], [1, 2, 3, 5, 6, 11, 0], [1, 2, 3, 5, 6, 7, 11], [1, 2, 3, 0, 0, 0, 0], [1, 2, 3, 4, 5, 0, 0], [1, 2, 3, 4, 5, 0, 0], [1, 2, 3, 11, 0, 0, 0], [1, 2, 3, 5, 11, 0, 0], [1, 2, 3, 5, 11, 0, 0], [1, 2, 0, 0, 0, 0, 0], [1, 2, 5, 0, 0, 0, 0], [1, 2, 5, 7, 0, 0, 0]]
def rowLs : List (List UInt8) := [[97, 98, 99, 107], [97, 98, 101, 104, 106, 107], [97, 98, 101, 104, 105, 106, 107], [97, 98, 99], [97, 98, 99, 100, 101], [97, 98, 99, 100, 101], [97, 98, 99, 107], [97, 98, 99, 101, 107], [97, 98, 99, 101, 107], [97, 98, 99, 107], [97, 98, 99, 101, 102, 107], [97, 98, 99, 101, 102, 103, 107], [97, 98, 99], [97, 98, 99, 100, 101], [97, 98, 99, 100, 101], [97, 98, 99, 107], [97, 98, 99, 101, 107], [97, 98, 99, 101, 107], [97, 98], [97, 98, 101], [97, 98, 101, 103]]
def tagR (m : Nat) : List Int := tagRs.getD m []
def rowB (m : Nat) : ByteArray := ⟨(rowLs.getD m []).toArray⟩
theorem tag_tie : ∀ m, m < 21 → nz (tagR m) = ltr (rowB m) (rowB m).size ∧ (tagR m).length = 7 ∧ (rowB m).size ≤ 7 := by decide +kernel

/-- the table of tags stands -/
def TagsT (w : World) : Prop := ∀ i j, i < 7 → j < 3 → w.rangeAt 0 (i * 21 + j * 7) (ic (tagR (i * 3 + j)))
theorem TagsT.kept {w w' : World} (h : TagsT w) (hb : Below w.heap.size w w') : TagsT w' := fun i j hi hj m v hv =>
  (hb.cell (p := ⟨0, i * 21 + j * 7 + m, none⟩) (World.block_lt_of_cell? _ _ (h i j hi hj m v hv))).trans (h i j hi hj m v hv)
/-- the tags of a version and a kind -/
def fl (v k : Int) : List Int := if 1 ≤ v ∧ v ≤ 3 ∧ 1 ≤ k ∧ k ≤ 7 then nz (tagR ((k.toNat - 1) * 3 + (v.toNat - 1))) else []
theorem fl_len (v k : Int) : (fl v k).length ≤ 7 := by
  unfold fl
  split
  · have h := (tag_tie ((k.toNat - 1) * 3 + (v.toNat - 1)) (by omega)).2.1
    have h2 := List.length_filter_le (fun z : Int => z != 0) (tagR ((k.toNat - 1) * 3 + (v.toNat - 1)))
    unfold nz
    omega
  · simp
theorem gTags : Tryz.prog.globalNamed "annals/record.tags" = some 0 := by kernel_rfl
theorem gTagsT : (Tryz.prog.globals[0]?).map (·.type) = some 101 := by kernel_rfl
theorem cRow : Tryz.prog.cellsOf 99 = 7 := by kernel_rfl
theorem cRow3 : Tryz.prog.cellsOf 100 = 21 := by kernel_rfl
theorem cInt : Tryz.prog.cellsOf 3 = 1 := by kernel_rfl
theorem cStr : Tryz.prog.cellsOf 9 = 1 := by kernel_rfl
theorem tags_of {W : World} {l : List (String × DataW Unit)} (h : laidMet Tryz.prog l W) (hm : ("annals/record.tags", Rows.laid_annals_record_tags) ∈ l) : TagsT W := by
  obtain ⟨g', t', cs, fuel, p, hg', ht', hvar, hd⟩ := Lib.laidMet.reads h hm
  obtain rfl := Option.some.inj (gTags.symm.trans hg')
  obtain rfl := Option.some.inj (gTagsT.symm.trans ht')
  intro i j hi hj m v hv
  have key : ∃ L Li, (Rows.laid_annals_record_tags : DataW Unit) = .agg L ∧ L[i]? = some (.agg Li) ∧ Li[j]? = some (Lib.tabData .i64 (tagR (i * 3 + j))) := by
    obtain rfl | rfl | rfl | rfl | rfl | rfl | rfl : i = 0 ∨ i = 1 ∨ i = 2 ∨ i = 3 ∨ i = 4 ∨ i = 5 ∨ i = 6 := by omega
    all_goals (
      obtain rfl | rfl | rfl : j = 0 ∨ j = 1 ∨ j = 2 := by omega
      all_goals exact ⟨_, _, rfl, rfl, rfl⟩)
  obtain ⟨L, Li, e1, e2, e3⟩ := key
  rw [e1] at hd
  obtain ⟨f1, d1, q1, hd1, hr1⟩ := Lib.array_elem Tryz.underlying101 hd i hi
  rw [e2] at hd1
  obtain rfl := Option.some.inj hd1
  rw [cRow3] at hr1
  obtain ⟨f2, d2, q2, hd2, hr2⟩ := Lib.array_elem Tryz.underlying100 hr1 j hj
  rw [e3] at hd2
  obtain rfl := Option.some.inj hd2
  rw [cRow] at hr2
  have e := Lib.cells_of_tab Tryz.underlying99 Tryz.underlying3 cInt cRow hr2
  have hl : (tagR (i * 3 + j)).length = 7 := (tag_tie _ (by omega)).2.1
  have hm7 : m < 7 := by
    have := (List.getElem?_eq_some_iff.1 hv).1
    rw [ic_len] at this
    omega
  rw [World.var?_cell gTags hvar, ← Array.getElem?_toList]
  have e2 := congrArg (·[m]?) e
  simp only [List.getElem?_take, List.getElem?_drop] at e2
  rw [if_pos hm7, if_pos (by omega), show i * 21 + (j * 7 + m) = i * 21 + j * 7 + m by omega] at e2
  rw [e2]
  exact hv
/-- For the witness: a table's block holds what its initialiser lays. -/
def lay_tags : Obj → Obj
  | .cells _ ty frozen => .cells (ic tagRs.flatten).toArray ty frozen
  | o => o
def lay_rows : Obj → Obj
  | .cells _ ty frozen => .cells ((rowLs.map fun l => Value.string ⟨l.toArray⟩)).toArray ty frozen
  | o => o
theorem own : ownKnob Tryz.prog.godebug = none := by kernel_rfl
theorem laidOut : laidOutB Tryz.prog = true := by kernel_rfl
end Go.Proofs.YtdnackjakfiffaaGreatDoor.Fld
