import Derived.Test.YtdnackjakfiffaaGreatDoorRows
import Derived.Lib.LaidU8
import Derived.ChangeMaps5
import Derived.ProofKit
import Derived.OpenShut
import Derived.ShutString
import Derived.ChangeOld
import Derived.Deep.DeepHandedRow
import Derived.SizedLaws
import Derived.Deep.Matrix
import Derived.Test.YtdnackjakfiffaaGreatDoorQT1
import Derived.Test.YtdnackjakfiffaaGreatDoorQR3
/-
  Tables of pairs: from the row's condition to the cells.
-/
namespace Go.Proofs.YtdnackjakfiffaaGreatDoor.Text
open Go Go.RowKit
open Tx

def pairData (k : IntKind) (t : List (Int × Int)) : DataW Unit := .agg (t.map fun p => .agg ([p.1, p.2].map fun z => .lit (.int k z)))
theorem tabP_of_reads {P : Program} {W : World} {name : String} {g : Nat} {ty te : TypeId} {n : Nat} {k : IntKind} {t : List (Int × Int)} (hg : P.globalNamed name = some g) (hty : (P.globals[g]?).map (·.type) = some ty) (ht : P.underlying ty = some (.array n te)) (hn : t.length = n) (hc : P.cellsOf te = 2)
    (he : ∀ fuel cs q (zs : List Int), DataW.trod (fun _ => ()) P W 0 (fun _ => true) false fuel te cs = some (.agg (zs.map fun z => .lit (.int k z)), q) → cs = zs.map fun z => Value.int k z)
    (h : Lib.VarReads P W name (pairData k t)) : TabP g k t W := by
  obtain ⟨g', t', cs, fuel, p, hg', ht', hvar, hd⟩ := h
  obtain rfl := Option.some.inj (hg.symm.trans hg')
  obtain rfl := Option.some.inj (hty.symm.trans ht')
  intro j hj
  have hl := flat_len t
  have hi : j / 2 < t.length := by omega
  obtain ⟨fuel', d, q, hds, hr⟩ := Lib.array_elem ht hd (j / 2) (by omega)
  rw [List.getElem?_map, List.getElem?_eq_getElem hi] at hds
  simp only [Option.map_some, Option.some.injEq] at hds
  subst hds
  rw [hc] at hr
  have e := he _ _ _ _ hr
  have hg2 := flat_get t (j / 2) hi
  have hjj := List.getElem?_eq_getElem hj
  rw [World.var?_cell hg hvar j, ← Array.getElem?_toList]
  rcases Nat.mod_two_eq_zero_or_one j with h0 | h1
  · have e1 : j = 2 * (j / 2) := by omega
    have e2 := congrArg (·[0]?) e
    simp only [List.getElem?_take, List.getElem?_drop] at e2
    rw [show j / 2 * 2 + 0 = j by omega] at e2
    have e3 : (flat t)[j]? = some t[j / 2].1 := by
      have := hg2.1
      rwa [← e1] at this
    rw [hjj] at e3
    rw [Option.some.inj e3]
    simpa using e2
  · have e1 : j = 2 * (j / 2) + 1 := by omega
    have e2 := congrArg (·[1]?) e
    simp only [List.getElem?_take, List.getElem?_drop] at e2
    rw [show j / 2 * 2 + 1 = j by omega] at e2
    have e3 : (flat t)[j]? = some t[j / 2].2 := by
      have := hg2.2
      rwa [← e1] at this
    rw [hjj] at e3
    rw [Option.some.inj e3]
    simpa using e2

theorem gLets : Tryz.prog.globalNamed "annals/text.letters" = some 2 := by kernel_rfl
theorem gLetsT : (Tryz.prog.globals[2]?).map (·.type) = some 123 := by kernel_rfl
theorem cSpan : Tryz.prog.cellsOf 122 = 2 := by kernel_rfl
theorem cPair : Tryz.prog.cellsOf 120 = 2 := by kernel_rfl
theorem cRune : Tryz.prog.cellsOf 21 = 1 := by kernel_rfl
theorem cInt : Tryz.prog.cellsOf 3 = 1 := by kernel_rfl
theorem span_elem (W : World) : ∀ fuel cs q (zs : List Int), DataW.trod (fun _ => ()) Tryz.prog W 0 (fun _ => true) false fuel 122 cs = some (.agg (zs.map fun z => .lit (.int .i32 z)), q) → cs = zs.map fun z => Value.int .i32 z := by
  intro fuel cs q zs h
  refine Lib.ints_of_struct Tryz.underlying122 (fun i f hf => ?_) (by rw [cSpan]; rfl) h
  match i, hf with
  | 0, hf => cases hf; exact ⟨Tryz.underlying21, rfl, cRune⟩
  | 1, hf => cases hf; exact ⟨Tryz.underlying21, rfl, cRune⟩
theorem pair_elem (W : World) : ∀ fuel cs q (zs : List Int), DataW.trod (fun _ => ()) Tryz.prog W 0 (fun _ => true) false fuel 120 cs = some (.agg (zs.map fun z => .lit (.int .i64 z)), q) → cs = zs.map fun z => Value.int .i64 z := by
  intro fuel cs q zs h
  exact Lib.cells_of_tab Tryz.underlying120 Tryz.underlying3 cInt cPair h
theorem lets_of {W : World} {l : List (String × DataW Unit)} (h : laidMet Tryz.prog l W) (hm : ("annals/text.letters", Rows.laid_annals_text_letters) ∈ l) : TabP 2 .i32 lets W :=
  tabP_of_reads gLets gLetsT Tryz.underlying123 rfl cSpan (span_elem W) (Lib.laidMet.reads h hm)
/-- For the witness: a table's block holds what its initialiser lays. -/
def layP (k : IntKind) (t : List (Int × Int)) : Obj → Obj
  | .cells _ ty frozen => .cells ((flat t).map fun z => Value.int k z).toArray ty frozen
  | o => o
def lay_lets : Obj → Obj := layP .i32 lets
def lay_rlets : Obj → Obj := layP .i64 lets
theorem own : ownKnob Tryz.prog.godebug = none := by kernel_rfl
theorem laidOut : laidOutB Tryz.prog = true := by kernel_rfl
end Go.Proofs.YtdnackjakfiffaaGreatDoor.Text

/-
  The tables and the argument of a law on bytes.
-/
namespace Go.Proofs.YtdnackjakfiffaaGreatDoor
open Go Go.RowKit Go.ChangeShapes Go.WideShapes Go.ChangeAt
open Wb

theorem cellsTB : Tryz.prog.cellsOf 5 = 1 := by kernel_rfl
theorem bytesTB : Tryz.prog.bytesOf 5 = 1 := by kernel_rfl
theorem reachIs : reachBytes ≤ 140737488355000 := by decide
theorem u8_bounds {n : Int} (h : (Lit.int .u8 n).wf = true) : 0 ≤ n ∧ n < 256 := by
  have := bounds_u8 h
  omega

/-- the bytes of a row of numbers -/
theorem bs_of_row {W : World} {a : Addr} {len cap : Nat} {zs : List Int} (hl : len ≤ cap) (hm : cap ≤ maxLen) (hz : zs.length = cap) (hcell : ∀ i, i < zs.length → W.cell? (a.add i) = some (.int .u8 (zs.getD i 0)))
    (hwz : ∀ n ∈ zs, (Lit.int .u8 n).wf = true) : Bs W (.slice (some a) len cap) ((zs.take len).map Int.toNat) := by
  have hlen : ((zs.take len).map Int.toNat).length = len := by simp; omega
  refine ⟨⟨some a, cap, by rw [hlen], by omega, hm, fun e => (by cases e), fun hne => ?_⟩, fun x hx => ?_⟩
  · have hpos : 0 < len := by rw [← hlen]; exact List.length_pos_iff.2 hne
    obtain ⟨b, off, rfl, hc⟩ := ints_at hcell (by omega)
    refine ⟨b, off, rfl, fun j hj => ?_⟩
    rw [hlen] at hj
    rw [hc j (by omega)]
    have hb := u8_bounds (hwz (zs[j]'(by omega)) (List.getElem_mem _))
    have e : zs.getD j 0 = zs[j]'(by omega) := by simp [List.getD, show j < zs.length by omega]
    rw [e]
    simp only [List.getElem_map, List.getElem_take]
    congr 2
    omega
  · obtain ⟨n, hn, rfl⟩ := List.mem_map.1 hx
    have := u8_bounds (hwz n (List.mem_of_mem_take hn))
    omega

theorem open_bsf {H : Type} {enc : TypeId × Value → H} {W : World} {fuel : Nat} {v : Value} {x : DataW H × List MemPlace}
    (h : DataW.trod enc Tryz.prog W 0 (fun _ => true) true fuel 30 [v] = some x) (hw : ∀ n ∈ x.1.weights Tryz.prog 30, n ≤ reachBytes) : ∃ l, Bs W v l ∧ l.length ≤ 140737488355000 := by
  obtain ⟨d, p⟩ := x
  rcases open_ints Tryz.underlying30 Tryz.underlying5 cellsTB h with ⟨hcs, _⟩ | ⟨xx, l, c, zs, hcs, _, hl, hm, hz, hx, hcell, hwz⟩
  · simp at hcs
    subst hcs
    exact ⟨[], Bs.nil W, Nat.zero_le _⟩
  · simp at hcs
    subst hcs
    simp only [Prod.mk.injEq] at hx
    have hr := reachIs
    refine ⟨_, bs_of_row hl hm (by simpa using hz) hcell hwz, ?_⟩
    have h1 := hw (((lits (H := H) .u8 (zs.take l)).length + (lits (H := H) .u8 (zs.drop l)).length) * Tryz.prog.bytesOf 5) (by rw [hx.1]; simp [DataW.weights, Tryz.underlying30])
    rw [bytesTB] at h1
    simp only [lits, List.length_map, List.length_take, List.length_drop] at h1
    simp at hz ⊢
    omega

theorem trod_lt {H : Type} {enc : TypeId × Value → H} {W : World} {t : TypeId} {v : Value} {d : DataW H} {p : List MemPlace} (h : DataW.Trod enc Tryz.prog W 0 (fun _ => true) true t v d p) : ∀ x ∈ p, x.block < W.heap.size := by
  obtain ⟨m, hm⟩ := h
  exact DataW.trod_lt m _ _ _ hm


theorem gTags : Tryz.prog.globalNamed "annals/record.tags" = some 0 := by kernel_rfl
theorem gTagsT : (Tryz.prog.globals[0]?).map (·.type) = some 101 := by kernel_rfl
theorem cRow : Tryz.prog.cellsOf 99 = 7 := by kernel_rfl
theorem cRow3 : Tryz.prog.cellsOf 100 = 21 := by kernel_rfl
theorem cInt : Tryz.prog.cellsOf 3 = 1 := by kernel_rfl
theorem tags_of {W : World} {l : List (String × DataW Unit)} (h : laidMet Tryz.prog l W) (hm : ("annals/record.tags", Rows.laid_annals_record_tags) ∈ l) : TagsT W := by
  obtain ⟨g', t', cs, fuel, p, hg', ht', hvar, hd⟩ := Lib.laidMet.reads h hm
  obtain rfl := Option.some.inj (gTags.symm.trans hg')
  obtain rfl := Option.some.inj (gTagsT.symm.trans ht')
  intro i j hi hj m v hv
  have key : ∃ L Li, (Rows.laid_annals_record_tags : DataW Unit) = .agg L ∧ L[i]? = some (.agg Li) ∧ Li[j]? = some (Lib.tabData .i64 (tagR (i * 3 + j))) := by
    obtain rfl | rfl | rfl | rfl | rfl | rfl | rfl : i = 0 ∨ i = 1 ∨ i = 2 ∨ i = 3 ∨ i = 4 ∨ i = 5 ∨ i = 6 := by omega
    all_goals (
      obtain rfl | rfl | rfl : j = 0 ∨ j = 1 ∨ j = 2 := by omega
      all_goals exact ⟨_, _, rfl, rfl, rfl⟩)
  obtain ⟨L, Li, e1, e2, e3⟩ := key
  rw [e1] at hd
  obtain ⟨f1, d1, q1, hd1, hr1⟩ := Lib.array_elem Tryz.underlying101 hd i hi
  rw [e2] at hd1
  obtain rfl := Option.some.inj hd1
  rw [cRow3] at hr1
  obtain ⟨f2, d2, q2, hd2, hr2⟩ := Lib.array_elem Tryz.underlying100 hr1 j hj
  rw [e3] at hd2
  obtain rfl := Option.some.inj hd2
  rw [cRow] at hr2
  have e := Lib.cells_of_tab Tryz.underlying99 Tryz.underlying3 cInt cRow hr2
  have hl : (tagR (i * 3 + j)).length = 7 := tagR_len _ (by omega)
  have hm7 : m < 7 := by
    have := (List.getElem?_eq_some_iff.1 hv).1
    rw [ic_len] at this
    omega
  rw [World.var?_cell gTags hvar, ← Array.getElem?_toList]
  have e2 := congrArg (·[m]?) e
  simp only [List.getElem?_take, List.getElem?_drop] at e2
  rw [if_pos hm7, if_pos (by omega), show i * 21 + (j * 7 + m) = i * 21 + j * 7 + m by omega] at e2
  rw [e2]
  exact hv
def lay_tags : Obj → Obj
  | .cells _ ty frozen => .cells (ic tagRs.flatten).toArray ty frozen
  | o => o
theorem own : ownKnob Tryz.prog.godebug = none := by kernel_rfl
theorem laidOut : laidOutB Tryz.prog = true := by kernel_rfl
set_option maxRecDepth 100000 in
theorem open_bytes {H : Type} {enc : TypeId × Value → H} {W : World} {base : Nat} {v : Value} {d : DataW H} {p : List MemPlace} (hv : Value.okWide Tryz.prog W .any base 30 v)
    (h : DataW.Trod enc Tryz.prog W 0 (fun _ => true) true 30 v d p) (hw : ∀ n ∈ d.weights Tryz.prog 30, n ≤ reachBytes) : ∃ l, Bs W v l ∧ l.length ≤ 140737488355328 := by
  obtain ⟨a0, len0, cap0, rfl⟩ := okWide_slice Tryz.underlying30 hv
  obtain ⟨fuel, hf⟩ := h
  obtain ⟨l, hb, hl⟩ := open_bsf hf hw
  exact ⟨l, hb, by omega⟩
end Go.Proofs.YtdnackjakfiffaaGreatDoor
