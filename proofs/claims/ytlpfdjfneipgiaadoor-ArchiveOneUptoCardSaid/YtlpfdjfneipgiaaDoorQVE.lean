import Derived.Lib.LaidTab
import Derived.Test.YtlpfdjfneipgiaaDoorQVD
import Derived.Test.YtlpfdjfneipgiaaDoorQA2
import Derived.Test.YtlpfdjfneipgiaaDoorQR4
/-
  ArchiveOne: its arguments and tables.
-/
namespace Go.Proofs.YtlpfdjfneipgiaaDoor
open Go Go.RowKit Go.ChangeShapes Go.WideShapes Go.ChangeAt
open Wb

set_option maxRecDepth 100000 in
theorem open_capsA {H : Type} {enc : TypeId × Value → H} {W : World} {v : Value} {d : DataW H} {p : List MemPlace}
    (h : DataW.Trod enc Tryd.prog W 0 (fun _ => true) true 22 v d p) : ∀ ao (len cap : Nat), v = .slice ao len cap → len ≤ cap ∧ cap ≤ maxLen := by
  intro ao len cap e
  subst e
  obtain ⟨fuel, hf⟩ := h
  have hf' : DataW.trod enc Tryd.prog W 0 (fun _ => true) true fuel 22 [Value.slice ao len cap] = some (d, p) := hf
  rcases Deep.open_slice Tryd.underlying22 hf' with ⟨hcs, _⟩ | ⟨a, len0, cap0, m, n, D, Pl, hcs, _, hl, hm, _⟩
  · simp at hcs
    obtain ⟨_, rfl, rfl⟩ := hcs
    exact ⟨Nat.le_refl _, Nat.zero_le _⟩
  · simp at hcs
    obtain ⟨_, rfl, rfl⟩ := hcs
    exact ⟨hl, hm⟩
set_option maxRecDepth 100000 in
theorem open_bsA {H : Type} {enc : TypeId × Value → H} {W : World} {base : Nat} {v : Value} {d : DataW H} {p : List MemPlace} (hv : Value.okWide Tryd.prog W .any base 23 v)
    (h : DataW.Trod enc Tryd.prog W 0 (fun _ => true) true 23 v d p) : ∃ l, Bs W v l := by
  obtain ⟨a0, len0, cap0, rfl⟩ := okWide_slice Tryd.underlying23 hv
  obtain ⟨fuel, hf⟩ := h
  rcases open_ints Tryd.underlying23 Tryd.underlying5 cellsTB hf with ⟨hcs, _⟩ | ⟨x, l, c, zs, hcs, _, hl, hm, hz, _, hcell, hwz⟩
  · simp [Value.cells] at hcs
    obtain ⟨rfl, rfl, rfl⟩ := hcs
    exact ⟨[], Bs.nil W⟩
  · simp [Value.cells] at hcs
    obtain ⟨rfl, rfl, rfl⟩ := hcs
    exact ⟨_, bs_of_row hl hm (by simpa using hz) hcell hwz⟩
theorem i64_boundsA {n : Int} (h : (Lit.int .i64 n).wf = true) : -9223372036854775808 ≤ n ∧ n ≤ 9223372036854775807 := i64_boundsk h
theorem gTabA : Tryd.prog.globalNamed "annals/wire.halves" = some 2 := by kernel_rfl
theorem gTabTypeA : (Tryd.prog.globals[2]?).map (·.type) = some 97 := by kernel_rfl
theorem cellsTAA : Tryd.prog.cellsOf 97 = 16 := by kernel_rfl
theorem cellsTWA : Tryd.prog.cellsOf 78 = 1 := by kernel_rfl
theorem halves_of {W : World} {l : List (String × DataW Unit)} (h : laidMet Tryd.prog l W) (hm : ("annals/wire.halves", Rows.laid_annals_wire_halves) ∈ l) : Tab W := by
  obtain ⟨g', t', cs, fuel, p, hg', ht', hvar, hd⟩ := Lib.laidMet.reads h hm
  obtain rfl := Option.some.inj (gTabA.symm.trans hg')
  obtain rfl := Option.some.inj (gTabTypeA.symm.trans ht')
  have ht : Lib.TabIs Tryd.prog W "annals/wire.halves" .u32 [0, 498536548, 997073096, 651767980, 1994146192, 1802195444, 1303535960, 1342533948, 3988292384, 4027552580, 3604390888, 3412177804, 2607071920, 2262029012, 2685067896, 3183342108] := by
    unfold Lib.TabIs
    rw [hvar, ← Lib.cells_of_tab Tryd.underlying97 Tryd.underlying78 cellsTWA cellsTAA hd]
  intro i hi
  rw [ht.cell gTabA i (by simpa using hi)]
  have key : ∀ i, i < 16 → ([0, 498536548, 997073096, 651767980, 1994146192, 1802195444, 1303535960, 1342533948, 3988292384, 4027552580, 3604390888, 3412177804, 2607071920, 2262029012, 2685067896, 3183342108] : List Int).getD i 0 = ((Wm.tab.getD i 0 : Nat) : Int) := by decide
  rw [key i hi]
/-- For the witness: the table's block holds what its initialiser lays. -/
def lay_halves : Obj → Obj
  | .cells _ t frozen => .cells #[.int .u32 0, .int .u32 498536548, .int .u32 997073096, .int .u32 651767980, .int .u32 1994146192, .int .u32 1802195444, .int .u32 1303535960, .int .u32 1342533948, .int .u32 3988292384, .int .u32 4027552580, .int .u32 3604390888, .int .u32 3412177804, .int .u32 2607071920, .int .u32 2262029012, .int .u32 2685067896, .int .u32 3183342108] t frozen
  | o => o
end Go.Proofs.YtlpfdjfneipgiaaDoor
