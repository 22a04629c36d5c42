/-
  WireOwn, WireLent: the arguments.
-/
import Derived.Test.YtppgijgmhjfdfaaDoorOpen2
import Derived.Test.YtppgijgmhjfdfaaDoorWo5
import Derived.Deep.Matrix
namespace Go.Proofs.YtppgijgmhjfdfaaDoor
open Go.ChangeShapes Go.WideShapes Go.ChangeAt Go.RowKit
open Wb

theorem reachIs : reachBytes ≤ 140737488355000 := by decide
theorem cellsTS4 : Tryd.prog.cellsOf 25 = 1 := by kernel_rfl
theorem weightsAll_mem {H : Type} {P : Program} {e : TypeId} : ∀ {l : List (DataW H)} {d : DataW H} {n : Nat}, d ∈ l → n ∈ d.weights P e → n ∈ DataW.weightsAll P e l
  | x :: r, d, n, hd, hn => by
    simp only [DataW.weightsAll, List.mem_append]
    rcases List.mem_cons.1 hd with rfl | h
    · exact .inl hn
    · exact .inr (weightsAll_mem h hn)

theorem open_psf {H : Type} {enc : TypeId × Value → H} {W : World} {fuel : Nat} {v : Value} {x : DataW H × List MemPlace}
    (h : DataW.trod enc Tryd.prog W 0 (fun _ => true) true fuel 23 [v] = some x) (hw : ∀ n ∈ x.1.weights Tryd.prog 23, n ≤ reachBytes) : ∃ ls, Ps W v ls ∧ ∀ j (h : j < ls.length), ls[j].length ≤ 140737488355328 := by
  obtain ⟨d, p⟩ := x
  have hr := reachIs
  rcases Deep.open_int_rows Tryd.underlying23 Tryd.underlying25 Tryd.underlying5 cellsTS4 cellsTB h with ⟨hcs, _⟩ | ⟨a, len, cap, A, L, C, Z, hcs, _, hl, hm, hx, hrow⟩
  · simp at hcs
    subst hcs
    exact ⟨[], ⟨none, 0, rfl, by simp [maxLen], fun e => absurd rfl e⟩, fun j h => absurd h (Nat.not_lt_zero _)⟩
  · simp at hcs
    subst hcs
    simp only [Prod.mk.injEq] at hx
    refine ⟨(List.range len).map fun r => ((Z r).take (L r)).map Int.toNat, ⟨some a, cap, by simp, by simp; omega, fun hne => ?_⟩, fun j hj => ?_⟩
    · have hpos : 0 < len := by have := List.length_pos_iff.2 hne; simpa using this
      obtain ⟨b, off, spot⟩ := a
      have hspot : spot = none := by simpa [Addr.add] using World.cell?_spot (hrow 0 (by omega)).1
      subst hspot
      refine ⟨b, off, rfl, fun j hj => ?_⟩
      simp only [List.length_map, List.length_range] at hj
      obtain ⟨h1, h2, h3, h4, h5, h6, h7⟩ := hrow j (by omega)
      refine ⟨.slice (A j) (L j) (C j), by rw [← Go.WideShapes.add_plain]; exact h1, ?_⟩
      simp only [List.getElem_map, List.getElem_range]
      cases hA : A j with
      | none =>
        have hc := h6 hA
        have hz : Z j = [] := List.eq_nil_of_length_eq_zero (by omega)
        have hl0 : L j = 0 := by omega
        rw [hz, hl0, hc]
        exact Bs.nil W
      | some a' =>
        exact bs_of_row h2 h3 h4 (fun i hi => (h7 a' hA).2 i (by omega)) h5
    · simp only [List.length_map, List.length_range] at hj
      obtain ⟨h1, h2, h3, h4, h5, h6, h7⟩ := hrow j (by omega)
      simp only [List.getElem_map, List.getElem_range, List.length_map, List.length_take]
      cases hA : A j with
      | none =>
        have hc := h6 hA
        omega
      | some a' =>
        have h8 := hw (((lits (H := H) .u8 ((Z j).take (L j))).length + (lits (H := H) .u8 ((Z j).drop (L j))).length) * Tryd.prog.bytesOf 5) (by
          rw [hx.1]
          simp only [DataW.weights, Tryd.underlying23, List.mem_cons, List.mem_append]
          refine .inr (.inl (weightsAll_mem (List.mem_map.2 ⟨j, List.mem_range.2 hj, rfl⟩) ?_))
          simp [Deep.intRow, hA, DataW.weights, Tryd.underlying25])
        rw [bytesTB] at h8
        simp only [lits, List.length_map, List.length_take, List.length_drop] at h8
        omega


theorem open_psR {H : Type} {enc : TypeId × Value → H} {W : World} {base : Nat} {v : Value} {d : DataW H} {p : List MemPlace} (hv : Value.okWide Tryd.prog W .any base 23 v)
    (h : DataW.Trod enc Tryd.prog W 0 (fun _ => true) true 23 v d p) (hw : ∀ n ∈ d.weights Tryd.prog 23, n ≤ reachBytes) : ∃ ls, Ps W v ls ∧ (∀ j (h : j < ls.length), ls[j].length ≤ 140737488355328) ∧ ∀ ao n cap, v = .slice ao n cap → n ≤ cap := by
  obtain ⟨a0, len0, cap0, rfl⟩ := okWide_slice Tryd.underlying23 hv
  obtain ⟨fuel, hf⟩ := h
  obtain ⟨ls, h1, h2⟩ := open_psf (x := (d, p)) hf hw
  refine ⟨ls, h1, h2, fun ao n cap e => ?_⟩
  rcases Deep.open_int_rows Tryd.underlying23 Tryd.underlying25 Tryd.underlying5 cellsTS4 cellsTB hf with ⟨hcs, _⟩ | ⟨a, len, cap2, A, L, C, Z, hcs, _, hl, hm, hx, hrow⟩
  · simp [Value.cells] at hcs
    simp only [Value.slice.injEq] at e
    omega
  · simp [Value.cells] at hcs
    simp only [Value.slice.injEq] at e
    omega
theorem wireOwn_any (u i : Int) (v : Value) (ls : List (List Nat)) (w : World) (hT : Tab w) (hu : (Lit.int .u64 u).wf = true) (hi : (Lit.int .i64 i).wf = true) (h : Ps w v ls) (hbd : ∀ j (h : j < ls.length), ls[j].length ≤ 140737488355328) (hcap : ∀ ao n cap, v = .slice ao n cap → n ≤ cap) :
    Calls Tryd.prog 3 #[.int .u64 u, .int .i64 i, v] w fun e w' => e = .returned (.bool true) ∧ Below w.heap.size w w' := by
  have e0 : IntKind.u64.min = 0 := by decide
  have e1 : IntKind.u64.max = 18446744073709551615 := by decide
  have e2 : IntKind.i64.min = -9223372036854775808 := by decide
  have e3 : IntKind.i64.max = 9223372036854775807 := by decide
  simp [Lit.wf] at hu hi
  obtain ⟨n, rfl⟩ := Int.eq_ofNat_of_zero_le (show 0 ≤ u by omega)
  exact wown_any n i v ls w hT (by omega) (by omega) (by omega) h hbd hcap
end Go.Proofs.YtppgijgmhjfdfaaDoor
