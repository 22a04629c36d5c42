/-
  The arguments where what is read is of a bounded bulk: byte strings, and slices of them.
-/
import Derived.Test.YtdoclmkldfemhaaDoorOpen
import Derived.Deep.Matrix
namespace Go.Proofs.YtdoclmkldfemhaaDoor
open Go.ChangeShapes Go.WideShapes Go.ChangeAt Go.RowKit
open Wb

theorem bulk_one {H : Type} (d : DataW H) : 1 ≤ Rows.uptoBulk d := by
  cases d with
  | lit l => cases l <;> simp [Rows.uptoBulk]
  | nil => simp [Rows.uptoBulk]
  | ptr d => simp [Rows.uptoBulk]
  | slice elems spare => simp [Rows.uptoBulk]
  | agg parts => simp [Rows.uptoBulk]
  | iface t d => simp [Rows.uptoBulk]
  | map entries => simp [Rows.uptoBulk]
  | held h => simp [Rows.uptoBulk]
theorem bulk_length {H : Type} (l : List (DataW H)) : l.length ≤ Rows.uptoBulkAll l := by
  induction l with
  | nil => simp [Rows.uptoBulkAll]
  | cons x r ih => have := bulk_one x; simp only [Rows.uptoBulkAll, List.length_cons]; omega
theorem bulk_flat {H : Type} (F : Nat → List Nat) (D : Nat → DataW H) : ∀ rs : List Nat, (∀ r ∈ rs, (F r).length ≤ Rows.uptoBulk (D r)) → ((rs.map F).flatten).length ≤ Rows.uptoBulkAll (rs.map D)
  | [], _ => Nat.zero_le _
  | r :: rs, h => by
    have h1 := h r (by simp)
    have h2 := bulk_flat F D rs (fun x hx => h x (by simp [hx]))
    simp only [List.map_cons, List.flatten_cons, List.length_append, Rows.uptoBulkAll]
    omega

theorem open_bsu {H : Type} {enc : TypeId × Value → H} {W : World} {base : Nat} {v : Value} {d : DataW H} {p : List MemPlace} (hv : Value.okWide Tryd.prog W .any base 23 v)
    (h : DataW.Trod enc Tryd.prog W 0 (fun _ => true) true 23 v d p) : ∃ l, Bs W v l ∧ l.length ≤ Rows.uptoBulk d := by
  obtain ⟨a0, len0, cap0, rfl⟩ := okWide_slice Tryd.underlying23 hv
  obtain ⟨fuel, hf⟩ := h
  rcases open_ints Tryd.underlying23 Tryd.underlying5 cellsTB hf with ⟨hcs, _⟩ | ⟨x, l, c, zs, hcs, _, hl, hm, hz, hx, hcell, hwz⟩
  · simp [Value.cells] at hcs
    obtain ⟨rfl, rfl, rfl⟩ := hcs
    exact ⟨[], Bs.nil W, Nat.zero_le _⟩
  · simp [Value.cells] at hcs
    obtain ⟨rfl, rfl, rfl⟩ := hcs
    simp only [Prod.mk.injEq] at hx
    refine ⟨_, bs_of_row hl hm (by simpa using hz) hcell hwz, ?_⟩
    rw [hx.1]
    have h1 := bulk_length (lits (H := H) .u8 (zs.take len0))
    simp only [Rows.uptoBulk]
    simp only [lits, List.length_map] at h1 ⊢
    omega

theorem cellsTS : Tryd.prog.cellsOf 23 = 1 := by kernel_rfl
theorem open_psu {H : Type} {enc : TypeId × Value → H} {W : World} {base : Nat} {v : Value} {d : DataW H} {p : List MemPlace} (hv : Value.okWide Tryd.prog W .any base 25 v)
    (h : DataW.Trod enc Tryd.prog W 0 (fun _ => true) true 25 v d p) : ∃ ls, Ps W v ls ∧ ls.flatten.length ≤ Rows.uptoBulk d ∧ ∀ ao n cap, v = .slice ao n cap → n ≤ cap := by
  obtain ⟨a0, len0, cap0, rfl⟩ := okWide_slice Tryd.underlying25 hv
  obtain ⟨fuel, hf⟩ := h
  rcases Deep.open_int_rows Tryd.underlying25 Tryd.underlying23 Tryd.underlying5 cellsTS cellsTB hf with ⟨hcs, _⟩ | ⟨a, len, cap, A, L, C, Z, hcs, _, hl, hm, hx, hrow⟩
  · simp [Value.cells] at hcs
    obtain ⟨rfl, rfl, rfl⟩ := hcs
    refine ⟨[], ⟨none, 0, rfl, by simp [maxLen], fun e => absurd rfl e⟩, Nat.zero_le _, fun ao n cap e => ?_⟩
    simp at e
    omega
  · simp [Value.cells] at hcs
    obtain ⟨rfl, rfl, rfl⟩ := hcs
    simp only [Prod.mk.injEq] at hx
    refine ⟨(List.range len0).map fun r => ((Z r).take (L r)).map Int.toNat, ⟨some a, cap0, by simp, by simp; omega, fun hne => ?_⟩, ?_, fun ao n cap e => ?_⟩
    · have hpos : 0 < len0 := by have := List.length_pos_iff.2 hne; simpa using this
      obtain ⟨b, off, spot⟩ := a
      have hspot : spot = none := by simpa [Addr.add] using World.cell?_spot (hrow 0 (by omega)).1
      subst hspot
      refine ⟨b, off, rfl, fun j hj => ?_⟩
      simp only [List.length_map, List.length_range] at hj
      obtain ⟨h1, h2, h3, h4, h5, h6, h7⟩ := hrow j (by omega)
      refine ⟨.slice (A j) (L j) (C j), by rw [← Go.WideShapes.add_plain]; exact h1, ?_⟩
      simp only [List.getElem_map, List.getElem_range]
      cases hA : A j with
      | none =>
        have hc := h6 hA
        have hz : Z j = [] := List.eq_nil_of_length_eq_zero (by omega)
        have hl0 : L j = 0 := by omega
        rw [hz, hl0, hc]
        exact Bs.nil W
      | some a' =>
        exact bs_of_row h2 h3 h4 (fun i hi => (h7 a' hA).2 i (by omega)) h5
    · rw [hx.1]
      have h1 := bulk_flat (fun r => ((Z r).take (L r)).map Int.toNat) (fun r => Deep.intRow (H := H) .u8 (A r) (L r) (Z r)) (List.range len0) (fun r hr => by
        have hr' := List.mem_range.1 hr
        obtain ⟨_, h2, h3, h4, h5, h6, h7⟩ := hrow r (by omega)
        unfold Deep.intRow
        cases hA : A r with
        | none =>
          have hc := h6 hA
          have hz : Z r = [] := List.eq_nil_of_length_eq_zero (by omega)
          rw [hz]
          simp
        | some a' =>
          have h8 := bulk_length (lits (H := H) .u8 ((Z r).take (L r)))
          simp only [Rows.uptoBulk]
          simp only [lits, List.length_map] at h8 ⊢
          omega)
      simp only [Rows.uptoBulk]
      omega
    · simp only [Value.slice.injEq] at e
      omega
end Go.Proofs.YtdoclmkldfemhaaDoor
