/-
  The arguments: scripts.
-/
import Derived.Test.YtdoclmkldfemhaaDoorOpen2
import Derived.Test.YtdoclmkldfemhaaDoorUpTo2
import Derived.Deep.Matrix
namespace Go.Proofs.YtdoclmkldfemhaaDoor
open Go.ChangeShapes Go.WideShapes Go.ChangeAt Go.RowKit
open Wb

theorem reachIs : reachBytes ≤ 140737488355000 := by decide
theorem cellsTS4 : Tryd.prog.cellsOf 23 = 1 := by kernel_rfl
theorem cellsOP : Tryd.prog.cellsOf 27 = 7 := by kernel_rfl
theorem cellsTI : Tryd.prog.cellsOf 3 = 1 := by kernel_rfl
theorem cellsTU : Tryd.prog.cellsOf 24 = 1 := by kernel_rfl
theorem cellsTJ : Tryd.prog.cellsOf 2 = 1 := by kernel_rfl
theorem cellsTSS : Tryd.prog.cellsOf 25 = 1 := by kernel_rfl

theorem weightsAll_mem {H : Type} {P : Program} {e : TypeId} : ∀ {l : List (DataW H)} {d : DataW H} {n : Nat}, d ∈ l → n ∈ d.weights P e → n ∈ DataW.weightsAll P e l
  | x :: r, d, n, hd, hn => by
    simp only [DataW.weightsAll, List.mem_append]
    rcases List.mem_cons.1 hd with rfl | h
    · exact .inl hn
    · exact .inr (weightsAll_mem h hn)

theorem open_bsf {H : Type} {enc : TypeId × Value → H} {W : World} {fuel : Nat} {v : Value} {x : DataW H × List MemPlace}
    (h : DataW.trod enc Tryd.prog W 0 (fun _ => true) true fuel 23 [v] = some x) (hw : ∀ n ∈ x.1.weights Tryd.prog 23, n ≤ reachBytes) : ∃ l, Bs W v l ∧ l.length ≤ 140737488355000 := by
  obtain ⟨d, p⟩ := x
  rcases open_ints Tryd.underlying23 Tryd.underlying5 cellsTB h with ⟨hcs, _⟩ | ⟨xx, l, c, zs, hcs, _, hl, hm, hz, hx, hcell, hwz⟩
  · simp at hcs
    subst hcs
    exact ⟨[], Bs.nil W, Nat.zero_le _⟩
  · simp at hcs
    subst hcs
    simp only [Prod.mk.injEq] at hx
    have hr := reachIs
    refine ⟨_, bs_of_row hl hm (by simpa using hz) hcell hwz, ?_⟩
    have h1 := hw (((lits (H := H) .u8 (zs.take l)).length + (lits (H := H) .u8 (zs.drop l)).length) * Tryd.prog.bytesOf 5) (by rw [hx.1]; simp [DataW.weights, Tryd.underlying23])
    rw [bytesTB] at h1
    simp only [lits, List.length_map, List.length_take, List.length_drop] at h1
    simp at hz ⊢
    omega

theorem open_psf {H : Type} {enc : TypeId × Value → H} {W : World} {fuel : Nat} {v : Value} {x : DataW H × List MemPlace}
    (h : DataW.trod enc Tryd.prog W 0 (fun _ => true) true fuel 25 [v] = some x) (hw : ∀ n ∈ x.1.weights Tryd.prog 25, n ≤ reachBytes) : ∃ ls, Ps W v ls ∧ ∀ j (h : j < ls.length), ls[j].length ≤ 140737488355328 := by
  obtain ⟨d, p⟩ := x
  have hr := reachIs
  rcases Deep.open_int_rows Tryd.underlying25 Tryd.underlying23 Tryd.underlying5 cellsTS4 cellsTB h with ⟨hcs, _⟩ | ⟨a, len, cap, A, L, C, Z, hcs, _, hl, hm, hx, hrow⟩
  · simp at hcs
    subst hcs
    exact ⟨[], ⟨none, 0, rfl, by simp [maxLen], fun e => absurd rfl e⟩, fun j h => absurd h (Nat.not_lt_zero _)⟩
  · simp at hcs
    subst hcs
    simp only [Prod.mk.injEq] at hx
    refine ⟨(List.range len).map fun r => ((Z r).take (L r)).map Int.toNat, ⟨some a, cap, by simp, by simp; omega, fun hne => ?_⟩, fun j hj => ?_⟩
    · have hpos : 0 < len := by have := List.length_pos_iff.2 hne; simpa using this
      obtain ⟨b, off, spot⟩ := a
      have hspot : spot = none := by simpa [Addr.add] using World.cell?_spot (hrow 0 (by omega)).1
      subst hspot
      refine ⟨b, off, rfl, fun j hj => ?_⟩
      simp only [List.length_map, List.length_range] at hj
      obtain ⟨h1, h2, h3, h4, h5, h6, h7⟩ := hrow j (by omega)
      refine ⟨.slice (A j) (L j) (C j), by rw [← Go.WideShapes.add_plain]; exact h1, ?_⟩
      simp only [List.getElem_map, List.getElem_range]
      cases hA : A j with
      | none =>
        have hc := h6 hA
        have hz : Z j = [] := List.eq_nil_of_length_eq_zero (by omega)
        have hl0 : L j = 0 := by omega
        rw [hz, hl0, hc]
        exact Bs.nil W
      | some a' =>
        exact bs_of_row h2 h3 h4 (fun i hi => (h7 a' hA).2 i (by omega)) h5
    · simp only [List.length_map, List.length_range] at hj
      obtain ⟨h1, h2, h3, h4, h5, h6, h7⟩ := hrow j (by omega)
      simp only [List.getElem_map, List.getElem_range, List.length_map, List.length_take]
      cases hA : A j with
      | none =>
        have hc := h6 hA
        omega
      | some a' =>
        have h8 := hw (((lits (H := H) .u8 ((Z j).take (L j))).length + (lits (H := H) .u8 ((Z j).drop (L j))).length) * Tryd.prog.bytesOf 5) (by
          rw [hx.1]
          simp only [DataW.weights, Tryd.underlying25, List.mem_cons, List.mem_append]
          refine .inr (.inl (weightsAll_mem (List.mem_map.2 ⟨j, List.mem_range.2 hj, rfl⟩) ?_))
          simp [Deep.intRow, hA, DataW.weights, Tryd.underlying23])
        rw [bytesTB] at h8
        simp only [lits, List.length_map, List.length_take, List.length_drop] at h8
        omega

theorem open_script {H : Type} {enc : TypeId × Value → H} {W : World} {base : Nat} {v : Value} {d : DataW H} {p : List MemPlace} (hv : Value.okWide Tryd.prog W .any base 22 v)
    (h : DataW.Trod enc Tryd.prog W 0 (fun _ => true) true 22 v d p) (hw : ∀ n ∈ d.weights Tryd.prog 22, n ≤ reachBytes) : ∃ n, Script W v n := by
  obtain ⟨a0, len0, cap0, rfl⟩ := okWide_slice Tryd.underlying22 hv
  obtain ⟨fuel, hf⟩ := h
  rcases Deep.open_slice Tryd.underlying22 hf with ⟨hcs, _⟩ | ⟨a, len, cap, m, n, D, Pl, hcs, _, hl, hm, hmm, hx, hel⟩
  · simp [Value.cells] at hcs
    obtain ⟨rfl, rfl, rfl⟩ := hcs
    exact ⟨0, none, 0, rfl, by simp [maxLen], fun k hk => absurd hk (Nat.not_lt_zero _)⟩
  · simp [Value.cells] at hcs
    obtain ⟨rfl, rfl, rfl⟩ := hcs
    simp only [Prod.mk.injEq] at hx
    refine ⟨len0, some a, cap0, rfl, by omega, fun k hk => ?_⟩
    have hkm : k < m := by rw [hmm]; simp; omega
    have hspot : a.spot = none := by
      obtain ⟨cs0, h10, _⟩ := hel 0 (by omega)
      rw [cellsOP] at h10
      obtain ⟨_, hl0, hc0⟩ := World.cells?_some h10
      have r0 := hc0 0 (by omega)
      rw [List.getElem?_eq_getElem (show 0 < cs0.length by omega)] at r0
      simpa [Addr.add] using World.cell?_spot r0
    obtain ⟨cs', h1, h2⟩ := hel k hkm
    have hwk : ∀ n ∈ (D k).weights Tryd.prog 27, n ≤ reachBytes := fun n hn => hw n (by
      rw [hx.1]
      simp only [DataW.weights, Tryd.underlying22, List.mem_cons, List.mem_append]
      exact .inr (.inl (weightsAll_mem (List.mem_map.2 ⟨k, List.mem_range.2 hk, rfl⟩) hn)))
    rw [cellsOP] at h1
    obtain ⟨_, hlen, hcell⟩ := World.cells?_some h1
    obtain ⟨xs, k', _, hxy, _, hxl, hfs⟩ := DataW.trod_struct Tryd.underlying27 h2
    match xs, hxl, cs', hlen with
    | [y0, y1, y2, y3, y4, y5, y6], _, [v0, v1, v2, v3, v4, v5, v6], _ =>
      have g0 := hfs 0 _ rfl
      have g1 := hfs 1 _ rfl
      have g2 := hfs 2 _ rfl
      have g3 := hfs 3 _ rfl
      have g4 := hfs 4 _ rfl
      have g5 := hfs 5 _ rfl
      have g6 := hfs 6 _ rfl
      simp [cellsTI, cellsTU, cellsTJ, cellsTS4, cellsTSS] at g0 g1 g2 g3 g4 g5 g6
      simp only [Prod.mk.injEq] at hxy
      have hw5 : ∀ n ∈ y5.1.weights Tryd.prog 23, n ≤ reachBytes := fun n hn => hwk n (by
        rw [hxy.1]
        simp [DataW.weights, Tryd.underlying27, DataW.weightsEach, hn])
      have hw6 : ∀ n ∈ y6.1.weights Tryd.prog 25, n ≤ reachBytes := fun n hn => hwk n (by
        rw [hxy.1]
        simp [DataW.weights, Tryd.underlying27, DataW.weightsEach, hn])
      obtain ⟨z0, e0, _⟩ := DataW.trod_int Tryd.underlying3 g0
      obtain ⟨z1, e1, _, f1⟩ := DataW.trod_int Tryd.underlying24 g1
      obtain ⟨z2, e2, _, f2⟩ := DataW.trod_int Tryd.underlying2 g2
      obtain ⟨z3, e3, _, f3⟩ := DataW.trod_int Tryd.underlying3 g3
      obtain ⟨z4, e4, _, f4⟩ := DataW.trod_int Tryd.underlying3 g4
      obtain ⟨l, hb, hbl⟩ := open_bsf g5 hw5
      obtain ⟨ls, hp, hpl⟩ := open_psf g6 hw6
      simp only [List.cons.injEq, and_true] at e0 e1 e2 e3 e4
      subst e0 e1 e2 e3 e4
      obtain ⟨b, off, spot⟩ := a
      obtain rfl : spot = none := hspot
      have rr : ∀ j, j < 7 → W.cell? ⟨b, off + k * 7 + j, none⟩ = [Value.int .i64 z0, .int .u64 z1, .int .i64 z2, .int .i64 z3, .int .i64 z4, v5, v6][j]? := fun j hj => by
        have := hcell j hj
        rw [Deep.add_add, Go.WideShapes.add_plain, ← Nat.add_assoc] at this
        exact this
      exact ⟨b, off, z0, z1, z2, z3, z4, v5, v6, l, ls, rfl, ⟨rr 0 (by omega), rr 1 (by omega), rr 2 (by omega), rr 3 (by omega), rr 4 (by omega), rr 5 (by omega), rr 6 (by omega), hb, hp, hbl, hpl, f1, f2, f3, f4⟩⟩
end Go.Proofs.YtdoclmkldfemhaaDoor
