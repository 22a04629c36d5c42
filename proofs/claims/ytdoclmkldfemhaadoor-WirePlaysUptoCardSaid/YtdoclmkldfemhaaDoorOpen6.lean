/-
  The arguments: scripts, where what is read is of a bounded bulk.
-/
import Derived.Test.YtdoclmkldfemhaaDoorOpen3
import Derived.Test.YtdoclmkldfemhaaDoorOpen5
import Derived.Test.YtdoclmkldfemhaaDoorUpToU
namespace Go.Proofs.YtdoclmkldfemhaaDoor
open Go.ChangeShapes Go.WideShapes Go.ChangeAt Go.RowKit
open Wb

theorem bulk_mem {H : Type} : ∀ {l : List (DataW H)} {d : DataW H}, d ∈ l → Rows.uptoBulk d ≤ Rows.uptoBulkAll l
  | x :: r, d, hd => by
    simp only [Rows.uptoBulkAll]
    rcases List.mem_cons.1 hd with rfl | h
    · omega
    · have := bulk_mem h
      omega
theorem len_flat : ∀ (ls : List (List Nat)) (j : Nat) (h : j < ls.length), ls[j].length ≤ ls.flatten.length
  | x :: r, 0, _ => by simp
  | x :: r, j + 1, h => by
    have := len_flat r j (by simpa using h)
    simp only [List.getElem_cons_succ, List.flatten_cons, List.length_append]
    omega
theorem open_bsfu {H : Type} {enc : TypeId × Value → H} {W : World} {fuel : Nat} {v : Value} {x : DataW H × List MemPlace}
    (hf : DataW.trod enc Tryd.prog W 0 (fun _ => true) true fuel 23 [v] = some x) : ∃ l, Bs W v l ∧ l.length ≤ Rows.uptoBulk x.1 := by
  obtain ⟨d, p⟩ := x
  rcases open_ints Tryd.underlying23 Tryd.underlying5 cellsTB hf with ⟨hcs, _⟩ | ⟨xx, l, c, zs, hcs, _, hl, hm, hz, hx, hcell, hwz⟩
  · simp at hcs
    subst hcs
    exact ⟨[], Bs.nil W, Nat.zero_le _⟩
  · simp at hcs
    subst hcs
    simp only [Prod.mk.injEq] at hx
    refine ⟨_, bs_of_row hl hm (by simpa using hz) hcell hwz, ?_⟩
    rw [hx.1]
    have h1 := bulk_length (lits (H := H) .u8 (zs.take l))
    simp only [Rows.uptoBulk]
    simp only [lits, List.length_map] at h1 ⊢
    omega

theorem open_psfu {H : Type} {enc : TypeId × Value → H} {W : World} {fuel : Nat} {v : Value} {x : DataW H × List MemPlace}
    (hf : DataW.trod enc Tryd.prog W 0 (fun _ => true) true fuel 25 [v] = some x) : ∃ ls, Ps W v ls ∧ ls.flatten.length ≤ Rows.uptoBulk x.1 := by
  obtain ⟨d, p⟩ := x
  rcases Deep.open_int_rows Tryd.underlying25 Tryd.underlying23 Tryd.underlying5 cellsTS cellsTB hf with ⟨hcs, _⟩ | ⟨a, len, cap, A, L, C, Z, hcs, _, hl, hm, hx, hrow⟩
  · simp at hcs
    subst hcs
    refine ⟨[], ⟨none, 0, rfl, by simp [maxLen], fun e => absurd rfl e⟩, Nat.zero_le _⟩
  · simp at hcs
    subst hcs
    simp only [Prod.mk.injEq] at hx
    refine ⟨(List.range len).map fun r => ((Z r).take (L r)).map Int.toNat, ⟨some a, cap, by simp, by simp; omega, fun hne => ?_⟩, ?_⟩
    · have hpos : 0 < len := by have := List.length_pos_iff.2 hne; simpa using this
      obtain ⟨b, off, spot⟩ := a
      have hspot : spot = none := by simpa [Addr.add] using World.cell?_spot (hrow 0 (by omega)).1
      subst hspot
      refine ⟨b, off, rfl, fun j hj => ?_⟩
      simp only [List.length_map, List.length_range] at hj
      obtain ⟨h1, h2, h3, h4, h5, h6, h7⟩ := hrow j (by omega)
      refine ⟨.slice (A j) (L j) (C j), by rw [← Go.WideShapes.add_plain]; exact h1, ?_⟩
      simp only [List.getElem_map, List.getElem_range]
      cases hA : A j with
      | none =>
        have hc := h6 hA
        have hz : Z j = [] := List.eq_nil_of_length_eq_zero (by omega)
        have hl0 : L j = 0 := by omega
        rw [hz, hl0, hc]
        exact Bs.nil W
      | some a' =>
        exact bs_of_row h2 h3 h4 (fun i hi => (h7 a' hA).2 i (by omega)) h5
    · rw [hx.1]
      have h1 := bulk_flat (fun r => ((Z r).take (L r)).map Int.toNat) (fun r => Deep.intRow (H := H) .u8 (A r) (L r) (Z r)) (List.range len) (fun r hr => by
        have hr' := List.mem_range.1 hr
        obtain ⟨_, h2, h3, h4, h5, h6, h7⟩ := hrow r (by omega)
        unfold Deep.intRow
        cases hA : A r with
        | none =>
          have hc := h6 hA
          have hz : Z r = [] := List.eq_nil_of_length_eq_zero (by omega)
          rw [hz]
          simp
        | some a' =>
          have h8 := bulk_length (lits (H := H) .u8 ((Z r).take (L r)))
          simp only [Rows.uptoBulk]
          simp only [lits, List.length_map] at h8 ⊢
          omega)
      simp only [Rows.uptoBulk]
      omega

theorem open_scriptu {H : Type} {enc : TypeId × Value → H} {W : World} {base : Nat} {v : Value} {d : DataW H} {p : List MemPlace} (hv : Value.okWide Tryd.prog W .any base 22 v)
    (h : DataW.Trod enc Tryd.prog W 0 (fun _ => true) true 22 v d p) (hw : Rows.uptoBulk d ≤ 1048576) : ∃ n, ScriptU W v n := by
  obtain ⟨a0, len0, cap0, rfl⟩ := okWide_slice Tryd.underlying22 hv
  obtain ⟨fuel, hf⟩ := h
  rcases Deep.open_slice Tryd.underlying22 hf with ⟨hcs, _⟩ | ⟨a, len, cap, m, n, D, Pl, hcs, _, hl, hm, hmm, hx, hel⟩
  · simp [Value.cells] at hcs
    obtain ⟨rfl, rfl, rfl⟩ := hcs
    exact ⟨0, none, 0, rfl, by simp [maxLen], fun k hk => absurd hk (Nat.not_lt_zero _)⟩
  · simp [Value.cells] at hcs
    obtain ⟨rfl, rfl, rfl⟩ := hcs
    simp only [Prod.mk.injEq] at hx
    refine ⟨len0, some a, cap0, rfl, by omega, fun k hk => ?_⟩
    have hkm : k < m := by rw [hmm]; simp; omega
    have hspot : a.spot = none := by
      obtain ⟨cs0, h10, _⟩ := hel 0 (by omega)
      rw [cellsOP] at h10
      obtain ⟨_, hl0, hc0⟩ := World.cells?_some h10
      have r0 := hc0 0 (by omega)
      rw [List.getElem?_eq_getElem (show 0 < cs0.length by omega)] at r0
      simpa [Addr.add] using World.cell?_spot r0
    obtain ⟨cs', h1, h2⟩ := hel k hkm
    have hwk : Rows.uptoBulk (D k) ≤ 1048576 := by
      rw [hx.1] at hw
      simp only [Rows.uptoBulk] at hw
      have := bulk_mem (l := (List.range len0).map D) (d := D k) (List.mem_map.2 ⟨k, List.mem_range.2 hk, rfl⟩)
      omega
    rw [cellsOP] at h1
    obtain ⟨_, hlen, hcell⟩ := World.cells?_some h1
    obtain ⟨xs, k', _, hxy, _, hxl, hfs⟩ := DataW.trod_struct Tryd.underlying27 h2
    match xs, hxl, cs', hlen with
    | [y0, y1, y2, y3, y4, y5, y6], _, [v0, v1, v2, v3, v4, v5, v6], _ =>
      have g0 := hfs 0 _ rfl
      have g1 := hfs 1 _ rfl
      have g2 := hfs 2 _ rfl
      have g3 := hfs 3 _ rfl
      have g4 := hfs 4 _ rfl
      have g5 := hfs 5 _ rfl
      have g6 := hfs 6 _ rfl
      simp [cellsTI, cellsTU, cellsTJ, cellsTS4, cellsTSS] at g0 g1 g2 g3 g4 g5 g6
      simp only [Prod.mk.injEq] at hxy
      have hw56 : Rows.uptoBulk y5.1 ≤ 1048576 ∧ Rows.uptoBulk y6.1 ≤ 1048576 := by
        rw [hxy.1] at hwk
        simp only [Rows.uptoBulk, Rows.uptoBulkAll, List.map_cons, List.map_nil] at hwk
        omega
      obtain ⟨z0, e0, _⟩ := DataW.trod_int Tryd.underlying3 g0
      obtain ⟨z1, e1, _, f1⟩ := DataW.trod_int Tryd.underlying24 g1
      obtain ⟨z2, e2, _, f2⟩ := DataW.trod_int Tryd.underlying2 g2
      obtain ⟨z3, e3, _, f3⟩ := DataW.trod_int Tryd.underlying3 g3
      obtain ⟨z4, e4, _, f4⟩ := DataW.trod_int Tryd.underlying3 g4
      obtain ⟨l, hb, hbl⟩ := open_bsfu g5
      obtain ⟨ls, hp, hpl⟩ := open_psfu g6
      simp only [List.cons.injEq, and_true] at e0 e1 e2 e3 e4
      subst e0 e1 e2 e3 e4
      obtain ⟨b, off, spot⟩ := a
      obtain rfl : spot = none := hspot
      have rr : ∀ j, j < 7 → W.cell? ⟨b, off + k * 7 + j, none⟩ = [Value.int .i64 z0, .int .u64 z1, .int .i64 z2, .int .i64 z3, .int .i64 z4, v5, v6][j]? := fun j hj => by
        have := hcell j hj
        rw [Deep.add_add, Go.WideShapes.add_plain, ← Nat.add_assoc] at this
        exact this
      exact ⟨b, off, z0, z1, z2, z3, z4, v5, v6, l, ls, rfl, ⟨rr 0 (by omega), rr 1 (by omega), rr 2 (by omega), rr 3 (by omega), rr 4 (by omega), rr 5 (by omega), rr 6 (by omega), hb, hp, by omega, fun j hj => by have := len_flat ls j hj; omega, f1, f2, f3, f4⟩, by omega⟩
end Go.Proofs.YtdoclmkldfemhaaDoor
