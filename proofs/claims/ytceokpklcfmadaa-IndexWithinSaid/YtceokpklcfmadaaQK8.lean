import Derived.Test.YtceokpklcfmadaaQIC
import Derived.Test.YtceokpklcfmadaaQK6
/-
  Package index: a list of acts among the arguments.
-/
namespace Go.Proofs.Ytceokpklcfmadaa
open Go.ChangeShapes Go.WideShapes Go.ChangeAt Go.RowKit
open Wb

instance : Inhabited Ac5 := ⟨⟨0, 0, 0, 0, 0⟩⟩
theorem cellsTA5 : Try.prog.cellsOf 85 = 5 := by kernel_rfl
set_option maxRecDepth 100000 in
theorem open_five5 {H : Type} {enc : TypeId × Value → H} {W : World} {fuel : Nat} {cs : List Value} {d : DataW H} {p : List MemPlace} (hf : DataW.trod enc Try.prog W 0 (fun _ => true) true fuel 85 cs = some (d, p)) (hlen : cs.length = 5) :
    ∃ q : Ac5, cs = [.int .i64 q.at_, .int .i64 q.kd, .int .i64 q.ky, .int .i64 q.vl, .int .i64 q.sp] ∧ (Lit.int .i64 q.ky).wf = true ∧ (Lit.int .i64 q.vl).wf = true := by
  obtain ⟨xs, k', _, hxy, _, hxl, hfs⟩ := DataW.trod_struct Try.underlying85 hf
  match xs, hxl, cs, hlen with
  | [y0, y1, y2, y3, y4], _, [v0, v1, v2, v3, v4], _ =>
    have g0 := hfs 0 _ rfl
    have g1 := hfs 1 _ rfl
    have g2 := hfs 2 _ rfl
    have g3 := hfs 3 _ rfl
    have g4 := hfs 4 _ rfl
    simp [cellsTI5] at g0 g1 g2 g3 g4
    obtain ⟨z0, e0, _, b0⟩ := DataW.trod_int Try.underlying3 g0
    obtain ⟨z1, e1, _, b1⟩ := DataW.trod_int Try.underlying3 g1
    obtain ⟨z2, e2, _, b2⟩ := DataW.trod_int Try.underlying3 g2
    obtain ⟨z3, e3, _, b3⟩ := DataW.trod_int Try.underlying3 g3
    obtain ⟨z4, e4, _, b4⟩ := DataW.trod_int Try.underlying3 g4
    simp only [List.cons.injEq, and_true] at e0 e1 e2 e3 e4
    exact ⟨⟨z0, z1, z2, z3, z4⟩, by simp only [e0, e1, e2, e3, e4], b2, b3⟩
set_option maxRecDepth 100000 in
theorem open_acts5 {H : Type} {enc : TypeId × Value → H} {W : World} {base : Nat} {v : Value} {d : DataW H} {p : List MemPlace} (hv : Value.okWide Try.prog W .any base 76 v)
    (h : DataW.Trod enc Try.prog W 0 (fun _ => true) true 76 v d p) : ∃ ss, Ax W v ss ∧ ∀ s ∈ ss, (Lit.int .i64 s.ky).wf = true ∧ (Lit.int .i64 s.vl).wf = true := by
  obtain ⟨a0, len0, cap0, rfl⟩ := okWide_slice Try.underlying76 hv
  obtain ⟨fuel, hf⟩ := h
  rcases Deep.open_slice Try.underlying76 hf with ⟨hcs, _⟩ | ⟨a, len, cap, m, n, D, Pl, hcs, _, hl, hm, hmm, hx, hel⟩
  · simp [Value.cells] at hcs
    obtain ⟨rfl, rfl, rfl⟩ := hcs
    exact ⟨[], ⟨none, 0, rfl, by simp, by simp [maxLen], fun e => absurd rfl e⟩, fun x hx => by cases hx⟩
  · simp [Value.cells] at hcs
    obtain ⟨rfl, rfl, rfl⟩ := hcs
    have each : ∀ k, k < len0 → ∃ q : Ac5, ∃ b off, a = ⟨b, off, none⟩ ∧ (W.cell? ⟨b, off + k * 5, none⟩ = some (.int .i64 q.at_) ∧ W.cell? ⟨b, off + k * 5 + 1, none⟩ = some (.int .i64 q.kd) ∧ W.cell? ⟨b, off + k * 5 + 2, none⟩ = some (.int .i64 q.ky) ∧ W.cell? ⟨b, off + k * 5 + 3, none⟩ = some (.int .i64 q.vl) ∧ W.cell? ⟨b, off + k * 5 + 4, none⟩ = some (.int .i64 q.sp)) ∧ (Lit.int .i64 q.ky).wf = true ∧ (Lit.int .i64 q.vl).wf = true := fun k hk => by
      have hkm : k < m := by rw [hmm]; simp; omega
      obtain ⟨cs', h1, h2⟩ := hel k hkm
      rw [cellsTA5] at h1
      obtain ⟨_, hlen, hcell⟩ := World.cells?_some h1
      obtain ⟨q, rfl, bx, by1⟩ := open_five5 h2 hlen
      have r0 := hcell 0 (by omega)
      have r1 := hcell 1 (by omega)
      have r2 := hcell 2 (by omega)
      have r3 := hcell 3 (by omega)
      have r4 := hcell 4 (by omega)
      rw [Deep.add_add] at r0 r1 r2 r3 r4
      have hspot : a.spot = none := by
        obtain ⟨cs0, h10, _⟩ := hel 0 (by omega)
        rw [cellsTA5] at h10
        obtain ⟨_, hl0, hc0⟩ := World.cells?_some h10
        have r9 := hc0 0 (by omega)
        rw [List.getElem?_eq_getElem (show 0 < cs0.length by omega)] at r9
        simpa [Addr.add] using World.cell?_spot r9
      obtain ⟨b, off, spot⟩ := a
      obtain rfl : spot = none := hspot
      rw [Go.WideShapes.add_plain] at r0 r1 r2 r3 r4
      exact ⟨q, b, off, rfl, ⟨by simpa using r0, by simpa [Nat.add_assoc] using r1, by simpa [Nat.add_assoc] using r2, by simpa [Nat.add_assoc] using r3, by simpa [Nat.add_assoc] using r4⟩, bx, by1⟩
    obtain ⟨q, hq⟩ := Deep.choose_lt each
    have hql : ((List.range len0).map q).length = len0 := by simp
    refine ⟨(List.range len0).map q, ⟨some a, cap0, by rw [hql], by rw [hql]; exact hl, hm, fun hne => ?_⟩, fun x hx => ?_⟩
    · have hpos : 0 < len0 := by
        rw [← hql]
        exact List.length_pos_iff.2 hne
      obtain ⟨b, off, rfl, -⟩ := hq 0 hpos
      refine ⟨b, off, rfl, fun j hj => ?_⟩
      rw [hql] at hj
      obtain ⟨b2, off2, e, c0, -⟩ := hq j hj
      simp only [Addr.mk.injEq, and_true] at e
      obtain ⟨rfl, rfl⟩ := e
      simp only [List.getElem_map, List.getElem_range]
      exact c0
    · obtain ⟨j, hj, rfl⟩ := List.mem_map.1 hx
      obtain ⟨_, _, _, _, b0, b1⟩ := hq j (List.mem_range.1 hj)
      exact ⟨b0, b1⟩
end Go.Proofs.Ytceokpklcfmadaa
