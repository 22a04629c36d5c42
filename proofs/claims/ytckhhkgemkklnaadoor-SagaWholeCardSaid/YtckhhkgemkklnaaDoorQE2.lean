import Derived.Deep.RegionHeld
import Derived.Test.YtckhhkgemkklnaaDoorQE1
import Derived.Test.YtckhhkgemkklnaaDoorQR3
import Derived.Test.YtckhhkgemkklnaaDoorQR4
/-
  LiftEach: UpAll.
-/
namespace Go.Proofs.YtckhhkgemkklnaaDoor
open Go Go.RowKit
open Wb

/-- a list of records that was handed in -/
def RecsAt (w : World) (v : Value) (rs : List Rec) : Prop := ∃ ao cap, v = .slice ao rs.length cap ∧ rs.length ≤ maxLen ∧ ∀ k r, rs[k]? = some r → ∃ b off d, ao = some ⟨b, off, none⟩ ∧ w.rangeAt b (off + k * 12) (rcl (r, d)) ∧ Bs w d r.l
theorem RecsAt.kept {w w' : World} {v : Value} {rs : List Rec} (h : RecsAt w v rs) (hb : Below w.heap.size w w') : RecsAt w' v rs := by
  obtain ⟨ao, cap, e, hm, hc⟩ := h
  refine ⟨ao, cap, e, hm, fun k r hr => ?_⟩
  obtain ⟨b, off, d, e2, h1, h2⟩ := hc k r hr
  refine ⟨b, off, d, e2, fun j v hv => ?_, h2.kept hb⟩
  have h3 := h1 j v hv
  rw [hb.cell (World.block_lt_of_cell? w _ h3)]
  exact h3
structure RGood (rs : List Rec) : Prop where
  each : ∀ r ∈ rs, r.nm.size ≤ 140737488355000 ∧ r.x.fit
  few : rs.length * 120 ≤ 140737488355328
/-- what UpAll answers -/
def UaPost (to : Int) (rs : List Rec) (w : World) (e : Ending) (w' : World) : Prop := Below w.heap.size w w' ∧
  ((∃ ps v', (∀ r ∈ rs, (upP to r).1 = 0) ∧ e = .returned (.tuple #[v', .int .i64 0, .int .i64 0]) ∧ Outs w.heap.size w' v' ps ∧ ps.map Prod.fst = rs.map fun r => (upP to r).2) ∨
   ∃ k r, rs[k]? = some r ∧ (∀ q ∈ rs.take k, (upP to q).1 = 0) ∧ (upP to r).1 ≠ 0 ∧ e = .returned (.tuple #[.slice none 0 0, .int .i64 (k : Int), .int .i64 (upP to r).1]))
theorem new_range (w : World) (cs : Array Value) : (w.alloc (.cells cs 25)).rangeAt w.heap.size 0 cs.toList := by
  have h : (w.alloc (.cells cs 25)).heap[w.heap.size]? = some (.cells cs 25) := Array.getElem?_push_size
  have h2 := World.rangeAt_of_block h 0 cs.size
  simpa using h2
theorem new_range2 (w : World) (o : Obj) (cs : Array Value) : ((w.alloc o).alloc (.cells cs 25)).rangeAt (w.heap.size + 1) 0 cs.toList := by
  have h2 := World.rangeAt_of_block (heap2 w o (.cells cs 25)).2.1 0 cs.size
  simpa using h2
end Go.Proofs.YtckhhkgemkklnaaDoor

/-
  LiftEach: the law's walk.
-/
namespace Go.Proofs.YtckhhkgemkklnaaDoor
open Go Go.RowKit
open Wb

theorem range_cells {w : World} {g o : Nat} {p : Rec × Value} (h : w.rangeAt g o (rcl p)) : (w.cell? ⟨g, o, none⟩ = some (.int .i64 p.1.x.v) ∧ w.cell? ⟨g, o + 1, none⟩ = some (.int .i64 p.1.x.k) ∧ w.cell? ⟨g, o + 2, none⟩ = some (.int .i64 p.1.x.s) ∧ w.cell? ⟨g, o + 3, none⟩ = some (.int .i64 p.1.x.p) ∧ w.cell? ⟨g, o + 4, none⟩ = some (.int .i64 p.1.x.t) ∧ w.cell? ⟨g, o + 5, none⟩ = some (.int .i64 p.1.x.a) ∧ w.cell? ⟨g, o + 6, none⟩ = some (.int .i64 p.1.x.l) ∧ w.cell? ⟨g, o + 7, none⟩ = some (.int .i64 p.1.x.c) ∧ w.cell? ⟨g, o + 8, none⟩ = some (.int .i64 p.1.x.n) ∧ w.cell? ⟨g, o + 9, none⟩ = some (.int .i64 p.1.x.i) ∧ w.cell? ⟨g, o + 10, none⟩ = some (.string p.1.nm) ∧ w.cell? ⟨g, o + 11, none⟩ = some (p.2)) := ⟨h 0 _ rfl, h 1 _ rfl, h 2 _ rfl, h 3 _ rfl, h 4 _ rfl, h 5 _ rfl, h 6 _ rfl, h 7 _ rfl, h 8 _ rfl, h 9 _ rfl, h 10 _ rfl, h 11 _ rfl⟩
def oneR : Rec := ⟨⟨2, 7, 9, 0, 0, 0, 0, 0, 0, 0⟩, ⟨#[]⟩, []⟩
theorem one_up : upP 3 oneR = (0, ⟨⟨3, 7, 9, 0, 0, 0, 0, 0, 0, 0⟩, ⟨#[]⟩, []⟩) := by kernel_rfl
theorem one_fit : oneR.x.fit := fun t h1 h9 => by
  obtain rfl | rfl | rfl | rfl | rfl | rfl | rfl | rfl | rfl : t = 1 ∨ t = 2 ∨ t = 3 ∨ t = 4 ∨ t = 5 ∨ t = 6 ∨ t = 7 ∨ t = 8 ∨ t = 9 := by omega
  all_goals decide
end Go.Proofs.YtckhhkgemkklnaaDoor

/-
  LiftEach: the argument.
-/
namespace Go.Proofs.YtckhhkgemkklnaaDoor
open Go Go.RowKit Go.ChangeShapes Go.WideShapes Go.ChangeAt
open Wb

theorem cellsTBSe : Tryd.prog.cellsOf 23 = 1 := by kernel_rfl
theorem cellsTIe : Tryd.prog.cellsOf 3 = 1 := by kernel_rfl
theorem cellsTSTRe : Tryd.prog.cellsOf 9 = 1 := by kernel_rfl
theorem cellsRECe : Tryd.prog.cellsOf 25 = 12 := by kernel_rfl
theorem bytesRECe : Tryd.prog.bytesOf 25 = 120 := by kernel_rfl
theorem i64_boundse {n : Int} (h : (Lit.int .i64 n).wf = true) : -9223372036854775808 ≤ n ∧ n ≤ 9223372036854775807 := by
  have e : IntKind.i64.min = -9223372036854775808 := by decide
  simp [Lit.wf] at h
  omega
theorem weightsAll_meme {H : Type} {P : Program} {e : TypeId} : ∀ {l : List (DataW H)} {d : DataW H} {n : Nat}, d ∈ l → n ∈ d.weights P e → n ∈ DataW.weightsAll P e l
  | x :: r, d, n, hd, hn => by
    simp only [DataW.weightsAll, List.mem_append]
    rcases List.mem_cons.1 hd with rfl | h
    · exact .inl hn
    · exact .inr (weightsAll_meme h hn)
set_option maxRecDepth 100000 in
/-- one record's cells -/
theorem open_rece {H : Type} {enc : TypeId × Value → H} {W : World} {fuel : Nat} {vs : List Value} {D : DataW H} {p : List MemPlace} (hf : DataW.trod enc Tryd.prog W 0 (fun _ => true) true fuel 25 vs = some (D, p)) (hlen : vs.length = 12) (hw : ∀ n ∈ D.weights Tryd.prog 25, n ≤ reachBytes) :
    ∃ (r : Rec) (d : Value), vs = rcl (r, d) ∧ Bs W d r.l ∧ r.nm.size ≤ 140737488355000 ∧ r.x.fit := by
  obtain ⟨xs, k', _, hxy, _, hxl, hfs⟩ := DataW.trod_struct Tryd.underlying25 hf
  match xs, hxl, vs, hlen with
  | [y0, y1, y2, y3, y4, y5, y6, y7, y8, y9, y10, y11], _, [v0, v1, v2, v3, v4, v5, v6, v7, v8, v9, v10, v11], _ =>
    have g0 := hfs 0 _ rfl
    have g1 := hfs 1 _ rfl
    have g2 := hfs 2 _ rfl
    have g3 := hfs 3 _ rfl
    have g4 := hfs 4 _ rfl
    have g5 := hfs 5 _ rfl
    have g6 := hfs 6 _ rfl
    have g7 := hfs 7 _ rfl
    have g8 := hfs 8 _ rfl
    have g9 := hfs 9 _ rfl
    have g10 := hfs 10 _ rfl
    have g11 := hfs 11 _ rfl
    simp [cellsTIe, cellsTSTRe, cellsTBSe] at g0 g1 g2 g3 g4 g5 g6 g7 g8 g9 g10 g11
    simp only [Prod.mk.injEq] at hxy
    have hw11 : ∀ n ∈ y11.1.weights Tryd.prog 23, n ≤ reachBytes := fun n hn => hw n (by
      rw [hxy.1]
      simp [DataW.weights, Tryd.underlying25, DataW.weightsEach, hn])
    obtain ⟨z0, e0, _, _⟩ := DataW.trod_int Tryd.underlying3 g0
    obtain ⟨z1, e1, _, b1⟩ := DataW.trod_int Tryd.underlying3 g1
    obtain ⟨z2, e2, _, b2⟩ := DataW.trod_int Tryd.underlying3 g2
    obtain ⟨z3, e3, _, b3⟩ := DataW.trod_int Tryd.underlying3 g3
    obtain ⟨z4, e4, _, b4⟩ := DataW.trod_int Tryd.underlying3 g4
    obtain ⟨z5, e5, _, b5⟩ := DataW.trod_int Tryd.underlying3 g5
    obtain ⟨z6, e6, _, b6⟩ := DataW.trod_int Tryd.underlying3 g6
    obtain ⟨z7, e7, _, b7⟩ := DataW.trod_int Tryd.underlying3 g7
    obtain ⟨z8, e8, _, b8⟩ := DataW.trod_int Tryd.underlying3 g8
    obtain ⟨z9, e9, _, b9⟩ := DataW.trod_int Tryd.underlying3 g9
    obtain ⟨z10, e10, q10, _⟩ := DataW.trod_string Tryd.underlying9 g10
    obtain ⟨l, hb, _⟩ := open_bsf g11 hw11
    have hw10 : z10.size ≤ 140737488355000 := by
      have h1 := hw z10.size (by
        rw [hxy.1]
        simp [DataW.weights, Tryd.underlying25, DataW.weightsEach, q10])
      have h2 := reachIs
      omega
    simp only [List.cons.injEq, and_true] at e0 e1 e2 e3 e4 e5 e6 e7 e8 e9 e10
    subst e0 e1 e2 e3 e4 e5 e6 e7 e8 e9 e10
    refine ⟨⟨⟨z0, z1, z2, z3, z4, z5, z6, z7, z8, z9⟩, z10, l⟩, v11, rfl, hb, hw10, fun t h1 h9 => ?_⟩
    obtain rfl | rfl | rfl | rfl | rfl | rfl | rfl | rfl | rfl : t = 1 ∨ t = 2 ∨ t = 3 ∨ t = 4 ∨ t = 5 ∨ t = 6 ∨ t = 7 ∨ t = 8 ∨ t = 9 := by omega
    · exact i64_boundse b1
    · exact i64_boundse b2
    · exact i64_boundse b3
    · exact i64_boundse b4
    · exact i64_boundse b5
    · exact i64_boundse b6
    · exact i64_boundse b7
    · exact i64_boundse b8
    · exact i64_boundse b9
/-- a list out of its places -/
theorem listed {α : Type} {P : Nat → α → Prop} : ∀ n, (∀ k, k < n → ∃ a, P k a) → ∃ l : List α, l.length = n ∧ ∀ k a, l[k]? = some a → P k a
  | 0, _ => ⟨[], rfl, fun k a h => by simp at h⟩
  | n + 1, h => by
    obtain ⟨l, hl, hp⟩ := listed n (fun k hk => h k (by omega))
    obtain ⟨a, ha⟩ := h n (by omega)
    refine ⟨l ++ [a], by simp [hl], fun k b hb => ?_⟩
    by_cases hk : k < n
    · rw [List.getElem?_append_left (by omega)] at hb
      exact hp k b hb
    · rw [List.getElem?_append_right (by omega)] at hb
      obtain rfl : k = n := by
        have := (List.getElem?_eq_some_iff.1 hb).1
        simp at this
        omega
      rw [hl] at hb
      simp at hb
      exact hb ▸ ha
set_option maxRecDepth 100000 in
theorem open_recs {H : Type} {enc : TypeId × Value → H} {W : World} {base : Nat} {v : Value} {d : DataW H} {p : List MemPlace} (hv : Value.okWide Tryd.prog W .any base 22 v)
    (h : DataW.Trod enc Tryd.prog W 0 (fun _ => true) true 22 v d p) (hw : ∀ n ∈ d.weights Tryd.prog 22, n ≤ reachBytes) : ∃ rs, RecsAt W v rs ∧ RGood rs := by
  obtain ⟨a0, len0, cap0, rfl⟩ := okWide_slice Tryd.underlying22 hv
  obtain ⟨fuel, hf⟩ := h
  rcases Deep.open_slice Tryd.underlying22 hf with ⟨hcs, _⟩ | ⟨a, len, cap, m, n, D, Pl, hcs, _, hl, hm, hmm, hx, hel⟩
  · simp [Value.cells] at hcs
    obtain ⟨rfl, rfl, rfl⟩ := hcs
    exact ⟨[], ⟨none, 0, rfl, by simp [maxLen], fun k r hk => by simp at hk⟩, ⟨(fun r hr => nomatch hr), by simp⟩⟩
  · simp [Value.cells] at hcs
    obtain ⟨rfl, rfl, rfl⟩ := hcs
    simp only [Prod.mk.injEq] at hx
    have hrow : len0 * 120 ≤ 140737488355000 := by
      have h1 := hw (((List.range len0).map D).length * Tryd.prog.bytesOf 25 + ((List.range (m - len0)).map fun j => D (len0 + j)).length * Tryd.prog.bytesOf 25) (by rw [hx.1]; simp [DataW.weights, Tryd.underlying22, Nat.add_mul])
      have h2 := reachIs
      rw [bytesRECe] at h1
      simp only [List.length_map, List.length_range] at h1
      omega
    have each : ∀ k, k < len0 → ∃ r : Rec, ∃ b off d, a = ⟨b, off, none⟩ ∧ W.rangeAt b (off + k * 12) (rcl (r, d)) ∧ Bs W d r.l ∧ r.nm.size ≤ 140737488355000 ∧ r.x.fit := fun k hk => by
      have hkm : k < m := by rw [hmm]; simp; omega
      have hspot : a.spot = none := by
        obtain ⟨cs0, h10, _⟩ := hel 0 (by omega)
        rw [cellsRECe] at h10
        obtain ⟨_, hl0, hc0⟩ := World.cells?_some h10
        have r0 := hc0 0 (by omega)
        rw [List.getElem?_eq_getElem (show 0 < cs0.length by omega)] at r0
        simpa [Addr.add] using World.cell?_spot r0
      obtain ⟨cs', h1, h2⟩ := hel k hkm
      have hwk : ∀ n ∈ (D k).weights Tryd.prog 25, n ≤ reachBytes := fun n hn => hw n (by
        rw [hx.1]
        simp only [DataW.weights, Tryd.underlying22, List.mem_cons, List.mem_append]
        exact .inr (.inl (weightsAll_meme (List.mem_map.2 ⟨k, List.mem_range.2 hk, rfl⟩) hn)))
      rw [cellsRECe] at h1
      obtain ⟨_, hlen, hcell⟩ := World.cells?_some h1
      obtain ⟨r, d, e, hb, hn, hft⟩ := open_rece h2 hlen hwk
      obtain ⟨b, off, spot⟩ := a
      obtain rfl : spot = none := hspot
      refine ⟨r, b, off, d, rfl, fun j u hu => ?_, hb, hn, hft⟩
      rw [← e] at hu
      have hj : j < 12 := by have := (List.getElem?_eq_some_iff.1 hu).1; omega
      have := hcell j hj
      rw [Deep.add_add, Go.WideShapes.add_plain, ← Nat.add_assoc, hu] at this
      exact this
    obtain ⟨rs, hrl, hrs⟩ := listed len0 each
    refine ⟨rs, ⟨some a, cap0, by rw [hrl], by omega, fun k r hr => ?_⟩, ⟨fun r hr => ?_, by omega⟩⟩
    · obtain ⟨b, off, d, e, h1, h2, _⟩ := hrs k r hr
      exact ⟨b, off, d, by rw [e], h1, h2⟩
    · obtain ⟨k, hk, rfl⟩ := List.getElem_of_mem hr
      obtain ⟨_, _, _, _, _, _, h3, h4⟩ := hrs k _ (List.getElem?_eq_getElem hk)
      exact ⟨h3, h4⟩
end Go.Proofs.YtckhhkgemkklnaaDoor
