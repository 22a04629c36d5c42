import Derived.Deep.Matrix
import Derived.Test.YtdnackjakfiffaaGreatDoorQR4
import Derived.Test.YtdnackjakfiffaaGreatDoorQL1
import Derived.Test.YtdnackjakfiffaaGreatDoorQS4
import Derived.Test.YtdnackjakfiffaaGreatDoorQP8
/-
  SagaMay ..: the tables, a saga and a record among the arguments.
-/
namespace Go.Proofs.YtdnackjakfiffaaGreatDoor
open Go Go.RowKit Go.ChangeShapes Go.WideShapes Go.ChangeAt
open Wb

theorem cellsTS4 : Tryz.prog.cellsOf 30 = 1 := by kernel_rfl
theorem weightsAll_mem {H : Type} {P : Program} {e : TypeId} : ∀ {l : List (DataW H)} {d : DataW H} {n : Nat}, d ∈ l → n ∈ d.weights P e → n ∈ DataW.weightsAll P e l
  | x :: r, d, n, hd, hn => by
    simp only [DataW.weightsAll, List.mem_append]
    rcases List.mem_cons.1 hd with rfl | h
    · exact .inl hn
    · exact .inr (weightsAll_mem h hn)

theorem open_psf {H : Type} {enc : TypeId × Value → H} {W : World} {fuel : Nat} {v : Value} {x : DataW H × List MemPlace}
    (h : DataW.trod enc Tryz.prog W 0 (fun _ => true) true fuel 41 [v] = some x) (hw : ∀ n ∈ x.1.weights Tryz.prog 41, n ≤ reachBytes) : ∃ ls, Ps W v ls ∧ ∀ j (h : j < ls.length), ls[j].length ≤ 140737488355328 := by
  obtain ⟨d, p⟩ := x
  have hr := reachIs
  rcases Deep.open_int_rows Tryz.underlying41 Tryz.underlying30 Tryz.underlying5 cellsTS4 cellsTB h with ⟨hcs, _⟩ | ⟨a, len, cap, A, L, C, Z, hcs, _, hl, hm, hx, hrow⟩
  · simp at hcs
    subst hcs
    exact ⟨[], ⟨none, 0, rfl, by simp [maxLen], fun e => absurd rfl e⟩, fun j h => absurd h (Nat.not_lt_zero _)⟩
  · simp at hcs
    subst hcs
    simp only [Prod.mk.injEq] at hx
    refine ⟨(List.range len).map fun r => ((Z r).take (L r)).map Int.toNat, ⟨some a, cap, by simp, by simp; omega, fun hne => ?_⟩, fun j hj => ?_⟩
    · have hpos : 0 < len := by have := List.length_pos_iff.2 hne; simpa using this
      obtain ⟨b, off, spot⟩ := a
      have hspot : spot = none := by simpa [Addr.add] using World.cell?_spot (hrow 0 (by omega)).1
      subst hspot
      refine ⟨b, off, rfl, fun j hj => ?_⟩
      simp only [List.length_map, List.length_range] at hj
      obtain ⟨h1, h2, h3, h4, h5, h6, h7⟩ := hrow j (by omega)
      refine ⟨.slice (A j) (L j) (C j), by rw [← Go.WideShapes.add_plain]; exact h1, ?_⟩
      simp only [List.getElem_map, List.getElem_range]
      cases hA : A j with
      | none =>
        have hc := h6 hA
        have hz : Z j = [] := List.eq_nil_of_length_eq_zero (by omega)
        have hl0 : L j = 0 := by omega
        rw [hz, hl0, hc]
        exact Bs.nil W
      | some a' =>
        exact bs_of_row h2 h3 h4 (fun i hi => (h7 a' hA).2 i (by omega)) h5
    · simp only [List.length_map, List.length_range] at hj
      obtain ⟨h1, h2, h3, h4, h5, h6, h7⟩ := hrow j (by omega)
      simp only [List.getElem_map, List.getElem_range, List.length_map, List.length_take]
      cases hA : A j with
      | none =>
        have hc := h6 hA
        omega
      | some a' =>
        have h8 := hw (((lits (H := H) .u8 ((Z j).take (L j))).length + (lits (H := H) .u8 ((Z j).drop (L j))).length) * Tryz.prog.bytesOf 5) (by
          rw [hx.1]
          simp only [DataW.weights, Tryz.underlying41, List.mem_cons, List.mem_append]
          refine .inr (.inl (weightsAll_mem (List.mem_map.2 ⟨j, List.mem_range.2 hj, rfl⟩) ?_))
          simp [Deep.intRow, hA, DataW.weights, Tryz.underlying30])
        rw [bytesTB] at h8
        simp only [lits, List.length_map, List.length_take, List.length_drop] at h8
        omega
theorem cellsTBS : Tryz.prog.cellsOf 30 = 1 := by kernel_rfl
theorem cellsTI : Tryz.prog.cellsOf 3 = 1 := by kernel_rfl
theorem cellsTSTR : Tryz.prog.cellsOf 9 = 1 := by kernel_rfl
theorem cellsREC : Tryz.prog.cellsOf 32 = 12 := by kernel_rfl
theorem i64_bounds {n : Int} (h : (Lit.int .i64 n).wf = true) : -9223372036854775808 ≤ n ∧ n ≤ 9223372036854775807 := by
  have e : IntKind.i64.min = -9223372036854775808 := by decide
  simp [Lit.wf] at h
  omega
set_option maxRecDepth 100000 in
/-- a record -/
theorem open_recb {H : Type} {enc : TypeId × Value → H} {W : World} {base : Nat} {v : Value} {d : DataW H} {p : List MemPlace} (hv : Value.okWide Tryz.prog W .any base 32 v)
    (h : DataW.Trod enc Tryz.prog W 0 (fun _ => true) true 32 v d p) (hw : ∀ n ∈ d.weights Tryz.prog 32, n ≤ reachBytes) : ∃ x nm dv l, v = rv x nm dv ∧ Bs W dv l ∧ nm.size ≤ 140737488355000 ∧ ∀ t, 1 ≤ t → t ≤ 9 → -9223372036854775808 ≤ x.tag t ∧ x.tag t ≤ 9223372036854775807 := by
  obtain ⟨cs, rfl, hcs⟩ := okWide_struct Tryz.underlying32 hv
  rw [cellsREC] at hcs
  obtain ⟨fuel, hf⟩ := h
  obtain ⟨xs, k', _, hxy, _, hxl, hfs⟩ := DataW.trod_struct Tryz.underlying32 hf
  have hlen : cs.toList.length = 12 := by simpa using hcs
  have hcells : Value.cells (.agg cs) = cs := rfl
  rw [hcells] at hfs
  obtain ⟨vs⟩ := cs
  simp only at hfs hlen
  match xs, hxl, vs, hlen with
  | [y0, y1, y2, y3, y4, y5, y6, y7, y8, y9, y10, y11], _, [v0, v1, v2, v3, v4, v5, v6, v7, v8, v9, v10, v11], _ =>
    have g0 := hfs 0 _ rfl
    have g1 := hfs 1 _ rfl
    have g2 := hfs 2 _ rfl
    have g3 := hfs 3 _ rfl
    have g4 := hfs 4 _ rfl
    have g5 := hfs 5 _ rfl
    have g6 := hfs 6 _ rfl
    have g7 := hfs 7 _ rfl
    have g8 := hfs 8 _ rfl
    have g9 := hfs 9 _ rfl
    have g10 := hfs 10 _ rfl
    have g11 := hfs 11 _ rfl
    simp [cellsTI, cellsTSTR, cellsTBS] at g0 g1 g2 g3 g4 g5 g6 g7 g8 g9 g10 g11
    simp only [Prod.mk.injEq] at hxy
    have hw11 : ∀ n ∈ y11.1.weights Tryz.prog 30, n ≤ reachBytes := fun n hn => hw n (by
      rw [hxy.1]
      simp [DataW.weights, Tryz.underlying32, DataW.weightsEach, hn])
    obtain ⟨z0, e0, _, b0⟩ := DataW.trod_int Tryz.underlying3 g0
    obtain ⟨z1, e1, _, b1⟩ := DataW.trod_int Tryz.underlying3 g1
    obtain ⟨z2, e2, _, b2⟩ := DataW.trod_int Tryz.underlying3 g2
    obtain ⟨z3, e3, _, b3⟩ := DataW.trod_int Tryz.underlying3 g3
    obtain ⟨z4, e4, _, b4⟩ := DataW.trod_int Tryz.underlying3 g4
    obtain ⟨z5, e5, _, b5⟩ := DataW.trod_int Tryz.underlying3 g5
    obtain ⟨z6, e6, _, b6⟩ := DataW.trod_int Tryz.underlying3 g6
    obtain ⟨z7, e7, _, b7⟩ := DataW.trod_int Tryz.underlying3 g7
    obtain ⟨z8, e8, _, b8⟩ := DataW.trod_int Tryz.underlying3 g8
    obtain ⟨z9, e9, _, b9⟩ := DataW.trod_int Tryz.underlying3 g9
    obtain ⟨z10, e10, q10, _⟩ := DataW.trod_string Tryz.underlying9 g10
    obtain ⟨l, hb, _⟩ := open_bsf g11 hw11
    have hw10 : z10.size ≤ 140737488355000 := by
      have h1 := hw z10.size (by
        rw [hxy.1]
        simp [DataW.weights, Tryz.underlying32, DataW.weightsEach, q10])
      have h2 := reachIs
      omega
    simp only [List.cons.injEq, and_true] at e0 e1 e2 e3 e4 e5 e6 e7 e8 e9 e10
    subst e0 e1 e2 e3 e4 e5 e6 e7 e8 e9 e10
    refine ⟨⟨z0, z1, z2, z3, z4, z5, z6, z7, z8, z9⟩, z10, v11, l, rfl, hb, hw10, fun t h1 h9 => ?_⟩
    obtain rfl | rfl | rfl | rfl | rfl | rfl | rfl | rfl | rfl : t = 1 ∨ t = 2 ∨ t = 3 ∨ t = 4 ∨ t = 5 ∨ t = 6 ∨ t = 7 ∨ t = 8 ∨ t = 9 := by omega
    · exact i64_bounds b1
    · exact i64_bounds b2
    · exact i64_bounds b3
    · exact i64_bounds b4
    · exact i64_bounds b5
    · exact i64_bounds b6
    · exact i64_bounds b7
    · exact i64_bounds b8
    · exact i64_bounds b9
theorem cellsTBSS : Tryz.prog.cellsOf 41 = 1 := by kernel_rfl
theorem cellsTBOOL : Tryz.prog.cellsOf 4 = 1 := by kernel_rfl
theorem cellsSAGA : Tryz.prog.cellsOf 43 = 16 := by kernel_rfl
set_option maxRecDepth 100000 in
/-- a saga among the arguments -/
theorem open_saga {H : Type} {enc : TypeId × Value → H} {W : World} {base : Nat} {v : Value} {d : DataW H} {p : List MemPlace} (hv : Value.okWide Tryz.prog W .any base 43 v)
    (h : DataW.Trod enc Tryz.prog W 0 (fun _ => true) true 43 v d p) (hw : ∀ n ∈ d.weights Tryz.prog 43, n ≤ reachBytes) : ∃ S h', v = sv S h' ∧ SgAt W S h' ∧ S.nm.size ≤ 140737488355000 := by
  obtain ⟨cs, rfl, hcs⟩ := okWide_struct Tryz.underlying43 hv
  rw [cellsSAGA] at hcs
  obtain ⟨fuel, hf⟩ := h
  obtain ⟨xs, k', _, hxy, _, hxl, hfs⟩ := DataW.trod_struct Tryz.underlying43 hf
  have hlen : cs.toList.length = 16 := by simpa using hcs
  have hcells : Value.cells (.agg cs) = cs := rfl
  rw [hcells] at hfs
  obtain ⟨vs⟩ := cs
  simp only at hfs hlen
  match xs, hxl, vs, hlen with
  | [y0, y1, y2, y3, y4, y5, y6, y7, y8, y9, y10, y11, y12, y13, y14, y15], _, [v0, v1, v2, v3, v4, v5, v6, v7, v8, v9, v10, v11, v12, v13, v14, v15], _ =>
    have g0 := hfs 0 _ rfl
    have g1 := hfs 1 _ rfl
    have g2 := hfs 2 _ rfl
    have g3 := hfs 3 _ rfl
    have g4 := hfs 4 _ rfl
    have g5 := hfs 5 _ rfl
    have g6 := hfs 6 _ rfl
    have g7 := hfs 7 _ rfl
    have g8 := hfs 8 _ rfl
    have g9 := hfs 9 _ rfl
    have g10 := hfs 10 _ rfl
    have g11 := hfs 11 _ rfl
    have g12 := hfs 12 _ rfl
    have g13 := hfs 13 _ rfl
    have g14 := hfs 14 _ rfl
    have g15 := hfs 15 _ rfl
    simp [cellsTI, cellsTSTR, cellsTBS, cellsTBSS, cellsTBOOL] at g0 g1 g2 g3 g4 g5 g6 g7 g8 g9 g10 g11 g12 g13 g14 g15
    simp only [Prod.mk.injEq] at hxy
    have hw6 : ∀ n ∈ y6.1.weights Tryz.prog 30, n ≤ reachBytes := fun n hn => hw n (by
      rw [hxy.1]
      simp [DataW.weights, Tryz.underlying43, DataW.weightsEach, hn])
    have hw15 : ∀ n ∈ y15.1.weights Tryz.prog 30, n ≤ reachBytes := fun n hn => hw n (by
      rw [hxy.1]
      simp [DataW.weights, Tryz.underlying43, DataW.weightsEach, hn])
    have hw11 : ∀ n ∈ y11.1.weights Tryz.prog 41, n ≤ reachBytes := fun n hn => hw n (by
      rw [hxy.1]
      simp [DataW.weights, Tryz.underlying43, DataW.weightsEach, hn])
    have hw12 : ∀ n ∈ y12.1.weights Tryz.prog 41, n ≤ reachBytes := fun n hn => hw n (by
      rw [hxy.1]
      simp [DataW.weights, Tryz.underlying43, DataW.weightsEach, hn])
    obtain ⟨z0, e0, _, _⟩ := DataW.trod_int Tryz.underlying3 g0
    obtain ⟨z2, e2, _, _⟩ := DataW.trod_int Tryz.underlying3 g2
    obtain ⟨z3, e3, _, _⟩ := DataW.trod_int Tryz.underlying3 g3
    obtain ⟨z4, e4, _, _⟩ := DataW.trod_int Tryz.underlying3 g4
    obtain ⟨z5, e5, _, _⟩ := DataW.trod_int Tryz.underlying3 g5
    obtain ⟨z7, e7, _, _⟩ := DataW.trod_int Tryz.underlying3 g7
    obtain ⟨z8, e8, _, _⟩ := DataW.trod_int Tryz.underlying3 g8
    obtain ⟨z10, e10, _, _⟩ := DataW.trod_int Tryz.underlying3 g10
    obtain ⟨z13, e13, _, _⟩ := DataW.trod_int Tryz.underlying3 g13
    obtain ⟨z14, e14, _, _⟩ := DataW.trod_int Tryz.underlying3 g14
    obtain ⟨z1, e1, q1, _⟩ := DataW.trod_string Tryz.underlying9 g1
    obtain ⟨z9, e9, _⟩ := DataW.trod_bool Tryz.underlying4 g9
    obtain ⟨l6, hb6, _⟩ := open_bsf g6 hw6
    obtain ⟨l15, hb15, _⟩ := open_bsf g15 hw15
    obtain ⟨l11, hb11, _⟩ := open_psf g11 hw11
    obtain ⟨l12, hb12, _⟩ := open_psf g12 hw12
    have hw1 : z1.size ≤ 140737488355000 := by
      have h1 := hw z1.size (by
        rw [hxy.1]
        simp [DataW.weights, Tryz.underlying43, DataW.weightsEach, q1])
      have h2 := reachIs
      omega
    simp only [List.cons.injEq, and_true] at e0 e2 e3 e4 e5 e7 e8 e10 e13 e14 e1 e9
    subst e0 e2 e3 e4 e5 e7 e8 e10 e13 e14 e1 e9
    obtain ⟨a6, c6, rfl, _⟩ := hb6.shape
    obtain ⟨a15, c15, rfl, _⟩ := hb15.shape
    obtain ⟨a11, c11, rfl, _⟩ := hb11.shape
    obtain ⟨a12, c12, rfl, _⟩ := hb12.shape
    exact ⟨⟨⟨z0, z2, z3, z4, z5, z7, z8, z9, z10, z13, z14⟩, z1, l6, l11, l12, l15⟩, ⟨a6, c6, a11, c11, a12, c12, a15, c15⟩, rfl, ⟨hb6, hb11, hb12, hb15⟩, hw1⟩
theorem gKinds : Tryz.prog.globalNamed "annals/saga.kinds" = some 3 := by kernel_rfl
theorem gKindsT : (Tryz.prog.globals[3]?).map (·.type) = some 146 := by kernel_rfl
theorem cKind : Tryz.prog.cellsOf 145 = 2 := by kernel_rfl
set_option maxRecDepth 100000 in
theorem kind_of {cs : List Value} {fuel : Nat} {W : World} {f : Int} {b : Bool} {p : List MemPlace}
    (h : DataW.trod (fun _ => ()) Tryz.prog W 0 (fun _ => true) false fuel 145 cs = some (.agg [.lit (.int .i64 f), .lit (.bool b)], p)) : cs = [.int .i64 f, .bool b] := by
  obtain ⟨xs, k', _, hxy, hl, hxl, hfs⟩ := DataW.trod_struct Tryz.underlying145 h
  rw [cKind] at hl
  match xs, hxl, cs, hl with
  | [y0, y1], _, [v0, v1], _ =>
    have g0 := hfs 0 _ rfl
    have g1 := hfs 1 _ rfl
    simp [cellsTI, cellsTBOOL] at g0 g1
    obtain ⟨z0, e0, q0, _⟩ := DataW.trod_int Tryz.underlying3 g0
    obtain ⟨z1, e1, q1⟩ := DataW.trod_bool Tryz.underlying4 g1
    subst q0 q1
    simp only [Prod.mk.injEq, List.map_cons, List.map_nil, DataW.agg.injEq, List.cons.injEq, DataW.lit.injEq, Lit.int.injEq, Lit.bool.injEq, true_and, and_true] at hxy
    obtain ⟨⟨rfl, rfl⟩, _⟩ := hxy
    simp at e0 e1
    subst e0 e1
    rfl
theorem kinds_of {W : World} {l : List (String × DataW Unit)} (h : laidMet Tryz.prog l W) (hm : ("annals/saga.kinds", Rows.laid_annals_saga_kinds) ∈ l) : KindsT W := by
  obtain ⟨g', t', cs, fuel, p, hg', ht', hvar, hd⟩ := Lib.laidMet.reads h hm
  obtain rfl := Option.some.inj (gKinds.symm.trans hg')
  obtain rfl := Option.some.inj (gKindsT.symm.trans ht')
  have key : ∀ i : Nat, i < 8 → ∃ L, (Rows.laid_annals_saga_kinds : DataW Unit) = .agg L ∧ L[i]? = some (.agg [.lit (.int .i64 (kph i)), .lit (.bool (lands i))]) := by
    intro i hi
    obtain rfl | rfl | rfl | rfl | rfl | rfl | rfl | rfl : i = 0 ∨ i = 1 ∨ i = 2 ∨ i = 3 ∨ i = 4 ∨ i = 5 ∨ i = 6 ∨ i = 7 := by omega
    all_goals exact ⟨_, rfl, rfl⟩
  intro i hi
  obtain ⟨L, e1, e2⟩ := key i hi
  have hd' := hd
  rw [e1] at hd'
  obtain ⟨f1, d1, q1, hd1, hr1⟩ := Lib.array_elem Tryz.underlying146 hd' i hi
  rw [e2] at hd1
  obtain rfl := Option.some.inj hd1
  rw [cKind] at hr1
  have hrow := kind_of hr1
  constructor
  · rw [World.var?_cell gKinds hvar, ← Array.getElem?_toList]
    have h1 := congrArg (·[0]?) hrow
    simp only [List.getElem?_take, List.getElem?_drop] at h1
    rw [if_pos (by omega), show i * 2 + 0 = 2 * i by omega] at h1
    rw [h1]; rfl
  · rw [World.var?_cell gKinds hvar, ← Array.getElem?_toList]
    have h1 := congrArg (·[1]?) hrow
    simp only [List.getElem?_take, List.getElem?_drop] at h1
    rw [if_pos (by omega), show i * 2 + 1 = 2 * i + 1 by omega] at h1
    rw [h1]; rfl
/-- For the witness. -/
def lay_kinds : Obj → Obj
  | .cells _ ty frozen => .cells ((List.range 8).flatMap fun k : Nat => [Value.int .i64 (kph (k : Int)), .bool (lands (k : Int))]).toArray ty frozen
  | o => o
end Go.Proofs.YtdnackjakfiffaaGreatDoor

/-
  Replay: the arguments, records.
-/
namespace Go.Proofs.YtdnackjakfiffaaGreatDoor
open Go Go.RowKit Go.ChangeShapes Go.WideShapes Go.ChangeAt
open Wb

def DGood (rs : List Rec) : Prop := ∀ r ∈ rs, r.nm.size ≤ 140737488355000 ∧ r.x.fit ∧ r.l.length ≤ 140737488355000
theorem cellsTBSe : Tryz.prog.cellsOf 30 = 1 := by kernel_rfl
theorem cellsTIe : Tryz.prog.cellsOf 3 = 1 := by kernel_rfl
theorem cellsTSTRe : Tryz.prog.cellsOf 9 = 1 := by kernel_rfl
theorem cellsRECe : Tryz.prog.cellsOf 32 = 12 := by kernel_rfl
theorem bytesRECe : Tryz.prog.bytesOf 32 = 120 := by kernel_rfl
theorem i64_boundse {n : Int} (h : (Lit.int .i64 n).wf = true) : -9223372036854775808 ≤ n ∧ n ≤ 9223372036854775807 := by
  have e : IntKind.i64.min = -9223372036854775808 := by decide
  simp [Lit.wf] at h
  omega
theorem weightsAll_meme {H : Type} {P : Program} {e : TypeId} : ∀ {l : List (DataW H)} {d : DataW H} {n : Nat}, d ∈ l → n ∈ d.weights P e → n ∈ DataW.weightsAll P e l
  | x :: r, d, n, hd, hn => by
    simp only [DataW.weightsAll, List.mem_append]
    rcases List.mem_cons.1 hd with rfl | h
    · exact .inl hn
    · exact .inr (weightsAll_meme h hn)
set_option maxRecDepth 100000 in
/-- one record's cells -/
theorem open_rece {H : Type} {enc : TypeId × Value → H} {W : World} {fuel : Nat} {vs : List Value} {D : DataW H} {p : List MemPlace} (hf : DataW.trod enc Tryz.prog W 0 (fun _ => true) true fuel 32 vs = some (D, p)) (hlen : vs.length = 12) (hw : ∀ n ∈ D.weights Tryz.prog 32, n ≤ reachBytes) :
    ∃ (r : Rec) (d : Value), vs = rcl (r, d) ∧ Bs W d r.l ∧ r.nm.size ≤ 140737488355000 ∧ r.l.length ≤ 140737488355000 ∧ r.x.fit := by
  obtain ⟨xs, k', _, hxy, _, hxl, hfs⟩ := DataW.trod_struct Tryz.underlying32 hf
  match xs, hxl, vs, hlen with
  | [y0, y1, y2, y3, y4, y5, y6, y7, y8, y9, y10, y11], _, [v0, v1, v2, v3, v4, v5, v6, v7, v8, v9, v10, v11], _ =>
    have g0 := hfs 0 _ rfl
    have g1 := hfs 1 _ rfl
    have g2 := hfs 2 _ rfl
    have g3 := hfs 3 _ rfl
    have g4 := hfs 4 _ rfl
    have g5 := hfs 5 _ rfl
    have g6 := hfs 6 _ rfl
    have g7 := hfs 7 _ rfl
    have g8 := hfs 8 _ rfl
    have g9 := hfs 9 _ rfl
    have g10 := hfs 10 _ rfl
    have g11 := hfs 11 _ rfl
    simp [cellsTIe, cellsTSTRe, cellsTBSe] at g0 g1 g2 g3 g4 g5 g6 g7 g8 g9 g10 g11
    simp only [Prod.mk.injEq] at hxy
    have hw11 : ∀ n ∈ y11.1.weights Tryz.prog 30, n ≤ reachBytes := fun n hn => hw n (by
      rw [hxy.1]
      simp [DataW.weights, Tryz.underlying32, DataW.weightsEach, hn])
    obtain ⟨z0, e0, _, _⟩ := DataW.trod_int Tryz.underlying3 g0
    obtain ⟨z1, e1, _, b1⟩ := DataW.trod_int Tryz.underlying3 g1
    obtain ⟨z2, e2, _, b2⟩ := DataW.trod_int Tryz.underlying3 g2
    obtain ⟨z3, e3, _, b3⟩ := DataW.trod_int Tryz.underlying3 g3
    obtain ⟨z4, e4, _, b4⟩ := DataW.trod_int Tryz.underlying3 g4
    obtain ⟨z5, e5, _, b5⟩ := DataW.trod_int Tryz.underlying3 g5
    obtain ⟨z6, e6, _, b6⟩ := DataW.trod_int Tryz.underlying3 g6
    obtain ⟨z7, e7, _, b7⟩ := DataW.trod_int Tryz.underlying3 g7
    obtain ⟨z8, e8, _, b8⟩ := DataW.trod_int Tryz.underlying3 g8
    obtain ⟨z9, e9, _, b9⟩ := DataW.trod_int Tryz.underlying3 g9
    obtain ⟨z10, e10, q10, _⟩ := DataW.trod_string Tryz.underlying9 g10
    obtain ⟨l, hb, hlb⟩ := open_bsf g11 hw11
    have hw10 : z10.size ≤ 140737488355000 := by
      have h1 := hw z10.size (by
        rw [hxy.1]
        simp [DataW.weights, Tryz.underlying32, DataW.weightsEach, q10])
      have h2 := reachIs
      omega
    simp only [List.cons.injEq, and_true] at e0 e1 e2 e3 e4 e5 e6 e7 e8 e9 e10
    subst e0 e1 e2 e3 e4 e5 e6 e7 e8 e9 e10
    refine ⟨⟨⟨z0, z1, z2, z3, z4, z5, z6, z7, z8, z9⟩, z10, l⟩, v11, rfl, hb, hw10, hlb, fun t h1 h9 => ?_⟩
    obtain rfl | rfl | rfl | rfl | rfl | rfl | rfl | rfl | rfl : t = 1 ∨ t = 2 ∨ t = 3 ∨ t = 4 ∨ t = 5 ∨ t = 6 ∨ t = 7 ∨ t = 8 ∨ t = 9 := by omega
    · exact i64_boundse b1
    · exact i64_boundse b2
    · exact i64_boundse b3
    · exact i64_boundse b4
    · exact i64_boundse b5
    · exact i64_boundse b6
    · exact i64_boundse b7
    · exact i64_boundse b8
    · exact i64_boundse b9
/-- a list out of its places -/
theorem listed {α : Type} {P : Nat → α → Prop} : ∀ n, (∀ k, k < n → ∃ a, P k a) → ∃ l : List α, l.length = n ∧ ∀ k a, l[k]? = some a → P k a
  | 0, _ => ⟨[], rfl, fun k a h => by simp at h⟩
  | n + 1, h => by
    obtain ⟨l, hl, hp⟩ := listed n (fun k hk => h k (by omega))
    obtain ⟨a, ha⟩ := h n (by omega)
    refine ⟨l ++ [a], by simp [hl], fun k b hb => ?_⟩
    by_cases hk : k < n
    · rw [List.getElem?_append_left (by omega)] at hb
      exact hp k b hb
    · rw [List.getElem?_append_right (by omega)] at hb
      obtain rfl : k = n := by
        have := (List.getElem?_eq_some_iff.1 hb).1
        simp at this
        omega
      rw [hl] at hb
      simp at hb
      exact hb ▸ ha
set_option maxRecDepth 100000 in
theorem open_recs {H : Type} {enc : TypeId × Value → H} {W : World} {base : Nat} {v : Value} {d : DataW H} {p : List MemPlace} (hv : Value.okWide Tryz.prog W .any base 22 v)
    (h : DataW.Trod enc Tryz.prog W 0 (fun _ => true) true 22 v d p) (hw : ∀ n ∈ d.weights Tryz.prog 22, n ≤ reachBytes) : ∃ rs, RecsAt W v rs ∧ DGood rs := by
  obtain ⟨a0, len0, cap0, rfl⟩ := okWide_slice Tryz.underlying22 hv
  obtain ⟨fuel, hf⟩ := h
  rcases Deep.open_slice Tryz.underlying22 hf with ⟨hcs, _⟩ | ⟨a, len, cap, m, n, D, Pl, hcs, _, hl, hm, hmm, hx, hel⟩
  · simp [Value.cells] at hcs
    obtain ⟨rfl, rfl, rfl⟩ := hcs
    exact ⟨[], ⟨none, 0, rfl, by simp [maxLen], fun k r hk => by simp at hk⟩, (fun r hr => nomatch hr)⟩
  · simp [Value.cells] at hcs
    obtain ⟨rfl, rfl, rfl⟩ := hcs
    simp only [Prod.mk.injEq] at hx
    have hrow : len0 * 120 ≤ 140737488355000 := by
      have h1 := hw (((List.range len0).map D).length * Tryz.prog.bytesOf 32 + ((List.range (m - len0)).map fun j => D (len0 + j)).length * Tryz.prog.bytesOf 32) (by rw [hx.1]; simp [DataW.weights, Tryz.underlying22, Nat.add_mul])
      have h2 := reachIs
      rw [bytesRECe] at h1
      simp only [List.length_map, List.length_range] at h1
      omega
    have each : ∀ k, k < len0 → ∃ r : Rec, ∃ b off d, a = ⟨b, off, none⟩ ∧ W.rangeAt b (off + k * 12) (rcl (r, d)) ∧ Bs W d r.l ∧ r.nm.size ≤ 140737488355000 ∧ r.l.length ≤ 140737488355000 ∧ r.x.fit := fun k hk => by
      have hkm : k < m := by rw [hmm]; simp; omega
      have hspot : a.spot = none := by
        obtain ⟨cs0, h10, _⟩ := hel 0 (by omega)
        rw [cellsRECe] at h10
        obtain ⟨_, hl0, hc0⟩ := World.cells?_some h10
        have r0 := hc0 0 (by omega)
        rw [List.getElem?_eq_getElem (show 0 < cs0.length by omega)] at r0
        simpa [Addr.add] using World.cell?_spot r0
      obtain ⟨cs', h1, h2⟩ := hel k hkm
      have hwk : ∀ n ∈ (D k).weights Tryz.prog 32, n ≤ reachBytes := fun n hn => hw n (by
        rw [hx.1]
        simp only [DataW.weights, Tryz.underlying22, List.mem_cons, List.mem_append]
        exact .inr (.inl (weightsAll_meme (List.mem_map.2 ⟨k, List.mem_range.2 hk, rfl⟩) hn)))
      rw [cellsRECe] at h1
      obtain ⟨_, hlen, hcell⟩ := World.cells?_some h1
      obtain ⟨r, d, e, hb, hn, hlb, hft⟩ := open_rece h2 hlen hwk
      obtain ⟨b, off, spot⟩ := a
      obtain rfl : spot = none := hspot
      refine ⟨r, b, off, d, rfl, fun j u hu => ?_, hb, hn, hlb, hft⟩
      rw [← e] at hu
      have hj : j < 12 := by have := (List.getElem?_eq_some_iff.1 hu).1; omega
      have := hcell j hj
      rw [Deep.add_add, Go.WideShapes.add_plain, ← Nat.add_assoc, hu] at this
      exact this
    obtain ⟨rs, hrl, hrs⟩ := listed len0 each
    refine ⟨rs, ⟨some a, cap0, by rw [hrl], by omega, fun k r hr => ?_⟩, fun r hr => ?_⟩
    · obtain ⟨b, off, d, e, h1, h2, _⟩ := hrs k r hr
      exact ⟨b, off, d, by rw [e], h1, h2⟩
    · obtain ⟨k, hk, rfl⟩ := List.getElem_of_mem hr
      obtain ⟨_, _, _, _, _, _, h3, h5, h4⟩ := hrs k _ (List.getElem?_eq_getElem hk)
      exact ⟨h3, h4, h5⟩
set_option maxRecDepth 100000 in
theorem open_caps {H : Type} {enc : TypeId × Value → H} {W : World} {base : Nat} {v : Value} {d : DataW H} {p : List MemPlace} (hv : Value.okWide Tryz.prog W .any base 22 v)
    (h : DataW.Trod enc Tryz.prog W 0 (fun _ => true) true 22 v d p) : ∀ ao (len cap : Nat), v = .slice ao len cap → len ≤ cap ∧ cap ≤ maxLen := by
  intro ao len cap e
  subst e
  obtain ⟨fuel, hf⟩ := h
  have hf' : DataW.trod enc Tryz.prog W 0 (fun _ => true) true fuel 22 [Value.slice ao len cap] = some (d, p) := hf
  rcases Deep.open_slice Tryz.underlying22 hf' with ⟨hcs, _⟩ | ⟨a, len0, cap0, m, n, D, Pl, hcs, _, hl, hm, _⟩
  · simp at hcs
    obtain ⟨_, rfl, rfl⟩ := hcs
    exact ⟨Nat.le_refl _, Nat.zero_le _⟩
  · simp at hcs
    obtain ⟨_, rfl, rfl⟩ := hcs
    exact ⟨hl, hm⟩
theorem lin_of {w : World} {v : Value} {rs : List Rec} (h : RecsAt w v rs) (hg : DGood rs) (hc : ∀ ao, ∀ n c : Nat, v = .slice ao n c → n ≤ c ∧ c ≤ maxLen) : LIn w v rs := ⟨h, hc, fun r hr => (hg r hr).2.2, fun r hr => ⟨(hg r hr).1, (hg r hr).2.1⟩⟩
end Go.Proofs.YtdnackjakfiffaaGreatDoor
