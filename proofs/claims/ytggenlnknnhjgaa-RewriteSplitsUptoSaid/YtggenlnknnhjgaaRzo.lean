/-
  RewriteSplits: records among the arguments (second form).
-/
import Derived.Test.YtggenlnknnhjgaaRL7
import Derived.Test.YtggenlnknnhjgaaRz9
import Derived.Deep.Slices
import Derived.LaidLaws
namespace Go.Proofs.Ytggenlnknnhjgaa
open Go Go.RowKit Go.ChangeShapes Go.WideShapes Go.ChangeAt
open Wb
theorem cellsTBSk : Try.prog.cellsOf 23 = 1 := by kernel_rfl
theorem cellsTIk : Try.prog.cellsOf 3 = 1 := by kernel_rfl
theorem cellsTSTRk : Try.prog.cellsOf 9 = 1 := by kernel_rfl
theorem cellsRECk : Try.prog.cellsOf 25 = 12 := by kernel_rfl
theorem i64_boundsk {n : Int} (h : (Lit.int .i64 n).wf = true) : -9223372036854775808 ≤ n ∧ n ≤ 9223372036854775807 := by
  have e : IntKind.i64.min = -9223372036854775808 := by decide
  simp [Lit.wf] at h
  omega
theorem bulk_one {H : Type} (d : DataW H) : 1 ≤ Rows.uptoBulk d := by
  cases d with
  | lit l => cases l <;> simp [Rows.uptoBulk]
  | nil => simp [Rows.uptoBulk]
  | ptr d => simp [Rows.uptoBulk]
  | slice elems spare => simp [Rows.uptoBulk]
  | agg parts => simp [Rows.uptoBulk]
  | iface t d => simp [Rows.uptoBulk]
  | map entries => simp [Rows.uptoBulk]
  | held h => simp [Rows.uptoBulk]
theorem bulk_length {H : Type} (l : List (DataW H)) : l.length ≤ Rows.uptoBulkAll l := by
  induction l with
  | nil => simp [Rows.uptoBulkAll]
  | cons x r ih => have := bulk_one x; simp only [Rows.uptoBulkAll, List.length_cons]; omega
set_option maxRecDepth 100000 in
theorem open_bsk {H : Type} {enc : TypeId × Value → H} {W : World} {fuel : Nat} {v : Value} {x : DataW H × List MemPlace}
    (h : DataW.trod enc Try.prog W 0 (fun _ => true) true fuel 23 [v] = some x) : ∃ l, Bs W v l ∧ l.length ≤ Rows.uptoBulk x.1 := by
  obtain ⟨d, p⟩ := x
  rcases open_ints Try.underlying23 Try.underlying5 cellsTB h with ⟨hcs, _⟩ | ⟨xx, l, c, zs, hcs, _, hl, hm, hz, hx, hcell, hwz⟩
  · simp at hcs
    subst hcs
    exact ⟨[], Bs.nil W, Nat.zero_le _⟩
  · simp at hcs
    subst hcs
    simp only [Prod.mk.injEq] at hx
    refine ⟨_, bs_of_row hl hm (by simpa using hz) hcell hwz, ?_⟩
    rw [hx.1]
    have h1 := bulk_length (lits (H := H) .u8 (zs.take l))
    simp only [Rows.uptoBulk]
    simp only [lits, List.length_map] at h1 ⊢
    omega
set_option maxRecDepth 100000 in
theorem open_recl {H : Type} {enc : TypeId × Value → H} {W : World} {fuel : Nat} {vs : List Value} {d : DataW H} {p : List MemPlace} (hf : DataW.trod enc Try.prog W 0 (fun _ => true) true fuel 25 vs = some (d, p)) (hlen : vs.length = 12) :
    ∃ (x : Nums) (nm : ByteArray) (dv : Value) (l : List Nat), vs = [.int .i64 x.v, .int .i64 x.k, .int .i64 x.s, .int .i64 x.p, .int .i64 x.t, .int .i64 x.a, .int .i64 x.l, .int .i64 x.c, .int .i64 x.n, .int .i64 x.i, .string nm, dv] ∧ Bs W dv l ∧ nm.size + l.length ≤ Rows.uptoBulk d ∧ x.fit := by
  obtain ⟨xs, k', _, hxy, _, hxl, hfs⟩ := DataW.trod_struct Try.underlying25 hf
  match xs, hxl, vs, hlen with
  | [y0, y1, y2, y3, y4, y5, y6, y7, y8, y9, y10, y11], _, [v0, v1, v2, v3, v4, v5, v6, v7, v8, v9, v10, v11], _ =>
    have g0 := hfs 0 _ rfl
    have g1 := hfs 1 _ rfl
    have g2 := hfs 2 _ rfl
    have g3 := hfs 3 _ rfl
    have g4 := hfs 4 _ rfl
    have g5 := hfs 5 _ rfl
    have g6 := hfs 6 _ rfl
    have g7 := hfs 7 _ rfl
    have g8 := hfs 8 _ rfl
    have g9 := hfs 9 _ rfl
    have g10 := hfs 10 _ rfl
    have g11 := hfs 11 _ rfl
    simp [cellsTIk, cellsTSTRk, cellsTBSk] at g0 g1 g2 g3 g4 g5 g6 g7 g8 g9 g10 g11
    simp only [Prod.mk.injEq] at hxy
    obtain ⟨z0, e0, _, _⟩ := DataW.trod_int Try.underlying3 g0
    obtain ⟨z1, e1, _, b1⟩ := DataW.trod_int Try.underlying3 g1
    obtain ⟨z2, e2, _, b2⟩ := DataW.trod_int Try.underlying3 g2
    obtain ⟨z3, e3, _, b3⟩ := DataW.trod_int Try.underlying3 g3
    obtain ⟨z4, e4, _, b4⟩ := DataW.trod_int Try.underlying3 g4
    obtain ⟨z5, e5, _, b5⟩ := DataW.trod_int Try.underlying3 g5
    obtain ⟨z6, e6, _, b6⟩ := DataW.trod_int Try.underlying3 g6
    obtain ⟨z7, e7, _, b7⟩ := DataW.trod_int Try.underlying3 g7
    obtain ⟨z8, e8, _, b8⟩ := DataW.trod_int Try.underlying3 g8
    obtain ⟨z9, e9, _, b9⟩ := DataW.trod_int Try.underlying3 g9
    obtain ⟨z10, e10, q10, _⟩ := DataW.trod_string Try.underlying9 g10
    obtain ⟨l, hb, hlb⟩ := open_bsk g11
    have hw10 : z10.size + l.length ≤ Rows.uptoBulk d := by
      have h10 : y10.1 = .lit (.string z10.data.toList) := congrArg Prod.fst q10
      rw [hxy.1]
      simp [Rows.uptoBulk, Rows.uptoBulkAll, h10] at hlb ⊢
      have : z10.data.size = z10.size := rfl
      omega
    simp only [List.cons.injEq, and_true] at e0 e1 e2 e3 e4 e5 e6 e7 e8 e9 e10
    subst e0 e1 e2 e3 e4 e5 e6 e7 e8 e9 e10
    refine ⟨⟨z0, z1, z2, z3, z4, z5, z6, z7, z8, z9⟩, z10, v11, l, rfl, hb, hw10, fun t h1 h9 => ?_⟩
    obtain rfl | rfl | rfl | rfl | rfl | rfl | rfl | rfl | rfl : t = 1 ∨ t = 2 ∨ t = 3 ∨ t = 4 ∨ t = 5 ∨ t = 6 ∨ t = 7 ∨ t = 8 ∨ t = 9 := by omega
    · exact i64_boundsk b1
    · exact i64_boundsk b2
    · exact i64_boundsk b3
    · exact i64_boundsk b4
    · exact i64_boundsk b5
    · exact i64_boundsk b6
    · exact i64_boundsk b7
    · exact i64_boundsk b8
    · exact i64_boundsk b9
theorem bulk_memr {H : Type} : ∀ {l : List (DataW H)} {d : DataW H}, d ∈ l → Rows.uptoBulk d ≤ Rows.uptoBulkAll l
  | x :: r, d, hd => by
    simp only [Rows.uptoBulkAll]
    rcases List.mem_cons.1 hd with rfl | h
    · omega
    · have := bulk_memr h
      omega
theorem bulk_pos {H : Type} (d : DataW H) : 1 ≤ Rows.uptoBulk d := by
  cases d with
  | lit x => cases x <;> simp [Rows.uptoBulk]
  | _ => simp [Rows.uptoBulk]
theorem bulk_count {H : Type} : ∀ l : List (DataW H), l.length ≤ Rows.uptoBulkAll l
  | [] => Nat.zero_le _
  | x :: r => by
    have := bulk_count r
    have := bulk_pos x
    simp only [Rows.uptoBulkAll, List.length_cons]
    omega
theorem listed4 {α : Type} {p : Nat → α → Prop} : ∀ n, (∀ k, k < n → ∃ a, p k a) → ∃ l : List α, l.length = n ∧ ∀ k a, l[k]? = some a → p k a
  | 0, _ => ⟨[], rfl, fun k a h => by simp at h⟩
  | n + 1, h => by
    obtain ⟨l, hl, hp⟩ := listed4 n (fun k hk => h k (by omega))
    obtain ⟨a, ha⟩ := h n (by omega)
    refine ⟨l ++ [a], by simp [hl], fun k b hb => ?_⟩
    by_cases hk : k < n
    · rw [List.getElem?_append_left (by omega)] at hb
      exact hp k b hb
    · rw [List.getElem?_append_right (by omega)] at hb
      obtain rfl : k = n := by
        have := (List.getElem?_eq_some_iff.1 hb).1
        simp at this
        omega
      rw [hl] at hb
      simp at hb
      exact hb ▸ ha
theorem cellsRECSk : Try.prog.cellsOf 22 = 1 := by kernel_rfl
theorem recsAt_nil (w : World) : RecsAt w (.slice none 0 0) [] := ⟨none, 0, rfl, by simp [maxLen], fun k r hr => by simp at hr⟩
set_option maxRecDepth 100000 in
theorem open_recsk {H : Type} {enc : TypeId × Value → H} {W : World} {fuel : Nat} {v : Value} {d : DataW H} {p : List MemPlace} (hf : DataW.trod enc Try.prog W 0 (fun _ => true) true fuel 22 [v] = some (d, p)) (hw : Rows.uptoBulk d ≤ 1048576) :
    ∃ rs, RecsAt W v rs ∧ LGood rs := by
  rcases Deep.open_slice Try.underlying22 hf with ⟨hcs, _⟩ | ⟨a, len0, cap0, m, n, D, Pl, hcs, _, hl, hm, hmm, hx, hel⟩
  · simp at hcs
    subst hcs
    exact ⟨[], recsAt_nil _, ⟨(fun r hr => nomatch hr), by simp⟩⟩
  · simp at hcs
    subst hcs
    simp only [Prod.mk.injEq] at hx
    rw [hx.1] at hw
    simp only [Rows.uptoBulk] at hw
    have hcnt : len0 ≤ 1048576 := by
      have := bulk_count ((List.range len0).map D)
      simp only [List.length_map, List.length_range] at this
      omega
    have each : ∀ k, k < len0 → ∃ r : Rec, ∃ b off d, a = ⟨b, off, none⟩ ∧ W.rangeAt b (off + k * 12) (rcl (r, d)) ∧ Bs W d r.l ∧ r.nm.size ≤ 1048576 ∧ r.x.fit ∧ r.l.length ≤ 1048576 := fun k hk => by
      have hkm : k < m := by rw [hmm]; simp; omega
      have hspot : a.spot = none := by
        obtain ⟨cs0, h10, _⟩ := hel 0 (by omega)
        rw [cellsRECk] at h10
        obtain ⟨_, hl0, hc0⟩ := World.cells?_some h10
        have r0 := hc0 0 (by omega)
        rw [List.getElem?_eq_getElem (show 0 < cs0.length by omega)] at r0
        simpa [Addr.add] using World.cell?_spot r0
      obtain ⟨cs', h1, h2⟩ := hel k hkm
      have hwk : Rows.uptoBulk (D k) ≤ 1048576 := by
        have := bulk_memr (l := (List.range len0).map D) (d := D k) (List.mem_map.2 ⟨k, List.mem_range.2 hk, rfl⟩)
        omega
      rw [cellsRECk] at h1
      obtain ⟨_, hlen, hcell⟩ := World.cells?_some h1
      obtain ⟨x, nm, d, l, e, hb, hn, hft⟩ := open_recl h2 hlen
      obtain ⟨b, off, spot⟩ := a
      obtain rfl : spot = none := hspot
      refine ⟨⟨x, nm, l⟩, b, off, d, rfl, fun j u hu => ?_, hb, by show nm.size ≤ _; omega, hft, by show l.length ≤ _; omega⟩
      have hu' : cs'[j]? = some u := by rw [e]; exact hu
      have hj : j < 12 := by have := (List.getElem?_eq_some_iff.1 hu').1; omega
      have := hcell j hj
      rw [Deep.add_add, Go.WideShapes.add_plain, ← Nat.add_assoc, hu'] at this
      exact this
    obtain ⟨rs, hrl, hrs⟩ := listed4 len0 each
    refine ⟨rs, ⟨some a, cap0, by rw [hrl], by unfold maxLen; omega, fun k r hr => ?_⟩, ⟨fun r hr => ?_, by omega⟩⟩
    · obtain ⟨b, off, d, e, h1, h2, _⟩ := hrs k r hr
      exact ⟨b, off, d, by rw [e], h1, h2⟩
    · obtain ⟨k, hk, rfl⟩ := List.getElem_of_mem hr
      obtain ⟨_, _, _, _, _, _, h3, h4, h5⟩ := hrs k _ (List.getElem?_eq_getElem hk)
      exact ⟨h3, h4, h5⟩
set_option maxRecDepth 100000 in
theorem open_recsu {H : Type} {enc : TypeId × Value → H} {W : World} {base : Nat} {v : Value} {d : DataW H} {p : List MemPlace} (hv : Value.okWide Try.prog W .any base 22 v)
    (h : DataW.Trod enc Try.prog W 0 (fun _ => true) true 22 v d p) (hw : Rows.uptoBulk d ≤ 1048576) : ∃ rs, RecsAt W v rs ∧ LGood rs := by
  obtain ⟨a0, len0, cap0, rfl⟩ := okWide_slice Try.underlying22 hv
  obtain ⟨fuel, hf⟩ := h
  have hf' : DataW.trod enc Try.prog W 0 (fun _ => true) true fuel 22 [Value.slice a0 len0 cap0] = some (d, p) := hf
  exact open_recsk hf' hw
theorem LGood.sm {rs : List Rec} (h : LGood rs) : LSm rs := ⟨fun r hr => ⟨(h.each r hr).2.1, by have := (h.each r hr).2.2; omega⟩, h.few⟩
end Go.Proofs.Ytggenlnknnhjgaa
