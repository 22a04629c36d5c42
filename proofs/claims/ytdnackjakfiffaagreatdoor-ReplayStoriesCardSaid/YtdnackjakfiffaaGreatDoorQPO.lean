import Derived.Test.YtdnackjakfiffaaGreatDoorQP8
import Derived.Test.YtdnackjakfiffaaGreatDoorQR4
/-
  Replay: the arguments, records.
-/
namespace Go.Proofs.YtdnackjakfiffaaGreatDoor
open Go Go.RowKit Go.ChangeShapes Go.WideShapes Go.ChangeAt
open Wb

def DGood (rs : List Rec) : Prop := ∀ r ∈ rs, r.nm.size ≤ 140737488355000 ∧ r.x.fit ∧ r.l.length ≤ 140737488355000
theorem cellsTBSe : Tryz.prog.cellsOf 30 = 1 := by kernel_rfl
theorem cellsTIe : Tryz.prog.cellsOf 3 = 1 := by kernel_rfl
theorem cellsTSTRe : Tryz.prog.cellsOf 9 = 1 := by kernel_rfl
theorem cellsRECe : Tryz.prog.cellsOf 32 = 12 := by kernel_rfl
theorem bytesRECe : Tryz.prog.bytesOf 32 = 120 := by kernel_rfl
theorem i64_boundse {n : Int} (h : (Lit.int .i64 n).wf = true) : -9223372036854775808 ≤ n ∧ n ≤ 9223372036854775807 := by
  have e : IntKind.i64.min = -9223372036854775808 := by decide
  simp [Lit.wf] at h
  omega
theorem weightsAll_meme {H : Type} {P : Program} {e : TypeId} : ∀ {l : List (DataW H)} {d : DataW H} {n : Nat}, d ∈ l → n ∈ d.weights P e → n ∈ DataW.weightsAll P e l
  | x :: r, d, n, hd, hn => by
    simp only [DataW.weightsAll, List.mem_append]
    rcases List.mem_cons.1 hd with rfl | h
    · exact .inl hn
    · exact .inr (weightsAll_meme h hn)
set_option maxRecDepth 100000 in
/-- one record's cells -/
theorem open_rece {H : Type} {enc : TypeId × Value → H} {W : World} {fuel : Nat} {vs : List Value} {D : DataW H} {p : List MemPlace} (hf : DataW.trod enc Tryz.prog W 0 (fun _ => true) true fuel 32 vs = some (D, p)) (hlen : vs.length = 12) (hw : ∀ n ∈ D.weights Tryz.prog 32, n ≤ reachBytes) :
    ∃ (r : Rec) (d : Value), vs = rcl (r, d) ∧ Bs W d r.l ∧ r.nm.size ≤ 140737488355000 ∧ r.l.length ≤ 140737488355000 ∧ r.x.fit := by
  obtain ⟨xs, k', _, hxy, _, hxl, hfs⟩ := DataW.trod_struct Tryz.underlying32 hf
  match xs, hxl, vs, hlen with
  | [y0, y1, y2, y3, y4, y5, y6, y7, y8, y9, y10, y11], _, [v0, v1, v2, v3, v4, v5, v6, v7, v8, v9, v10, v11], _ =>
    have g0 := hfs 0 _ rfl
    have g1 := hfs 1 _ rfl
    have g2 := hfs 2 _ rfl
    have g3 := hfs 3 _ rfl
    have g4 := hfs 4 _ rfl
    have g5 := hfs 5 _ rfl
    have g6 := hfs 6 _ rfl
    have g7 := hfs 7 _ rfl
    have g8 := hfs 8 _ rfl
    have g9 := hfs 9 _ rfl
    have g10 := hfs 10 _ rfl
    have g11 := hfs 11 _ rfl
    simp [cellsTIe, cellsTSTRe, cellsTBSe] at g0 g1 g2 g3 g4 g5 g6 g7 g8 g9 g10 g11
    simp only [Prod.mk.injEq] at hxy
    have hw11 : ∀ n ∈ y11.1.weights Tryz.prog 30, n ≤ reachBytes := fun n hn => hw n (by
      rw [hxy.1]
      simp [DataW.weights, Tryz.underlying32, DataW.weightsEach, hn])
    obtain ⟨z0, e0, _, _⟩ := DataW.trod_int Tryz.underlying3 g0
    obtain ⟨z1, e1, _, b1⟩ := DataW.trod_int Tryz.underlying3 g1
    obtain ⟨z2, e2, _, b2⟩ := DataW.trod_int Tryz.underlying3 g2
    obtain ⟨z3, e3, _, b3⟩ := DataW.trod_int Tryz.underlying3 g3
    obtain ⟨z4, e4, _, b4⟩ := DataW.trod_int Tryz.underlying3 g4
    obtain ⟨z5, e5, _, b5⟩ := DataW.trod_int Tryz.underlying3 g5
    obtain ⟨z6, e6, _, b6⟩ := DataW.trod_int Tryz.underlying3 g6
    obtain ⟨z7, e7, _, b7⟩ := DataW.trod_int Tryz.underlying3 g7
    obtain ⟨z8, e8, _, b8⟩ := DataW.trod_int Tryz.underlying3 g8
    obtain ⟨z9, e9, _, b9⟩ := DataW.trod_int Tryz.underlying3 g9
    obtain ⟨z10, e10, q10, _⟩ := DataW.trod_string Tryz.underlying9 g10
    obtain ⟨l, hb, hlb⟩ := open_bsf g11 hw11
    have hw10 : z10.size ≤ 140737488355000 := by
      have h1 := hw z10.size (by
        rw [hxy.1]
        simp [DataW.weights, Tryz.underlying32, DataW.weightsEach, q10])
      have h2 := reachIs
      omega
    simp only [List.cons.injEq, and_true] at e0 e1 e2 e3 e4 e5 e6 e7 e8 e9 e10
    subst e0 e1 e2 e3 e4 e5 e6 e7 e8 e9 e10
    refine ⟨⟨⟨z0, z1, z2, z3, z4, z5, z6, z7, z8, z9⟩, z10, l⟩, v11, rfl, hb, hw10, hlb, fun t h1 h9 => ?_⟩
    obtain rfl | rfl | rfl | rfl | rfl | rfl | rfl | rfl | rfl : t = 1 ∨ t = 2 ∨ t = 3 ∨ t = 4 ∨ t = 5 ∨ t = 6 ∨ t = 7 ∨ t = 8 ∨ t = 9 := by omega
    · exact i64_boundse b1
    · exact i64_boundse b2
    · exact i64_boundse b3
    · exact i64_boundse b4
    · exact i64_boundse b5
    · exact i64_boundse b6
    · exact i64_boundse b7
    · exact i64_boundse b8
    · exact i64_boundse b9
/-- a list out of its places -/
theorem listed {α : Type} {P : Nat → α → Prop} : ∀ n, (∀ k, k < n → ∃ a, P k a) → ∃ l : List α, l.length = n ∧ ∀ k a, l[k]? = some a → P k a
  | 0, _ => ⟨[], rfl, fun k a h => by simp at h⟩
  | n + 1, h => by
    obtain ⟨l, hl, hp⟩ := listed n (fun k hk => h k (by omega))
    obtain ⟨a, ha⟩ := h n (by omega)
    refine ⟨l ++ [a], by simp [hl], fun k b hb => ?_⟩
    by_cases hk : k < n
    · rw [List.getElem?_append_left (by omega)] at hb
      exact hp k b hb
    · rw [List.getElem?_append_right (by omega)] at hb
      obtain rfl : k = n := by
        have := (List.getElem?_eq_some_iff.1 hb).1
        simp at this
        omega
      rw [hl] at hb
      simp at hb
      exact hb ▸ ha
set_option maxRecDepth 100000 in
theorem open_recs {H : Type} {enc : TypeId × Value → H} {W : World} {base : Nat} {v : Value} {d : DataW H} {p : List MemPlace} (hv : Value.okWide Tryz.prog W .any base 22 v)
    (h : DataW.Trod enc Tryz.prog W 0 (fun _ => true) true 22 v d p) (hw : ∀ n ∈ d.weights Tryz.prog 22, n ≤ reachBytes) : ∃ rs, RecsAt W v rs ∧ DGood rs := by
  obtain ⟨a0, len0, cap0, rfl⟩ := okWide_slice Tryz.underlying22 hv
  obtain ⟨fuel, hf⟩ := h
  rcases Deep.open_slice Tryz.underlying22 hf with ⟨hcs, _⟩ | ⟨a, len, cap, m, n, D, Pl, hcs, _, hl, hm, hmm, hx, hel⟩
  · simp [Value.cells] at hcs
    obtain ⟨rfl, rfl, rfl⟩ := hcs
    exact ⟨[], ⟨none, 0, rfl, by simp [maxLen], fun k r hk => by simp at hk⟩, (fun r hr => nomatch hr)⟩
  · simp [Value.cells] at hcs
    obtain ⟨rfl, rfl, rfl⟩ := hcs
    simp only [Prod.mk.injEq] at hx
    have hrow : len0 * 120 ≤ 140737488355000 := by
      have h1 := hw (((List.range len0).map D).length * Tryz.prog.bytesOf 32 + ((List.range (m - len0)).map fun j => D (len0 + j)).length * Tryz.prog.bytesOf 32) (by rw [hx.1]; simp [DataW.weights, Tryz.underlying22, Nat.add_mul])
      have h2 := reachIs
      rw [bytesRECe] at h1
      simp only [List.length_map, List.length_range] at h1
      omega
    have each : ∀ k, k < len0 → ∃ r : Rec, ∃ b off d, a = ⟨b, off, none⟩ ∧ W.rangeAt b (off + k * 12) (rcl (r, d)) ∧ Bs W d r.l ∧ r.nm.size ≤ 140737488355000 ∧ r.l.length ≤ 140737488355000 ∧ r.x.fit := fun k hk => by
      have hkm : k < m := by rw [hmm]; simp; omega
      have hspot : a.spot = none := by
        obtain ⟨cs0, h10, _⟩ := hel 0 (by omega)
        rw [cellsRECe] at h10
        obtain ⟨_, hl0, hc0⟩ := World.cells?_some h10
        have r0 := hc0 0 (by omega)
        rw [List.getElem?_eq_getElem (show 0 < cs0.length by omega)] at r0
        simpa [Addr.add] using World.cell?_spot r0
      obtain ⟨cs', h1, h2⟩ := hel k hkm
      have hwk : ∀ n ∈ (D k).weights Tryz.prog 32, n ≤ reachBytes := fun n hn => hw n (by
        rw [hx.1]
        simp only [DataW.weights, Tryz.underlying22, List.mem_cons, List.mem_append]
        exact .inr (.inl (weightsAll_meme (List.mem_map.2 ⟨k, List.mem_range.2 hk, rfl⟩) hn)))
      rw [cellsRECe] at h1
      obtain ⟨_, hlen, hcell⟩ := World.cells?_some h1
      obtain ⟨r, d, e, hb, hn, hlb, hft⟩ := open_rece h2 hlen hwk
      obtain ⟨b, off, spot⟩ := a
      obtain rfl : spot = none := hspot
      refine ⟨r, b, off, d, rfl, fun j u hu => ?_, hb, hn, hlb, hft⟩
      rw [← e] at hu
      have hj : j < 12 := by have := (List.getElem?_eq_some_iff.1 hu).1; omega
      have := hcell j hj
      rw [Deep.add_add, Go.WideShapes.add_plain, ← Nat.add_assoc, hu] at this
      exact this
    obtain ⟨rs, hrl, hrs⟩ := listed len0 each
    refine ⟨rs, ⟨some a, cap0, by rw [hrl], by omega, fun k r hr => ?_⟩, fun r hr => ?_⟩
    · obtain ⟨b, off, d, e, h1, h2, _⟩ := hrs k r hr
      exact ⟨b, off, d, by rw [e], h1, h2⟩
    · obtain ⟨k, hk, rfl⟩ := List.getElem_of_mem hr
      obtain ⟨_, _, _, _, _, _, h3, h5, h4⟩ := hrs k _ (List.getElem?_eq_getElem hk)
      exact ⟨h3, h4, h5⟩
set_option maxRecDepth 100000 in
theorem open_caps {H : Type} {enc : TypeId × Value → H} {W : World} {base : Nat} {v : Value} {d : DataW H} {p : List MemPlace} (hv : Value.okWide Tryz.prog W .any base 22 v)
    (h : DataW.Trod enc Tryz.prog W 0 (fun _ => true) true 22 v d p) : ∀ ao (len cap : Nat), v = .slice ao len cap → len ≤ cap ∧ cap ≤ maxLen := by
  intro ao len cap e
  subst e
  obtain ⟨fuel, hf⟩ := h
  have hf' : DataW.trod enc Tryz.prog W 0 (fun _ => true) true fuel 22 [Value.slice ao len cap] = some (d, p) := hf
  rcases Deep.open_slice Tryz.underlying22 hf' with ⟨hcs, _⟩ | ⟨a, len0, cap0, m, n, D, Pl, hcs, _, hl, hm, _⟩
  · simp at hcs
    obtain ⟨_, rfl, rfl⟩ := hcs
    exact ⟨Nat.le_refl _, Nat.zero_le _⟩
  · simp at hcs
    obtain ⟨_, rfl, rfl⟩ := hcs
    exact ⟨hl, hm⟩
theorem lin_of {w : World} {v : Value} {rs : List Rec} (h : RecsAt w v rs) (hg : DGood rs) (hc : ∀ ao, ∀ n c : Nat, v = .slice ao n c → n ≤ c ∧ c ≤ maxLen) : LIn w v rs := ⟨h, hc, fun r hr => (hg r hr).2.2, fun r hr => ⟨(hg r hr).1, (hg r hr).2.1⟩⟩
end Go.Proofs.YtdnackjakfiffaaGreatDoor
