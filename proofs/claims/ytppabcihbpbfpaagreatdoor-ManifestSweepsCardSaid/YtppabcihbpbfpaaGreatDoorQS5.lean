import Derived.Deep.Slices
import Derived.ProofKit
import Derived.OpenShut
import Derived.SizedLaws
import Derived.Deep.DeepHandedRow
import Derived.Test.YtppabcihbpbfpaaGreatDoorQS3
import Derived.Test.YtppabcihbpbfpaaGreatDoorQS4
/-
  ManifestSweeps: the arguments.
-/
namespace Go.Proofs.YtppabcihbpbfpaaGreatDoor
open Go Go.RowKit Go.ChangeShapes Go.WideShapes Go.ChangeAt
open Wb

theorem cellsTIm : Tryz.prog.cellsOf 3 = 1 := by kernel_rfl
theorem cellsSEGm : Tryz.prog.cellsOf 56 = 3 := by kernel_rfl
theorem cellsSEGSm : Tryz.prog.cellsOf 22 = 1 := by kernel_rfl
theorem cellsMANm : Tryz.prog.cellsOf 24 = 5 := by kernel_rfl
theorem i64_boundsm {n : Int} (h : (Lit.int .i64 n).wf = true) : -9223372036854775808 ≤ n ∧ n ≤ 9223372036854775807 := by
  have e : IntKind.i64.min = -9223372036854775808 := by decide
  simp [Lit.wf] at h
  omega
set_option maxRecDepth 100000 in
theorem open_seg {H : Type} {enc : TypeId × Value → H} {W : World} {fuel : Nat} {vs : List Value} {D : DataW H} {p : List MemPlace} (hf : DataW.trod enc Tryz.prog W 0 (fun _ => true) true fuel 56 vs = some (D, p)) (hlen : vs.length = 3) :
    ∃ s : Sg, vs = sgc s := by
  obtain ⟨xs, k', _, hxy, _, hxl, hfs⟩ := DataW.trod_struct Tryz.underlying56 hf
  match xs, hxl, vs, hlen with
  | [y0, y1, y2], _, [v0, v1, v2], _ =>
    have g0 := hfs 0 _ rfl
    have g1 := hfs 1 _ rfl
    have g2 := hfs 2 _ rfl
    simp [cellsTIm] at g0 g1 g2
    obtain ⟨z0, e0, _, _⟩ := DataW.trod_int Tryz.underlying3 g0
    obtain ⟨z1, e1, _, _⟩ := DataW.trod_int Tryz.underlying3 g1
    obtain ⟨z2, e2, _, _⟩ := DataW.trod_int Tryz.underlying3 g2
    simp only [List.cons.injEq, and_true] at e0 e1 e2
    subst e0 e1 e2
    exact ⟨⟨z0, z1, z2⟩, rfl⟩
theorem listedm {α : Type} {P : Nat → α → Prop} : ∀ n, (∀ k, k < n → ∃ a, P k a) → ∃ l : List α, l.length = n ∧ ∀ k a, l[k]? = some a → P k a
  | 0, _ => ⟨[], rfl, fun k a h => by simp at h⟩
  | n + 1, h => by
    obtain ⟨l, hl, hp⟩ := listedm n (fun k hk => h k (by omega))
    obtain ⟨a, ha⟩ := h n (by omega)
    refine ⟨l ++ [a], by simp [hl], fun k b hb => ?_⟩
    by_cases hk : k < n
    · rw [List.getElem?_append_left (by omega)] at hb
      exact hp k b hb
    · rw [List.getElem?_append_right (by omega)] at hb
      obtain rfl : k = n := by
        have := (List.getElem?_eq_some_iff.1 hb).1
        simp at this
        omega
      rw [hl] at hb
      simp at hb
      exact hb ▸ ha
set_option maxRecDepth 100000 in
theorem open_segs {H : Type} {enc : TypeId × Value → H} {W : World} {fuel : Nat} {v : Value} {d : DataW H} {p : List MemPlace} (hf : DataW.trod enc Tryz.prog W 0 (fun _ => true) true fuel 22 [v] = some (d, p)) : ∃ l, SgsAt W v l := by
  rcases Deep.open_slice Tryz.underlying22 hf with ⟨hcs, _⟩ | ⟨a, len, cap, m, n, D, Pl, hcs, _, hl, hm, hmm, hx, hel⟩
  · simp at hcs
    subst hcs
    exact ⟨[], none, 0, rfl, Nat.le_refl _, Nat.zero_le _, fun k s hk => by simp at hk⟩
  · simp at hcs
    subst hcs
    have each : ∀ k, k < len → ∃ s : Sg, ∃ b off, a = ⟨b, off, none⟩ ∧ W.rangeAt b (off + k * 3) (sgc s) := fun k hk => by
      have hkm : k < m := by rw [hmm]; simp; omega
      have hspot : a.spot = none := by
        obtain ⟨cs0, h10, _⟩ := hel 0 (by omega)
        rw [cellsSEGm] at h10
        obtain ⟨_, hl0, hc0⟩ := World.cells?_some h10
        have r0 := hc0 0 (by omega)
        rw [List.getElem?_eq_getElem (show 0 < cs0.length by omega)] at r0
        simpa [Addr.add] using World.cell?_spot r0
      obtain ⟨cs', h1, h2⟩ := hel k hkm
      rw [cellsSEGm] at h1
      obtain ⟨_, hlen, hcell⟩ := World.cells?_some h1
      obtain ⟨s, e⟩ := open_seg h2 hlen
      obtain ⟨b, off, spot⟩ := a
      obtain rfl : spot = none := hspot
      refine ⟨s, b, off, rfl, fun j u hu => ?_⟩
      rw [← e] at hu
      have hj : j < 3 := by have := (List.getElem?_eq_some_iff.1 hu).1; omega
      have := hcell j hj
      rw [Deep.add_add, Go.WideShapes.add_plain, ← Nat.add_assoc, hu] at this
      exact this
    obtain ⟨l, hll, hls⟩ := listedm len each
    refine ⟨l, some a, cap, by rw [hll], by omega, hm, fun k s hk => ?_⟩
    obtain ⟨b, off, e, h1⟩ := hls k s hk
    exact ⟨b, off, by rw [e], h1⟩
set_option maxRecDepth 100000 in
theorem open_man {H : Type} {enc : TypeId × Value → H} {W : World} {base : Nat} {v : Value} {d : DataW H} {p : List MemPlace} (hv : Value.okWide Tryz.prog W .any base 24 v)
    (h : DataW.Trod enc Tryz.prog W 0 (fun _ => true) true 24 v d p) : ∃ m sv, v = mfv m sv ∧ SgsAt W sv m.l ∧ m.t ≤ 9223372036854775807 := by
  obtain ⟨cs, rfl, hcs⟩ := okWide_struct Tryz.underlying24 hv
  rw [cellsMANm] at hcs
  obtain ⟨fuel, hf⟩ := h
  obtain ⟨xs, k', _, hxy, _, hxl, hfs⟩ := DataW.trod_struct Tryz.underlying24 hf
  have hlen : cs.toList.length = 5 := by simpa using hcs
  have hcells : Value.cells (.agg cs) = cs := rfl
  rw [hcells] at hfs
  obtain ⟨vs⟩ := cs
  simp only at hfs hlen
  match xs, hxl, vs, hlen with
  | [y0, y1, y2, y3, y4], _, [v0, v1, v2, v3, v4], _ =>
    have g0 := hfs 0 _ rfl
    have g1 := hfs 1 _ rfl
    have g2 := hfs 2 _ rfl
    have g3 := hfs 3 _ rfl
    have g4 := hfs 4 _ rfl
    simp [cellsTIm, cellsSEGSm] at g0 g1 g2 g3 g4
    obtain ⟨z0, e0, _, _⟩ := DataW.trod_int Tryz.underlying3 g0
    obtain ⟨z1, e1, _, _⟩ := DataW.trod_int Tryz.underlying3 g1
    obtain ⟨z2, e2, _, _⟩ := DataW.trod_int Tryz.underlying3 g2
    obtain ⟨z3, e3, _, b3⟩ := DataW.trod_int Tryz.underlying3 g3
    obtain ⟨l, hl⟩ := open_segs g4
    simp only [List.cons.injEq, and_true] at e0 e1 e2 e3
    subst e0 e1 e2 e3
    exact ⟨⟨z0, z1, z2, z3, l⟩, v4, rfl, hl, (i64_boundsm b3).2⟩
open Rd
theorem fls_nil (w : World) : Fls (fun _ => True) w (.slice none 0 0) [] := ⟨none, 0, rfl, Nat.le_refl _, Nat.zero_le _, fun h => absurd rfl h⟩
theorem bulk_mem {H : Type} {x : DataW H} : ∀ {l : List (DataW H)}, x ∈ l → Rows.uptoBulk x ≤ Rows.uptoBulkAll l
  | y :: r, h => by
    rw [Rows.uptoBulkAll]
    rcases List.mem_cons.1 h with e | e
    · rw [e]
      omega
    · have := bulk_mem e
      omega
theorem bulk_sum {H : Type} (f : Nat → Nat) (D : Nat → DataW H) : ∀ l : List Nat, (∀ k ∈ l, f k ≤ Rows.uptoBulk (D k)) → (l.map f).sum ≤ Rows.uptoBulkAll (l.map D)
  | [], _ => by simp
  | k :: r, h => by
    rw [List.map_cons, List.map_cons, List.sum_cons, Rows.uptoBulkAll]
    have h1 := h k (List.mem_cons_self ..)
    have h2 := bulk_sum f D r fun j hj => h j (List.mem_cons_of_mem _ hj)
    omega
/-- a slice has no more elements than its bulk -/
theorem slice_bulk {H : Type} {enc : TypeId × Value → H} {W : World} {fuel : Nat} {t e : TypeId} {v : Value} {d : DataW H} {p : List MemPlace} (ht : Tryz.prog.underlying t = some (.slice e)) (h : DataW.trod enc Tryz.prog W 0 (fun _ => true) true fuel t [v] = some (d, p)) : ∃ a n c, v = .slice a n c ∧ n ≤ Rows.uptoBulk d := by
  rcases Deep.open_slice ht h with ⟨hcs, hx⟩ | ⟨a, len, cap, m, n, D, Pl, hcs, _, hl, hm, hmm, hx, hel⟩
  · simp at hcs
    exact ⟨_, _, _, hcs, Nat.zero_le _⟩
  · simp at hcs
    simp only [Prod.mk.injEq] at hx
    refine ⟨_, _, _, hcs, ?_⟩
    rw [hx.1]
    simp only [Rows.uptoBulk]
    have h9 := bulk_count ((List.range len).map D)
    simp only [List.length_map, List.length_range] at h9
    omega
theorem open_bsB {H : Type} {enc : TypeId × Value → H} {W : World} {fuel : Nat} {v : Value} {d : DataW H} {p : List MemPlace}
    (h : DataW.trod enc Tryz.prog W 0 (fun _ => true) true fuel 32 [v] = some (d, p)) : ∃ l, Bs W v l ∧ l.length ≤ Rows.uptoBulk d := by
  obtain ⟨l, hb⟩ := open_bs6 h
  obtain ⟨a, n, c, e, hn⟩ := slice_bulk Tryz.underlying32 h
  obtain ⟨a2, c2, e2, -⟩ := hb.shape
  rw [e] at e2
  simp only [Value.slice.injEq] at e2
  exact ⟨l, hb, by omega⟩
theorem open_cutsB {H : Type} {enc : TypeId × Value → H} {W : World} {fuel : Nat} {v : Value} {d : DataW H} {p : List MemPlace} (h : DataW.trod enc Tryz.prog W 0 (fun _ => true) true fuel 26 [v] = some (d, p)) : ∃ cs, CtS W v cs ∧ cs.length ≤ Rows.uptoBulk d := by
  obtain ⟨l, hb⟩ := open_cuts h
  obtain ⟨a, n, c, e, hn⟩ := slice_bulk Tryz.underlying26 h
  obtain ⟨a2, c2, e2, -⟩ := id hb
  rw [e] at e2
  simp only [Value.slice.injEq] at e2
  exact ⟨l, hb, by omega⟩
theorem cellsTAFILE6 : Tryz.prog.cellsOf 34 = 2 := by kernel_rfl
set_option maxRecDepth 100000 in
theorem open_file {H : Type} {enc : TypeId × Value → H} {W : World} {fuel : Nat} {cs : List Value} {d : DataW H} {p : List MemPlace} (hf : DataW.trod enc Tryz.prog W 0 (fun _ => true) true fuel 34 cs = some (d, p)) (hlen : cs.length = 2) :
    ∃ (s : List UInt8) (dv : Value) (l : List Nat), cs = [enS s, dv] ∧ s.length ≤ maxLen ∧ Bs W dv l ∧ l.length ≤ Rows.uptoBulk d := by
  obtain ⟨xs, k', _, hxy, _, hxl, hfs⟩ := DataW.trod_struct Tryz.underlying34 hf
  match xs, hxl, cs, hlen with
  | [y0, y1], _, [v0, v1], _ =>
    have g0 := hfs 0 _ rfl
    have g1 := hfs 1 _ rfl
    simp [cellsTSTR6, cellsTBS6] at g0 g1
    obtain ⟨z0, e0, _, b0⟩ := DataW.trod_string Tryz.underlying9 g0
    obtain ⟨l, hl, hb⟩ := open_bsB (d := y1.1) (p := y1.2) g1
    simp only [List.cons.injEq, and_true] at e0
    simp only [Prod.mk.injEq] at hxy
    refine ⟨z0.data.toList, v1, l, ?_, ?_, hl, ?_⟩
    · rw [e0]
      simp [enS]
    · simpa using b0
    · rw [hxy.1]
      simp only [Rows.uptoBulk, List.map_cons, List.map_nil, Rows.uptoBulkAll]
      omega
set_option maxRecDepth 100000 in
theorem open_filesB {H : Type} {enc : TypeId × Value → H} {W : World} {fuel : Nat} {v : Value} {d : DataW H} {p : List MemPlace} (hf : DataW.trod enc Tryz.prog W 0 (fun _ => true) true fuel 25 [v] = some (d, p)) : ∃ fs, Fls (fun _ => True) W v fs ∧ fs.length ≤ Rows.uptoBulk d ∧ (∀ x ∈ fs, x.1.length ≤ maxLen) ∧ Dk.flen fs ≤ Rows.uptoBulk d := by
  rcases Deep.open_slice Tryz.underlying25 hf with ⟨hcs, _⟩ | ⟨a, len, cap, m, n, D, Pl, hcs, _, hl, hm, hmm, hx, hel⟩
  · simp at hcs
    subst hcs
    exact ⟨[], fls_nil W, Nat.zero_le _, (fun x hx => by cases hx), Nat.zero_le _⟩
  · simp at hcs
    subst hcs
    have each : ∀ k, k < len → ∃ q : List UInt8 × List Nat, (∃ b off, a = ⟨b, off, none⟩ ∧ W.cell? ⟨b, off + k * 2, none⟩ = some (enS q.1) ∧ ∃ dv, W.cell? ⟨b, off + k * 2 + 1, none⟩ = some dv ∧ Bs W dv q.2) ∧ q.1.length ≤ maxLen ∧ q.2.length ≤ Rows.uptoBulk (D k) := fun k hk => by
      have hkm : k < m := by rw [hmm]; simp; omega
      obtain ⟨cs', h1, h2⟩ := hel k hkm
      rw [cellsTAFILE6] at h1
      obtain ⟨_, hlen, hcell⟩ := World.cells?_some h1
      obtain ⟨s, dv, l, rfl, i1, i2, i3⟩ := open_file h2 hlen
      have r0 := hcell 0 (by omega)
      have r1 := hcell 1 (by omega)
      rw [Deep.add_add] at r0 r1
      have hspot : a.spot = none := by
        obtain ⟨cs0, h10, _⟩ := hel 0 (by omega)
        rw [cellsTAFILE6] at h10
        obtain ⟨_, hl0, hc0⟩ := World.cells?_some h10
        have r9 := hc0 0 (by omega)
        rw [List.getElem?_eq_getElem (show 0 < cs0.length by omega)] at r9
        simpa [Addr.add] using World.cell?_spot r9
      obtain ⟨b, off, spot⟩ := a
      obtain rfl : spot = none := hspot
      rw [Go.WideShapes.add_plain] at r0 r1
      exact ⟨(s, l), ⟨b, off, rfl, by simpa using r0, dv, by simpa [Nat.add_assoc] using r1, i2⟩, i1, i3⟩
    obtain ⟨q, hq⟩ := Deep.choose_lt each
    have hql : ((List.range len).map q).length = len := by simp
    simp only [Prod.mk.injEq] at hx
    have hbk : Rows.uptoBulkAll ((List.range len).map D) ≤ Rows.uptoBulk d := by
      rw [hx.1]
      simp only [Rows.uptoBulk]
      omega
    refine ⟨(List.range len).map q, ⟨some a, cap, by rw [hql], by rw [hql]; exact hl, hm, fun hne => ?_⟩, ?_, fun x hx2 => ?_, ?_⟩
    · have hpos : 0 < len := by
        rw [← hql]
        exact List.length_pos_iff.2 hne
      obtain ⟨⟨b, off, rfl, -⟩, -⟩ := hq 0 hpos
      refine ⟨b, off, rfl, trivial, fun j hj => ?_⟩
      rw [hql] at hj
      obtain ⟨⟨b2, off2, e, c0, dv, c1, c2⟩, -⟩ := hq j hj
      simp only [Addr.mk.injEq, and_true] at e
      obtain ⟨rfl, rfl⟩ := e
      simp only [List.getElem_map, List.getElem_range]
      exact ⟨c0, dv, c1, c2, fun _ _ _ _ _ => trivial⟩
    · rw [hql]
      have h9 := bulk_count ((List.range len).map D)
      simp only [List.length_map, List.length_range] at h9
      omega
    · obtain ⟨k, hk, rfl⟩ := List.mem_map.1 hx2
      exact (hq k (List.mem_range.1 hk)).2.1
    · unfold Dk.flen
      rw [List.map_map]
      refine Nat.le_trans (bulk_sum _ D _ fun k hk => ?_) hbk
      exact (hq k (List.mem_range.1 hk)).2.2

set_option maxRecDepth 100000 in
theorem open_filesC {H : Type} {enc : TypeId × Value → H} {W : World} {base : Nat} {v : Value} {d : DataW H} {p : List MemPlace} (hv : Value.okWide Tryz.prog W .any base 25 v)
    (h : DataW.Trod enc Tryz.prog W 0 (fun _ => true) true 25 v d p) : ∃ fs, Fls (fun _ => True) W v fs ∧ (∀ x ∈ fs, x.1.length ≤ maxLen) := by
  obtain ⟨a0, len0, cap0, rfl⟩ := okWide_slice Tryz.underlying25 hv
  obtain ⟨fuel, hf⟩ := h
  obtain ⟨fs, h1, -, h3, -⟩ := open_filesB (v := .slice a0 len0 cap0) hf
  exact ⟨fs, h1, h3⟩
end Go.Proofs.YtppabcihbpbfpaaGreatDoor
