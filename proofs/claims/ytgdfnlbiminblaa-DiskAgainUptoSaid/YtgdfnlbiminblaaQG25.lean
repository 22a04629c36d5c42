import Derived.Lib.LaidU8
import Derived.Test.YtgdfnlbiminblaaQG10
import Derived.Test.YtgdfnlbiminblaaQG24
/-
  DiskAgain: the arguments.
-/
namespace Go.Proofs.Ytgdfnlbiminblaa
open Go.ChangeShapes Go.WideShapes Go.ChangeAt Go.RowKit
open Wb
open Rd
theorem fls_nil (w : World) : Fls (fun _ => True) w (.slice none 0 0) [] := ⟨none, 0, rfl, Nat.le_refl _, Nat.zero_le _, fun h => absurd rfl h⟩
theorem bulk_mem {H : Type} {x : DataW H} : ∀ {l : List (DataW H)}, x ∈ l → Rows.uptoBulk x ≤ Rows.uptoBulkAll l
  | y :: r, h => by
    rw [Rows.uptoBulkAll]
    rcases List.mem_cons.1 h with e | e
    · rw [e]
      omega
    · have := bulk_mem e
      omega
theorem bulk_sum {H : Type} (f : Nat → Nat) (D : Nat → DataW H) : ∀ l : List Nat, (∀ k ∈ l, f k ≤ Rows.uptoBulk (D k)) → (l.map f).sum ≤ Rows.uptoBulkAll (l.map D)
  | [], _ => by simp
  | k :: r, h => by
    rw [List.map_cons, List.map_cons, List.sum_cons, Rows.uptoBulkAll]
    have h1 := h k (List.mem_cons_self ..)
    have h2 := bulk_sum f D r fun j hj => h j (List.mem_cons_of_mem _ hj)
    omega
/-- a slice has no more elements than its bulk -/
theorem slice_bulk {H : Type} {enc : TypeId × Value → H} {W : World} {fuel : Nat} {t e : TypeId} {v : Value} {d : DataW H} {p : List MemPlace} (ht : Try.prog.underlying t = some (.slice e)) (h : DataW.trod enc Try.prog W 0 (fun _ => true) true fuel t [v] = some (d, p)) : ∃ a n c, v = .slice a n c ∧ n ≤ Rows.uptoBulk d := by
  rcases Deep.open_slice ht h with ⟨hcs, hx⟩ | ⟨a, len, cap, m, n, D, Pl, hcs, _, hl, hm, hmm, hx, hel⟩
  · simp at hcs
    exact ⟨_, _, _, hcs, Nat.zero_le _⟩
  · simp at hcs
    simp only [Prod.mk.injEq] at hx
    refine ⟨_, _, _, hcs, ?_⟩
    rw [hx.1]
    simp only [Rows.uptoBulk]
    have h9 := bulk_count ((List.range len).map D)
    simp only [List.length_map, List.length_range] at h9
    omega
theorem open_bsB {H : Type} {enc : TypeId × Value → H} {W : World} {fuel : Nat} {v : Value} {d : DataW H} {p : List MemPlace}
    (h : DataW.trod enc Try.prog W 0 (fun _ => true) true fuel 23 [v] = some (d, p)) : ∃ l, Bs W v l ∧ l.length ≤ Rows.uptoBulk d := by
  obtain ⟨l, hb⟩ := open_bs6 h
  obtain ⟨a, n, c, e, hn⟩ := slice_bulk Try.underlying23 h
  obtain ⟨a2, c2, e2, -⟩ := hb.shape
  rw [e] at e2
  simp only [Value.slice.injEq] at e2
  exact ⟨l, hb, by omega⟩
theorem open_cutsB {H : Type} {enc : TypeId × Value → H} {W : World} {fuel : Nat} {v : Value} {d : DataW H} {p : List MemPlace} (h : DataW.trod enc Try.prog W 0 (fun _ => true) true fuel 24 [v] = some (d, p)) : ∃ cs, CtS W v cs ∧ cs.length ≤ Rows.uptoBulk d := by
  obtain ⟨l, hb⟩ := open_cuts h
  obtain ⟨a, n, c, e, hn⟩ := slice_bulk Try.underlying24 h
  obtain ⟨a2, c2, e2, -⟩ := id hb
  rw [e] at e2
  simp only [Value.slice.injEq] at e2
  exact ⟨l, hb, by omega⟩
theorem cellsTAFILE6 : Try.prog.cellsOf 30 = 2 := by kernel_rfl
set_option maxRecDepth 100000 in
theorem open_file {H : Type} {enc : TypeId × Value → H} {W : World} {fuel : Nat} {cs : List Value} {d : DataW H} {p : List MemPlace} (hf : DataW.trod enc Try.prog W 0 (fun _ => true) true fuel 30 cs = some (d, p)) (hlen : cs.length = 2) :
    ∃ (s : List UInt8) (dv : Value) (l : List Nat), cs = [enS s, dv] ∧ s.length ≤ maxLen ∧ Bs W dv l ∧ l.length ≤ Rows.uptoBulk d := by
  obtain ⟨xs, k', _, hxy, _, hxl, hfs⟩ := DataW.trod_struct Try.underlying30 hf
  match xs, hxl, cs, hlen with
  | [y0, y1], _, [v0, v1], _ =>
    have g0 := hfs 0 _ rfl
    have g1 := hfs 1 _ rfl
    simp [cellsTSTR6, cellsTBS6] at g0 g1
    obtain ⟨z0, e0, _, b0⟩ := DataW.trod_string Try.underlying9 g0
    obtain ⟨l, hl, hb⟩ := open_bsB (d := y1.1) (p := y1.2) g1
    simp only [List.cons.injEq, and_true] at e0
    simp only [Prod.mk.injEq] at hxy
    refine ⟨z0.data.toList, v1, l, ?_, ?_, hl, ?_⟩
    · rw [e0]
      simp [enS]
    · simpa using b0
    · rw [hxy.1]
      simp only [Rows.uptoBulk, List.map_cons, List.map_nil, Rows.uptoBulkAll]
      omega
set_option maxRecDepth 100000 in
theorem open_filesB {H : Type} {enc : TypeId × Value → H} {W : World} {fuel : Nat} {v : Value} {d : DataW H} {p : List MemPlace} (hf : DataW.trod enc Try.prog W 0 (fun _ => true) true fuel 22 [v] = some (d, p)) : ∃ fs, Fls (fun _ => True) W v fs ∧ fs.length ≤ Rows.uptoBulk d ∧ (∀ x ∈ fs, x.1.length ≤ maxLen) ∧ Dk.flen fs ≤ Rows.uptoBulk d := by
  rcases Deep.open_slice Try.underlying22 hf with ⟨hcs, _⟩ | ⟨a, len, cap, m, n, D, Pl, hcs, _, hl, hm, hmm, hx, hel⟩
  · simp at hcs
    subst hcs
    exact ⟨[], fls_nil W, Nat.zero_le _, (fun x hx => by cases hx), Nat.zero_le _⟩
  · simp at hcs
    subst hcs
    have each : ∀ k, k < len → ∃ q : List UInt8 × List Nat, (∃ b off, a = ⟨b, off, none⟩ ∧ W.cell? ⟨b, off + k * 2, none⟩ = some (enS q.1) ∧ ∃ dv, W.cell? ⟨b, off + k * 2 + 1, none⟩ = some dv ∧ Bs W dv q.2) ∧ q.1.length ≤ maxLen ∧ q.2.length ≤ Rows.uptoBulk (D k) := fun k hk => by
      have hkm : k < m := by rw [hmm]; simp; omega
      obtain ⟨cs', h1, h2⟩ := hel k hkm
      rw [cellsTAFILE6] at h1
      obtain ⟨_, hlen, hcell⟩ := World.cells?_some h1
      obtain ⟨s, dv, l, rfl, i1, i2, i3⟩ := open_file h2 hlen
      have r0 := hcell 0 (by omega)
      have r1 := hcell 1 (by omega)
      rw [Deep.add_add] at r0 r1
      have hspot : a.spot = none := by
        obtain ⟨cs0, h10, _⟩ := hel 0 (by omega)
        rw [cellsTAFILE6] at h10
        obtain ⟨_, hl0, hc0⟩ := World.cells?_some h10
        have r9 := hc0 0 (by omega)
        rw [List.getElem?_eq_getElem (show 0 < cs0.length by omega)] at r9
        simpa [Addr.add] using World.cell?_spot r9
      obtain ⟨b, off, spot⟩ := a
      obtain rfl : spot = none := hspot
      rw [Go.WideShapes.add_plain] at r0 r1
      exact ⟨(s, l), ⟨b, off, rfl, by simpa using r0, dv, by simpa [Nat.add_assoc] using r1, i2⟩, i1, i3⟩
    obtain ⟨q, hq⟩ := Deep.choose_lt each
    have hql : ((List.range len).map q).length = len := by simp
    simp only [Prod.mk.injEq] at hx
    have hbk : Rows.uptoBulkAll ((List.range len).map D) ≤ Rows.uptoBulk d := by
      rw [hx.1]
      simp only [Rows.uptoBulk]
      omega
    refine ⟨(List.range len).map q, ⟨some a, cap, by rw [hql], by rw [hql]; exact hl, hm, fun hne => ?_⟩, ?_, fun x hx2 => ?_, ?_⟩
    · have hpos : 0 < len := by
        rw [← hql]
        exact List.length_pos_iff.2 hne
      obtain ⟨⟨b, off, rfl, -⟩, -⟩ := hq 0 hpos
      refine ⟨b, off, rfl, trivial, fun j hj => ?_⟩
      rw [hql] at hj
      obtain ⟨⟨b2, off2, e, c0, dv, c1, c2⟩, -⟩ := hq j hj
      simp only [Addr.mk.injEq, and_true] at e
      obtain ⟨rfl, rfl⟩ := e
      simp only [List.getElem_map, List.getElem_range]
      exact ⟨c0, dv, c1, c2, fun _ _ _ _ _ => trivial⟩
    · rw [hql]
      have h9 := bulk_count ((List.range len).map D)
      simp only [List.length_map, List.length_range] at h9
      omega
    · obtain ⟨k, hk, rfl⟩ := List.mem_map.1 hx2
      exact (hq k (List.mem_range.1 hk)).2.1
    · unfold Dk.flen
      rw [List.map_map]
      refine Nat.le_trans (bulk_sum _ D _ fun k hk => ?_) hbk
      exact (hq k (List.mem_range.1 hk)).2.2
set_option maxRecDepth 100000 in
theorem open_filesA {H : Type} {enc : TypeId × Value → H} {W : World} {base : Nat} {v : Value} {d : DataW H} {p : List MemPlace} (hv : Value.okWide Try.prog W .any base 22 v)
    (h : DataW.Trod enc Try.prog W 0 (fun _ => true) true 22 v d p) (hw : Rows.uptoBulk d ≤ 1048576) : ∃ fs, Fls (fun _ => True) W v fs ∧ fs.length ≤ 1048576 ∧ (∀ x ∈ fs, x.1.length ≤ maxLen) ∧ Dk.flen fs ≤ 1048576 := by
  obtain ⟨a0, len0, cap0, rfl⟩ := okWide_slice Try.underlying22 hv
  obtain ⟨fuel, hf⟩ := h
  obtain ⟨fs, h1, h2, h3, h4⟩ := open_filesB (v := .slice a0 len0 cap0) hf
  exact ⟨fs, h1, Nat.le_trans h2 hw, h3, Nat.le_trans h4 hw⟩
theorem cellsTP2 : Try.prog.cellsOf 57 = 2 := by kernel_rfl
set_option maxRecDepth 100000 in
theorem open_two {H : Type} {enc : TypeId × Value → H} {W : World} {fuel : Nat} {cs : List Value} {d : DataW H} {p : List MemPlace} (hf : DataW.trod enc Try.prog W 0 (fun _ => true) true fuel 57 cs = some (d, p)) (hlen : cs.length = 2) :
    ∃ x y, cs = [.int .i64 x, .int .i64 y] ∧ (Lit.int .i64 x).wf = true ∧ (Lit.int .i64 y).wf = true := by
  obtain ⟨ds, rfl⟩ : ∃ ds, d = .agg ds := by
    cases fuel with
    | zero => simp [DataW.trod] at hf
    | succ fuel =>
      simp only [DataW.trod, Try.underlying57] at hf
      split at hf
      · obtain ⟨xs, _, hx⟩ := Option.map_eq_some_iff.1 hf
        exact ⟨_, (congrArg Prod.fst hx).symm⟩
      · cases hf
  obtain ⟨f0, d0, q0, -, h0⟩ := Lib.array_elem Try.underlying57 hf 0 (by decide)
  obtain ⟨f1, d1, q1, -, h1⟩ := Lib.array_elem Try.underlying57 hf 1 (by decide)
  rw [cellsTI6] at h0 h1
  match cs, hlen with
  | [v0, v1], _ =>
    simp at h0 h1
    obtain ⟨z0, e0, _, b0⟩ := DataW.trod_int Try.underlying3 h0
    obtain ⟨z1, e1, _, b1⟩ := DataW.trod_int Try.underlying3 h1
    simp only [List.cons.injEq, and_true] at e0 e1
    exact ⟨z0, z1, by simp only [e0, e1], b0, b1⟩
set_option maxRecDepth 100000 in
theorem open_prs2 {H : Type} {enc : TypeId × Value → H} {W : World} {base : Nat} {v : Value} {d : DataW H} {p : List MemPlace} (hv : Value.okWide Try.prog W .any base 25 v)
    (h : DataW.Trod enc Try.prog W 0 (fun _ => true) true 25 v d p) : ∃ ps, Pr W v ps ∧ ∀ x ∈ ps, (Lit.int .i64 x.1).wf = true ∧ (Lit.int .i64 x.2).wf = true := by
  obtain ⟨a0, len0, cap0, rfl⟩ := okWide_slice Try.underlying25 hv
  obtain ⟨fuel, hf⟩ := h
  rcases Deep.open_slice Try.underlying25 hf with ⟨hcs, _⟩ | ⟨a, len, cap, m, n, D, Pl, hcs, _, hl, hm, hmm, hx, hel⟩
  · simp [Value.cells] at hcs
    obtain ⟨rfl, rfl, rfl⟩ := hcs
    exact ⟨[], ⟨none, 0, rfl, by simp, by simp [maxLen], fun e => absurd rfl e⟩, fun x hx => by cases hx⟩
  · simp [Value.cells] at hcs
    obtain ⟨rfl, rfl, rfl⟩ := hcs
    have each : ∀ k, k < len0 → ∃ q : Int × Int, ∃ b off, a = ⟨b, off, none⟩ ∧ W.cell? ⟨b, off + k * 2, none⟩ = some (.int .i64 q.1) ∧ W.cell? ⟨b, off + k * 2 + 1, none⟩ = some (.int .i64 q.2) ∧ (Lit.int .i64 q.1).wf = true ∧ (Lit.int .i64 q.2).wf = true := fun k hk => by
      have hkm : k < m := by rw [hmm]; simp; omega
      obtain ⟨cs', h1, h2⟩ := hel k hkm
      rw [cellsTP2] at h1
      obtain ⟨_, hlen, hcell⟩ := World.cells?_some h1
      obtain ⟨x, y, rfl, bx, by1⟩ := open_two h2 hlen
      have r0 := hcell 0 (by omega)
      have r1 := hcell 1 (by omega)
      rw [Deep.add_add] at r0 r1
      have hspot : a.spot = none := by
        obtain ⟨cs0, h10, _⟩ := hel 0 (by omega)
        rw [cellsTP2] at h10
        obtain ⟨_, hl0, hc0⟩ := World.cells?_some h10
        have r9 := hc0 0 (by omega)
        rw [List.getElem?_eq_getElem (show 0 < cs0.length by omega)] at r9
        simpa [Addr.add] using World.cell?_spot r9
      obtain ⟨b, off, spot⟩ := a
      obtain rfl : spot = none := hspot
      rw [Go.WideShapes.add_plain] at r0 r1
      exact ⟨(x, y), b, off, rfl, by simpa using r0, by simpa [Nat.add_assoc] using r1, bx, by1⟩
    obtain ⟨q, hq⟩ := Deep.choose_lt each
    have hql : ((List.range len0).map q).length = len0 := by simp
    refine ⟨(List.range len0).map q, ⟨some a, cap0, by rw [hql], by rw [hql]; exact hl, hm, fun hne => ?_⟩, fun x hx => ?_⟩
    · have hpos : 0 < len0 := by
        rw [← hql]
        exact List.length_pos_iff.2 hne
      obtain ⟨b, off, rfl, -⟩ := hq 0 hpos
      refine ⟨b, off, rfl, fun j hj => ?_⟩
      rw [hql] at hj
      obtain ⟨b2, off2, e, c0, c1, -⟩ := hq j hj
      simp only [Addr.mk.injEq, and_true] at e
      obtain ⟨rfl, rfl⟩ := e
      simp only [List.getElem_map, List.getElem_range]
      exact ⟨c0, c1⟩
    · obtain ⟨j, hj, rfl⟩ := List.mem_map.1 hx
      obtain ⟨_, _, _, _, _, b0, b1⟩ := hq j (List.mem_range.1 hj)
      exact ⟨b0, b1⟩
set_option maxRecDepth 100000 in
theorem open_bsA {H : Type} {enc : TypeId × Value → H} {W : World} {base : Nat} {v : Value} {d : DataW H} {p : List MemPlace} (hv : Value.okWide Try.prog W .any base 23 v)
    (h : DataW.Trod enc Try.prog W 0 (fun _ => true) true 23 v d p) : ∃ l, Bs W v l := by
  obtain ⟨a0, len0, cap0, rfl⟩ := okWide_slice Try.underlying23 hv
  obtain ⟨fuel, hf⟩ := h
  exact open_bs6 (v := .slice a0 len0 cap0) hf
set_option maxRecDepth 100000 in
theorem open_cutsN {H : Type} {enc : TypeId × Value → H} {W : World} {base : Nat} {v : Value} {d : DataW H} {p : List MemPlace} (hv : Value.okWide Try.prog W .any base 24 v)
    (h : DataW.Trod enc Try.prog W 0 (fun _ => true) true 24 v d p) : ∃ cs, CtS W v cs ∧ cs.length ≤ Rows.uptoBulk d := by
  obtain ⟨a0, len0, cap0, rfl⟩ := okWide_slice Try.underlying24 hv
  obtain ⟨fuel, hf⟩ := h
  exact open_cutsB (v := .slice a0 len0 cap0) hf
/-- both ways -/
theorem diskAgain_any (q : Int) (ok1 : Nat → Prop) (vf vd vc vt : Value) (fs : List (List UInt8 × List Nat)) (l : List Nat) (cs ts : List (Int × Int)) (w : World) (hf : Fls ok1 w vf fs) (hd : Bs w vd l) (hc : CtS w vc cs) (ht : Pr w vt ts) (hn : fs.length ≤ 1048576) (hnm : ∀ x ∈ fs, x.1.length ≤ maxLen) (hfl : Dk.flen fs ≤ 1000000000) (hcl : cs.length ≤ 1048576) :
    Calls Try.prog 3 #[.int .i64 q, vf, vd, vc, vt] w fun e w' => e = .returned (.bool true) ∧ Below w.heap.size w w' := by
  by_cases h : q > 65536 ∨ l.length > 20000
  · exact diskAgain_early q vf vd vc vt l w hd h
  · exact diskAgain_walk q ok1 vf vd vc vt fs l cs ts w hf hd hc ht hn hnm hfl hcl (by omega) (by omega)
end Go.Proofs.Ytgdfnlbiminblaa
