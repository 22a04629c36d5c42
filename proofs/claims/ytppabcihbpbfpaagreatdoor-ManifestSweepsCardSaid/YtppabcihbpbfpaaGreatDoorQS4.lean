import Derived.Test.YtppabcihbpbfpaaGreatDoorRows
import Derived.ProofKit
import Derived.OpenShut
import Derived.ShutString
import Derived.ChangeOld
import Derived.ChangeMaps5
import Derived.Deep.DeepHandedRow
import Derived.Deep.Slices
import Derived.LaidLaws
import Derived.Test.YtppabcihbpbfpaaGreatDoorQK10
/-
  DiskStays and its kin: the arguments.
-/
namespace Go.Proofs.YtppabcihbpbfpaaGreatDoor
open Go.ChangeShapes Go.WideShapes Go.ChangeAt Go.RowKit
open Wb

theorem own : ownKnob Tryz.prog.godebug = none := by kernel_rfl
theorem laidOut : laidOutB Tryz.prog = true := by kernel_rfl
theorem cellsTB : Tryz.prog.cellsOf 5 = 1 := by kernel_rfl
theorem cellsTI6 : Tryz.prog.cellsOf 3 = 1 := by kernel_rfl
theorem cellsTBOOL6 : Tryz.prog.cellsOf 4 = 1 := by kernel_rfl
theorem cellsTSTR6 : Tryz.prog.cellsOf 9 = 1 := by kernel_rfl
theorem cellsTBS6 : Tryz.prog.cellsOf 32 = 1 := by kernel_rfl
theorem cellsTCUTS6 : Tryz.prog.cellsOf 26 = 1 := by kernel_rfl
theorem cellsTAFILES6 : Tryz.prog.cellsOf 25 = 1 := by kernel_rfl
theorem cellsTCUT6 : Tryz.prog.cellsOf 71 = 2 := by kernel_rfl
theorem u8_bounds {n : Int} (h : (Lit.int .u8 n).wf = true) : 0 ≤ n ∧ n < 256 := by
  have := bounds_u8 h
  omega
/-- the bytes of a row of numbers -/
theorem bs_of_row {W : World} {a : Addr} {len cap : Nat} {zs : List Int} (hl : len ≤ cap) (hm : cap ≤ maxLen) (hz : zs.length = cap) (hcell : ∀ i, i < zs.length → W.cell? (a.add i) = some (.int .u8 (zs.getD i 0)))
    (hwz : ∀ n ∈ zs, (Lit.int .u8 n).wf = true) : Bs W (.slice (some a) len cap) ((zs.take len).map Int.toNat) := by
  have hlen : ((zs.take len).map Int.toNat).length = len := by simp; omega
  refine ⟨⟨some a, cap, by rw [hlen], by omega, hm, fun e => (by cases e), fun hne => ?_⟩, fun x hx => ?_⟩
  · have hpos : 0 < len := by rw [← hlen]; exact List.length_pos_iff.2 hne
    obtain ⟨b, off, rfl, hc⟩ := ints_at hcell (by omega)
    refine ⟨b, off, rfl, fun j hj => ?_⟩
    rw [hlen] at hj
    rw [hc j (by omega)]
    have hb := u8_bounds (hwz (zs[j]'(by omega)) (List.getElem_mem _))
    have e : zs.getD j 0 = zs[j]'(by omega) := by simp [List.getD, show j < zs.length by omega]
    rw [e]
    simp only [List.getElem_map, List.getElem_take]
    congr 2
    omega
  · obtain ⟨n, hn, rfl⟩ := List.mem_map.1 hx
    have := u8_bounds (hwz n (List.mem_of_mem_take hn))
    omega
theorem open_bs6 {H : Type} {enc : TypeId × Value → H} {W : World} {fuel : Nat} {v : Value} {x : DataW H × List MemPlace}
    (h : DataW.trod enc Tryz.prog W 0 (fun _ => true) true fuel 32 [v] = some x) : ∃ l, Bs W v l := by
  obtain ⟨d, p⟩ := x
  rcases open_ints Tryz.underlying32 Tryz.underlying5 cellsTB h with ⟨hcs, _⟩ | ⟨xx, l, c, zs, hcs, _, hl, hm, hz, hx, hcell, hwz⟩
  · simp at hcs
    subst hcs
    exact ⟨[], Bs.nil W⟩
  · simp at hcs
    subst hcs
    exact ⟨_, bs_of_row hl hm (by simpa using hz) hcell hwz⟩
theorem trod_lt {H : Type} {enc : TypeId × Value → H} {W : World} {t : TypeId} {v : Value} {d : DataW H} {p : List MemPlace} (h : DataW.Trod enc Tryz.prog W 0 (fun _ => true) true t v d p) : ∀ x ∈ p, x.block < W.heap.size := by
  obtain ⟨m, hm⟩ := h
  exact DataW.trod_lt m _ _ _ hm
theorem bulk_pos {H : Type} (d : DataW H) : 1 ≤ Rows.uptoBulk d := by
  cases d with
  | lit x => cases x <;> simp [Rows.uptoBulk]
  | _ => simp [Rows.uptoBulk]
theorem bulk_count {H : Type} : ∀ l : List (DataW H), l.length ≤ Rows.uptoBulkAll l
  | [] => Nat.zero_le _
  | x :: r => by
    have := bulk_count r
    have := bulk_pos x
    simp only [Rows.uptoBulkAll, List.length_cons]
    omega
set_option maxRecDepth 100000 in
theorem open_cut {H : Type} {enc : TypeId × Value → H} {W : World} {fuel : Nat} {cs : List Value} {d : DataW H} {p : List MemPlace} (hf : DataW.trod enc Tryz.prog W 0 (fun _ => true) true fuel 71 cs = some (d, p)) (hlen : cs.length = 2) :
    ∃ q : Int × Int, cs = [.int .i64 q.1, .int .i64 q.2] := by
  obtain ⟨xs, k', _, hxy, _, hxl, hfs⟩ := DataW.trod_struct Tryz.underlying71 hf
  match xs, hxl, cs, hlen with
  | [y0, y1], _, [v0, v1], _ =>
    have g0 := hfs 0 _ rfl
    have g1 := hfs 1 _ rfl
    simp [cellsTI6] at g0 g1
    obtain ⟨z0, e0, _, b0⟩ := DataW.trod_int Tryz.underlying3 g0
    obtain ⟨z1, e1, _, b1⟩ := DataW.trod_int Tryz.underlying3 g1
    simp only [List.cons.injEq, and_true] at e0 e1
    exact ⟨(z0, z1), by simp only [e0, e1]⟩
set_option maxRecDepth 100000 in
theorem open_cuts {H : Type} {enc : TypeId × Value → H} {W : World} {fuel : Nat} {v : Value} {x : DataW H × List MemPlace} (hf : DataW.trod enc Tryz.prog W 0 (fun _ => true) true fuel 26 [v] = some x) : ∃ cs, CtS W v cs := by
  rcases Deep.open_slice Tryz.underlying26 hf with ⟨hcs, _⟩ | ⟨a, len, cap, m, n, D, Pl, hcs, _, hl, hm, hmm, hx, hel⟩
  · simp at hcs
    subst hcs
    exact ⟨[], cts_nil W⟩
  · simp at hcs
    subst hcs
    have each : ∀ k, k < len → ∃ q : Int × Int, ∃ b off, a = ⟨b, off, none⟩ ∧ W.cell? ⟨b, off + k * 2, none⟩ = some (.int .i64 q.1) ∧ W.cell? ⟨b, off + k * 2 + 1, none⟩ = some (.int .i64 q.2) := fun k hk => by
      have hkm : k < m := by rw [hmm]; simp; omega
      obtain ⟨cs', h1, h2⟩ := hel k hkm
      rw [cellsTCUT6] at h1
      obtain ⟨_, hlen, hcell⟩ := World.cells?_some h1
      obtain ⟨q, rfl⟩ := open_cut h2 hlen
      have r0 := hcell 0 (by omega)
      have r1 := hcell 1 (by omega)
      rw [Deep.add_add] at r0 r1
      have hspot : a.spot = none := by
        obtain ⟨cs0, h10, _⟩ := hel 0 (by omega)
        rw [cellsTCUT6] at h10
        obtain ⟨_, hl0, hc0⟩ := World.cells?_some h10
        have r9 := hc0 0 (by omega)
        rw [List.getElem?_eq_getElem (show 0 < cs0.length by omega)] at r9
        simpa [Addr.add] using World.cell?_spot r9
      obtain ⟨b, off, spot⟩ := a
      obtain rfl : spot = none := hspot
      rw [Go.WideShapes.add_plain] at r0 r1
      exact ⟨q, b, off, rfl, by simpa using r0, by simpa [Nat.add_assoc] using r1⟩
    obtain ⟨q, hq⟩ := Deep.choose_lt each
    have hql : ((List.range len).map q).length = len := by simp
    refine ⟨(List.range len).map q, some a, cap, by rw [hql], by rw [hql]; exact hl, hm, fun hne => ?_⟩
    have hpos : 0 < len := by
      rw [← hql]
      exact List.length_pos_iff.2 hne
    obtain ⟨b, off, rfl, -⟩ := hq 0 hpos
    refine ⟨b, off, rfl, fun j hj => ?_⟩
    rw [hql] at hj
    obtain ⟨b2, off2, e, c0, c1⟩ := hq j hj
    simp only [Addr.mk.injEq, and_true] at e
    obtain ⟨rfl, rfl⟩ := e
    simp only [List.getElem_map, List.getElem_range]
    exact ⟨c0, c1⟩
set_option maxRecDepth 100000 in
theorem open_cutsA {H : Type} {enc : TypeId × Value → H} {W : World} {base : Nat} {v : Value} {d : DataW H} {p : List MemPlace} (hv : Value.okWide Tryz.prog W .any base 26 v)
    (h : DataW.Trod enc Tryz.prog W 0 (fun _ => true) true 26 v d p) : ∃ cs, CtS W v cs := by
  obtain ⟨a0, len0, cap0, rfl⟩ := okWide_slice Tryz.underlying26 hv
  obtain ⟨fuel, hf⟩ := h
  exact open_cuts hf
theorem open_some {H : Type} {enc : TypeId × Value → H} {W : World} {fuel : Nat} {v : Value} {x : DataW H × List MemPlace} (hf : DataW.trod enc Tryz.prog W 0 (fun _ => true) true fuel 25 [v] = some x) : ∃ a n c, v = .slice a n c := by
  rcases Deep.open_slice Tryz.underlying25 hf with ⟨hcs, _⟩ | ⟨a, len, cap, m, n, D, Pl, hcs, _⟩
  · simp at hcs
    exact ⟨_, _, _, hcs⟩
  · simp at hcs
    exact ⟨_, _, _, hcs⟩
end Go.Proofs.YtppabcihbpbfpaaGreatDoor
