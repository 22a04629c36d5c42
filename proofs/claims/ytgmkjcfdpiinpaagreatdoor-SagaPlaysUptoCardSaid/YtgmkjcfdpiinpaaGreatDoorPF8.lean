import Derived.Test.YtgmkjcfdpiinpaaGreatDoorPF6
import Derived.Test.YtgmkjcfdpiinpaaGreatDoorPD9
open Go.Proofs.Tryz
set_option maxRecDepth 100000
namespace Go.Proofs.YtgmkjcfdpiinpaaGreatDoor
open Go Go.RowKit Go.ChangeShapes Go.WideShapes Go.ChangeAt
open Wb

theorem cellsTSk : prog.cellsOf 26 = 1 := by kernel_rfl
theorem cellsTBSSk : prog.cellsOf 29 = 1 := by kernel_rfl
theorem cellsTBOOLk : prog.cellsOf 4 = 1 := by kernel_rfl
theorem cellsTSAGAk : prog.cellsOf 31 = 16 := by kernel_rfl
theorem cellsTRECk2 : prog.cellsOf 28 = 12 := by kernel_rfl
theorem cellsTSOPk : prog.cellsOf 40 = 29 := by kernel_rfl
theorem open_psk {H : Type} {enc : TypeId × Value → H} {W : World} {fuel : Nat} {v : Value} {x : DataW H × List MemPlace} (hf : DataW.trod enc prog W 0 (fun _ => true) true fuel 29 [v] = some x) :
  ∃ ls, Ps W v ls ∧ (∃ ao cap, v = .slice ao ls.length cap) ∧ ls.length ≤ Rows.uptoBulk x.1 ∧ ∀ l ∈ ls, l.length ≤ Rows.uptoBulk x.1 := by
 obtain ⟨d, p⟩ := x
 rcases Deep.open_slice underlying29 hf with ⟨hcs, _⟩ | ⟨a, len0, cap0, m, n, D, Pl, hcs, _, hl, hm, hmm, hx, hel⟩
 ·simp at hcs
  subst hcs
  exact ⟨[], ⟨none, 0, rfl, by simp [maxLen], fun e => absurd rfl e⟩, ⟨none, 0, rfl⟩, Nat.zero_le _, fun l hl => by cases hl⟩
 ·simp at hcs
  subst hcs
  simp only [Prod.mk.injEq] at hx
  have hcnt : len0 ≤ Rows.uptoBulk d := by
   rw [hx.1]
   simp only [Rows.uptoBulk]
   have := bulk_count ((List.range len0).map D)
   simp only [List.length_map, List.length_range] at this
   omega
  have each : ∀ k, k < len0 → ∃ l : List Nat, ∃ b off vj, a = ⟨b, off, none⟩ ∧ W.cell? ⟨b, off + k, none⟩ = some vj ∧ Bs W vj l ∧ l.length ≤ Rows.uptoBulk d := fun k hk => by
   have hkm : k < m := by rw [hmm]; simp; omega
   have hspot : a.spot = none := by
    obtain ⟨cs0, h10, _⟩ := hel 0 (by omega)
    rw [cellsTSk] at h10
    obtain ⟨_, hl0, hc0⟩ := World.cells?_some h10
    have r0 := hc0 0 (by omega)
    rw [List.getElem?_eq_getElem (show 0 < cs0.length by omega)] at r0
    simpa [Addr.add] using World.cell?_spot r0
   obtain ⟨cs', h1, h2⟩ := hel k hkm
   have hwk : Rows.uptoBulk (D k) ≤ Rows.uptoBulk d := by
    rw [hx.1]
    simp only [Rows.uptoBulk]
    have := bulk_memr (l := (List.range len0).map D) (d := D k) (List.mem_map.2 ⟨k, List.mem_range.2 hk, rfl⟩)
    omega
   rw [cellsTSk] at h1
   obtain ⟨_, hlen, hcell⟩ := World.cells?_some h1
   match cs', hlen with
   | [vj], _ =>
    obtain ⟨l, hb, hn⟩ := open_bsk h2
    have hn : l.length ≤ Rows.uptoBulk (D k) := hn
    obtain ⟨b, off, spot⟩ := a
    obtain rfl : spot = none := hspot
    refine ⟨l, b, off, vj, rfl, ?_, hb, by omega⟩
    have := hcell 0 (by omega)
    simpa [Deep.add_add, Go.WideShapes.add_plain] using this
  obtain ⟨ls, hrl, hrs⟩ := listed4 len0 each
  refine ⟨ls, ⟨some a, cap0, by rw [hrl], by rw [hrl]; omega, fun hne => ?_⟩, ⟨some a, cap0, by rw [hrl]⟩, by rw [hrl]; exact hcnt, fun l hl => ?_⟩
  ·have hpos : 0 < ls.length := List.length_pos_iff.2 hne
   obtain ⟨b, off, _, e0, _⟩ := hrs 0 _ (List.getElem?_eq_getElem hpos)
   refine ⟨b, off, by rw [e0], fun j hj => ?_⟩
   obtain ⟨b2, off2, vj, e2, q1, q2, _⟩ := hrs j _ (List.getElem?_eq_getElem hj)
   rw [e0] at e2
   simp only [Addr.mk.injEq, and_true] at e2
   obtain ⟨rfl, rfl⟩ := e2
   exact ⟨vj, q1, q2⟩
  ·obtain ⟨k, hk, rfl⟩ := List.getElem_of_mem hl
   obtain ⟨_, _, _, _, _, _, h3⟩ := hrs k _ (List.getElem?_eq_getElem hk)
   exact h3
theorem open_sagal {H : Type} {enc : TypeId × Value → H} {W : World} {fuel : Nat} {vs : List Value} {d : DataW H} {p : List MemPlace} (hf : DataW.trod enc prog W 0 (fun _ => true) true fuel 31 vs = some (d, p)) (hlen : vs.length = 16) (hw : Rows.uptoBulk d ≤ 1048576) :
  ∃ (S : Sg) (h : SH), vs = scl S h ∧ SgAt W S h ∧ Fits S := by
 obtain ⟨xs, k', _, hxy, _, hxl, hfs⟩ := DataW.trod_struct underlying31 hf
 match xs, hxl, vs, hlen with
 | [y0, y1, y2, y3, y4, y5, y6, y7, y8, y9, y10, y11, y12, y13, y14, y15], _, [v0, v1, v2, v3, v4, v5, v6, v7, v8, v9, v10, v11, v12, v13, v14, v15], _ =>
  have g0 := hfs 0 _ rfl
  have g1 := hfs 1 _ rfl
  have g2 := hfs 2 _ rfl
  have g3 := hfs 3 _ rfl
  have g4 := hfs 4 _ rfl
  have g5 := hfs 5 _ rfl
  have g6 := hfs 6 _ rfl
  have g7 := hfs 7 _ rfl
  have g8 := hfs 8 _ rfl
  have g9 := hfs 9 _ rfl
  have g10 := hfs 10 _ rfl
  have g11 := hfs 11 _ rfl
  have g12 := hfs 12 _ rfl
  have g13 := hfs 13 _ rfl
  have g14 := hfs 14 _ rfl
  have g15 := hfs 15 _ rfl
  simp [cellsTIk, cellsTSTRk, cellsTBSk, cellsTBSSk, cellsTBOOLk] at g0 g1 g2 g3 g4 g5 g6 g7 g8 g9 g10 g11 g12 g13 g14 g15
  simp only [Prod.mk.injEq] at hxy
  obtain ⟨z0, e0, _, b0⟩ := DataW.trod_int underlying3 g0
  obtain ⟨z1, e1, q1, _⟩ := DataW.trod_string underlying9 g1
  obtain ⟨z2, e2, _, b2⟩ := DataW.trod_int underlying3 g2
  obtain ⟨z3, e3, _, b3⟩ := DataW.trod_int underlying3 g3
  obtain ⟨z4, e4, _, b4⟩ := DataW.trod_int underlying3 g4
  obtain ⟨z5, e5, _, b5⟩ := DataW.trod_int underlying3 g5
  obtain ⟨l6, hb6, hlb6⟩ := open_bsk g6
  obtain ⟨a6, c6, rfl, _⟩ := hb6.shape
  obtain ⟨z7, e7, _, b7⟩ := DataW.trod_int underlying3 g7
  obtain ⟨z8, e8, _, b8⟩ := DataW.trod_int underlying3 g8
  obtain ⟨z9, e9, _⟩ := DataW.trod_bool underlying4 g9
  obtain ⟨z10, e10, _, b10⟩ := DataW.trod_int underlying3 g10
  obtain ⟨l11, hb11, ⟨a11, c11, rfl⟩, hln11, hlb11⟩ := open_psk g11
  obtain ⟨l12, hb12, ⟨a12, c12, rfl⟩, hln12, hlb12⟩ := open_psk g12
  obtain ⟨z13, e13, _, b13⟩ := DataW.trod_int underlying3 g13
  obtain ⟨z14, e14, _, b14⟩ := DataW.trod_int underlying3 g14
  obtain ⟨l15, hb15, hlb15⟩ := open_bsk g15
  obtain ⟨a15, c15, rfl, _⟩ := hb15.shape
  have h1q : y1.1 = .lit (.string z1.data.toList) := congrArg Prod.fst q1
  have hsz : z1.data.size = z1.size := rfl
  have hsum : z1.size ≤ 1048576 ∧ Rows.uptoBulk y6.1 ≤ 1048576 ∧ Rows.uptoBulk y11.1 ≤ 1048576 ∧ Rows.uptoBulk y12.1 ≤ 1048576 ∧ Rows.uptoBulk y15.1 ≤ 1048576 := by
   rw [hxy.1] at hw
   simp [Rows.uptoBulk, Rows.uptoBulkAll, h1q] at hw
   omega
  simp only [List.cons.injEq, and_true] at e0 e1 e2 e3 e4 e5 e7 e8 e9 e10 e13 e14
  subst e0 e1 e2 e3 e4 e5 e7 e8 e9 e10 e13 e14
  refine ⟨⟨⟨z0, z2, z3, z4, z5, z7, z8, z9, z10, z13, z14⟩, z1, l6, l11, l12, l15⟩, ⟨a6, c6, a11, c11, a12, c12, a15, c15⟩, rfl, ⟨hb6, hb11, hb12, hb15⟩, ?_⟩
  exact ⟨i64_boundsk b0, i64_boundsk b2, i64_boundsk b3, i64_boundsk b4, i64_boundsk b5, i64_boundsk b8, i64_boundsk b13, i64_boundsk b14, i64_boundsk b10, i64_boundsk b7, hsum.1, by show l6.length ≤ _; omega, by show l15.length ≤ _; omega, fun l hl => by have := hlb11 l hl; omega, fun l hl => by have := hlb12 l hl; omega, by show l11.length ≤ _; omega, by show l12.length ≤ _; omega⟩
structure OpX where
 k : Int
 s : Sg
 h : SH
 r : Rec
 d : Value
def OpX.cells (o : OpX) : List Value := .int .i64 o.k :: (scl o.s o.h ++ rcE o.r.x o.r.nm o.d)
def OpX.good (o : OpX) (w : World) : Prop := SgAt w o.s o.h ∧ Bs w o.d o.r.l ∧ Fits o.s ∧ o.r.nm.size ≤ 1048576 ∧ o.r.x.fit ∧ o.r.l.length ≤ 1048576
theorem OpX.good.kept {o : OpX} {w w' : World} (h : o.good w) (hb : Below w.heap.size w w') : o.good w' := ⟨h.1.kept hb, h.2.1.kept hb, h.2.2⟩
def OpsAt (w : World) (v : Value) (os : List OpX) : Prop := ∃ ao cap, v = .slice ao os.length cap ∧ os.length ≤ 1048576 ∧ ∀ k o, os[k]? = some o → ∃ b off, ao = some ⟨b, off, none⟩ ∧ w.rangeAt b (off + k * 29) o.cells ∧ o.good w
theorem open_opl {H : Type} {enc : TypeId × Value → H} {W : World} {fuel : Nat} {vs : List Value} {d : DataW H} {p : List MemPlace} (hf : DataW.trod enc prog W 0 (fun _ => true) true fuel 40 vs = some (d, p)) (hlen : vs.length = 29) (hw : Rows.uptoBulk d ≤ 1048576) :
  ∃ o : OpX, vs = o.cells ∧ o.good W := by
 obtain ⟨xs, k', _, hxy, _, hxl, hfs⟩ := DataW.trod_struct underlying40 hf
 match xs, hxl with
 | [y0, y1, y2], _ =>
  have g0 := hfs 0 _ rfl
  have g1 := hfs 1 _ rfl
  have g2 := hfs 2 _ rfl
  simp [cellsTIk, cellsTSAGAk, cellsTRECk2] at g0 g1 g2
  simp only [Prod.mk.injEq] at hxy
  have hsum : Rows.uptoBulk y1.1 ≤ 1048576 ∧ Rows.uptoBulk y2.1 ≤ 1048576 := by
   rw [hxy.1] at hw
   simp [Rows.uptoBulk, Rows.uptoBulkAll] at hw
   omega
  obtain ⟨z0, e0, _, _⟩ := DataW.trod_int underlying3 g0
  obtain ⟨S, h, e1, hat, hF⟩ := open_sagal g1 (by simp; omega) hsum.1
  obtain ⟨x, nm, dv, l, e2, hb, hn, hft⟩ := open_recl g2 (by simp; omega)
  refine ⟨⟨z0, S, h, ⟨x, nm, l⟩, dv⟩, ?_, hat, hb, hF, by show nm.size ≤ _; omega, hft, by show l.length ≤ _; omega⟩
  have hs : vs = vs.take 1 ++ (vs.tail.take 16 ++ (vs.drop 17).take 12) := by
   match vs, hlen with
   | [a0, a1, a2, a3, a4, a5, a6, a7, a8, a9, a10, a11, a12, a13, a14, a15, a16, a17, a18, a19, a20, a21, a22, a23, a24, a25, a26, a27, a28], _ => rfl
  rw [hs, e0, e1, e2]
  rfl
theorem open_opsu {H : Type} {enc : TypeId × Value → H} {W : World} {base : Nat} {v : Value} {d : DataW H} {p : List MemPlace} (hv : Value.okWide prog W .any base 22 v)
  (h : DataW.Trod enc prog W 0 (fun _ => true) true 22 v d p) (hw : Rows.uptoBulk d ≤ 1048576) : ∃ os, OpsAt W v os := by
 obtain ⟨a0, len00, cap00, rfl⟩ := okWide_slice underlying22 hv
 obtain ⟨fuel, hf⟩ := h
 rcases Deep.open_slice underlying22 hf with ⟨hcs, _⟩ | ⟨a, len0, cap0, m, n, D, Pl, hcs, _, hl, hm, hmm, hx, hel⟩
 ·simp [Value.cells] at hcs
  obtain ⟨rfl, rfl, rfl⟩ := hcs
  exact ⟨[], none, 0, rfl, by simp, fun k o ho => by simp at ho⟩
 ·simp [Value.cells] at hcs
  obtain ⟨rfl, rfl, rfl⟩ := hcs
  simp only [Prod.mk.injEq] at hx
  rw [hx.1] at hw
  simp only [Rows.uptoBulk] at hw
  have hcnt : len00 ≤ 1048576 := by
   have := bulk_count ((List.range len00).map D)
   simp only [List.length_map, List.length_range] at this
   omega
  have each : ∀ k, k < len00 → ∃ o : OpX, ∃ b off, a = ⟨b, off, none⟩ ∧ W.rangeAt b (off + k * 29) o.cells ∧ o.good W := fun k hk => by
   have hkm : k < m := by rw [hmm]; simp; omega
   have hspot : a.spot = none := by
    obtain ⟨cs0, h10, _⟩ := hel 0 (by omega)
    rw [cellsTSOPk] at h10
    obtain ⟨_, hl0, hc0⟩ := World.cells?_some h10
    have r0 := hc0 0 (by omega)
    rw [List.getElem?_eq_getElem (show 0 < cs0.length by omega)] at r0
    simpa [Addr.add] using World.cell?_spot r0
   obtain ⟨cs', h1, h2⟩ := hel k hkm
   have hwk : Rows.uptoBulk (D k) ≤ 1048576 := by
    have := bulk_memr (l := (List.range len00).map D) (d := D k) (List.mem_map.2 ⟨k, List.mem_range.2 hk, rfl⟩)
    omega
   rw [cellsTSOPk] at h1
   obtain ⟨_, hlen, hcell⟩ := World.cells?_some h1
   obtain ⟨o, e, hg⟩ := open_opl h2 hlen hwk
   obtain ⟨b, off, spot⟩ := a
   obtain rfl : spot = none := hspot
   refine ⟨o, b, off, rfl, fun j u hu => ?_, hg⟩
   have hu' : cs'[j]? = some u := by rw [e]; exact hu
   have hj : j < 29 := by have := (List.getElem?_eq_some_iff.1 hu').1; omega
   have := hcell j hj
   rw [Deep.add_add, Go.WideShapes.add_plain, ← Nat.add_assoc, hu'] at this
   exact this
  obtain ⟨os, hrl, hrs⟩ := listed4 len00 each
  refine ⟨os, some a, cap00, by rw [hrl], by omega, fun k o ho => ?_⟩
  obtain ⟨b, off, e, h1, h2⟩ := hrs k o ho
  exact ⟨b, off, by rw [e], h1, h2⟩
end Go.Proofs.YtgmkjcfdpiinpaaGreatDoor
namespace Go.Proofs.YtgmkjcfdpiinpaaGreatDoor
open Go Go.RowKit
open Wb

def OpX.fine (x : OpX) : Prop := Fits x.s ∧ x.r.nm.size ≤ 1048576 ∧ x.r.x.fit ∧ x.r.l.length ≤ 1048576
set_option maxHeartbeats 4000000 in
theorem upTo_any (v : Value) (os : List OpX) (lo hi : Int) (w : World) (h : OpsAt w v os) (hT : STabs w) (hR : Tabs w) (HAN0 : ∀ (x : OpX) (h' : SH) (d' : Value) (w' : World), x.fine → lo ≤ x.k ∧ x.k ≤ hi → STabs w' → Tabs w' → SgAt w' x.s h' → Bs w' d' x.r.l → Calls prog 24 #[ov x.k x.s h' x.r.x x.r.nm d'] w' fun e w'' => e = .returned (.bool true) ∧ Below w'.heap.size w' w'') :
  Calls prog 8 #[v, .int .i64 lo, .int .i64 hi] w fun e w' => e = .returned (.bool true) ∧ Below w.heap.size w w' := by
 have HPL : Hid (∀ (x : OpX) (w' : World), Below w.heap.size w w' → x.good w' → lo ≤ x.k ∧ x.k ≤ hi → Calls prog 14 #[.agg x.cells.toArray] w' fun e w'' => e = .returned (.bool true) ∧ Below w'.heap.size w' w'') := fun x w' hb q hk => plays_any x.k x.s x.h x.r x.d w' q.1 q.2.1 (hT.kept hb) (hR.kept hb) q.2.2.1 q.2.2.2.2.2 (fun h' d' w2 t1 t2 k1 k2 => HAN0 x h' d' w2 q.2.2 hk t1 t2 k1 k2)
 obtain ⟨ao, cap, rfl, hm, hc0⟩ := h
 have HRA : Hid (∀ k o, os[k]? = some o → ∃ b off, ao = some ⟨b, off, none⟩ ∧ w.rangeAt b (off + k * 29) o.cells ∧ o.good w) := hc0
 clear hc0 hT hR HAN0
 go_enter func8, ntmps8
 go_wp2
 go_loopw [7] (fun i wr => ∃ n : Nat, i = .int .i64 (n : Int) ∧ n ≤ os.length ∧ Below w.heap.size w wr) (fun i _ => os.length - (intOf i).toNat)
 case atStart => exact ⟨0, rfl, Nat.zero_le _, Below.refl _ _⟩
 case round =>
  obtain ⟨n, rfl, hn, hbel⟩ := hrel
  have HBL : Hid (Below w.heap.size w wr) := hbel
  clear hbel
  by_cases hlt : n < os.length
  ·obtain ⟨x, hx⟩ : ∃ x, os[n]? = some x := ⟨os[n], List.getElem?_eq_getElem hlt⟩
   obtain ⟨b, off, e2, hrg, hgd⟩ := HRA.out n x hx
   subst e2
   obtain ⟨L, hL⟩ : ∃ L, x.cells = L := ⟨_, rfl⟩
   have HLI : Hid ((prog.info? 40).map (·.size) = some L.length) := by show _ = _; rw [← hL]; kernel_rfl
   have HX : Hid (wr.rangeAt b (off + n * 29) L) := by
    intro j u hu
    rw [← hL] at hu
    rw [HBL.out.cell (World.block_lt_of_cell? w _ (hrg j u hu))]
    exact hrg j u hu
   have k0 : wr.cell? ⟨b, off + n * 29, none⟩ = some (.int .i64 x.k) := HX.out 0 _ (by rw [← hL]; rfl)
   have HP1 : Hid (lo ≤ x.k ∧ x.k ≤ hi → Calls prog 14 #[.agg L.toArray] wr fun e w'' => e = .returned (.bool true) ∧ Below wr.heap.size wr w'') := fun hk => by
    have e := HPL.out x wr HBL.out (hgd.kept HBL.out) hk
    rw [hL] at e
    exact e
   obtain ⟨K, hK⟩ : ∃ K, x.k = K := ⟨_, rfl⟩
   rw [hK] at k0 HP1
   clear hx hrg hgd hL hK
   cases d1 : decide (lo ≤ K) with
   | false =>
    go_wp2
    go_roundw
    case rel => exact ⟨n + 1, by go_num, by omega, HBL.out⟩
    case measure => simp [intOf]; omega
   | true =>
    cases d2 : decide (K ≤ hi) with
    | false =>
     go_wp2
     go_roundw
     case rel => exact ⟨n + 1, by go_num, by omega, HBL.out⟩
     case measure => simp [intOf]; omega
    | true =>
     have HP2 : Hid _ := HP1.out (by simp at d1 d2; exact ⟨d1, d2⟩)
     go_wp2_with (first | (refine wpList_load_mid rfl 40 _ rfl b (off + n * 29) rfl L _ HX.out underlying40 rfl HLI.out ?_) | fail)
     refine Calls.mono HP2.out ?_
     rintro e x1 ⟨rfl, b1⟩
     have HB1 : Hid (Below w.heap.size w x1) := andThen HBL.out b1
     clear b1 HX k0 HP1 HP2
     go_wp2
     go_roundw
     case rel => exact ⟨n + 1, by go_num, by omega, HB1.out⟩
     case measure => simp [intOf]; omega
  ·obtain rfl : n = os.length := by omega
   go_wp2
   go_ret
   exact ⟨rfl, HBL.out⟩
theorem sagaPlays_an (x : OpX) (h' : SH) (d' : Value) (w' : World) (q : x.fine) (hk : 1 ≤ x.k ∧ x.k ≤ 8) (t1 : STabs w') (t2 : Tabs w') (k1 : SgAt w' x.s h') (k2 : Bs w' d' x.r.l) : Calls prog 24 #[ov x.k x.s h' x.r.x x.r.nm d'] w' fun e w'' => e = .returned (.bool true) ∧ Below w'.heap.size w' w'' := by
 have hk9 : x.k = 1 ∨ x.k = 2 ∨ x.k = 3 ∨ x.k = 4 ∨ x.k = 5 ∨ x.k = 6 ∨ x.k = 7 ∨ x.k = 8 := by omega
 rcases hk9 with e | e | e | e | e | e | e | e
 ·rw [e]; exact answered_1 x.s h' x.r d' w' k2 t1 t2 q.2.1 q.2.2.1
 ·rw [e]; exact answered_2 x.s h' x.r d' w' k1 k2 t1 t2 q.1 q.2.1 q.2.2.1
 ·rw [e]; exact answered_3 x.s h' x.r d' w' k1 t1 t2 q.1
 ·rw [e]; exact answered_4 x.s h' x.r d' w' k1 t1 t2 q.1
 ·rw [e]; exact answered_5 x.s h' x.r d' w' k1 t1 t2 q.1
 ·rw [e]; exact answered_6 x.s h' x.r d' w' k1 t1 t2 q.1
 ·rw [e]; exact answered_7 x.s h' x.r d' w' k1 t1 t2 q.1
 ·rw [e]; exact answered_8 x.s h' x.r d' w' k1 q.1
theorem sagaPlays_any (v : Value) (os : List OpX) (w : World) (h : OpsAt w v os) (hT : STabs w) (hR : Tabs w) : Calls prog 6 #[v] w fun e w' => e = .returned (.bool true) ∧ Below w.heap.size w w' := by
 have HST : Hid (Calls prog 7 #[] w fun e w' => e = .returned (.bool true) ∧ Below w.heap.size w w') := sstarted_any w hR hT
 have HUP : Hid (∀ w', Below w.heap.size w w' → Calls prog 8 #[v, .int .i64 1, .int .i64 8] w' fun e w'' => e = .returned (.bool true) ∧ Below w'.heap.size w' w'') := fun w' hb => upTo_any v os 1 8 w' (by
  obtain ⟨ao, cap, e, hm, hc⟩ := h
  refine ⟨ao, cap, e, hm, fun k o ho => ?_⟩
  obtain ⟨b, off, e2, q1, q2⟩ := hc k o ho
  exact ⟨b, off, e2, fun j u hu => by rw [hb.cell (World.block_lt_of_cell? w _ (q1 j u hu))]; exact q1 j u hu, q2.kept hb⟩) (hT.kept hb) (hR.kept hb) sagaPlays_an
 clear h hT hR
 go_enter func6, ntmps6
 go_wp2_with fail
 refine Calls.mono HST.out ?_
 rintro e w1 ⟨rfl, b1⟩
 have H1 : Hid (Below w.heap.size w w1) := b1
 clear b1 HST
 go_wp2_with fail
 refine (HUP.out _ H1.out).mono ?_
 rintro e w2 ⟨rfl, b2⟩
 have H2 : Hid (Below w.heap.size w w2) := andThen H1.out b2
 clear b2 H1 HUP
 go_wp2
 go_ret
 exact ⟨rfl, H2.out⟩
end Go.Proofs.YtgmkjcfdpiinpaaGreatDoor
