import Derived.Deep.Cut
import Derived.Deep.CutRange
import Derived.Deep.CutBlock
import Derived.Test.YtabdfafffjgfiaaGreatDoorAF6
import Derived.Test.YtabdfafffjgfiaaGreatDoorAD9
import Derived.Test.YtabdfafffjgfiaaGreatDoorASO
set_option maxRecDepth 100000
set_option maxHeartbeats 40000000
namespace Go.Proofs.YtabdfafffjgfiaaGreatDoor
open Go Go.RowKit Go.ChangeShapes Go.WideShapes Go.ChangeAt
open Wb

theorem cellsTSk : Tryz.prog.cellsOf 22 = 1 := by kernel_rfl
theorem cellsTBSSk : Tryz.prog.cellsOf 23 = 1 := by kernel_rfl
theorem cellsTBOOLk : Tryz.prog.cellsOf 4 = 1 := by kernel_rfl
theorem cellsTSAGAk : Tryz.prog.cellsOf 25 = 16 := by kernel_rfl
theorem open_psk {H : Type} {enc : TypeId × Value → H} {W : World} {fuel : Nat} {v : Value} {x : DataW H × List MemPlace} (hf : DataW.trod enc Tryz.prog W 0 (fun _ => true) true fuel 23 [v] = some x) :
  ∃ ls, Ps W v ls ∧ (∃ ao cap, v = .slice ao ls.length cap) ∧ ls.length ≤ Rows.uptoBulk x.1 ∧ ∀ l ∈ ls, l.length ≤ Rows.uptoBulk x.1 := by
 obtain ⟨d, p⟩ := x
 rcases Deep.open_slice Tryz.underlying23 hf with ⟨hcs, _⟩ | ⟨a, len0, cap0, m, n, D, Pl, hcs, _, hl, hm, hmm, hx, hel⟩
 ·simp at hcs
  subst hcs
  exact ⟨[], ⟨none, 0, rfl, by simp [maxLen], fun e => absurd rfl e⟩, ⟨none, 0, rfl⟩, Nat.zero_le _, fun l hl => by cases hl⟩
 ·simp at hcs
  subst hcs
  simp only [Prod.mk.injEq] at hx
  have hcnt : len0 ≤ Rows.uptoBulk d := by
   rw [hx.1]
   simp only [Rows.uptoBulk]
   have := bulk_count ((List.range len0).map D)
   simp only [List.length_map, List.length_range] at this
   omega
  have each : ∀ k, k < len0 → ∃ l : List Nat, ∃ b off vj, a = ⟨b, off, none⟩ ∧ W.cell? ⟨b, off + k, none⟩ = some vj ∧ Bs W vj l ∧ l.length ≤ Rows.uptoBulk d := fun k hk => by
   have hkm : k < m := by rw [hmm]; simp; omega
   have hspot : a.spot = none := by
    obtain ⟨cs0, h10, _⟩ := hel 0 (by omega)
    rw [cellsTSk] at h10
    obtain ⟨_, hl0, hc0⟩ := World.cells?_some h10
    have r0 := hc0 0 (by omega)
    rw [List.getElem?_eq_getElem (show 0 < cs0.length by omega)] at r0
    simpa [Addr.add] using World.cell?_spot r0
   obtain ⟨cs', h1, h2⟩ := hel k hkm
   have hwk : Rows.uptoBulk (D k) ≤ Rows.uptoBulk d := by
    rw [hx.1]
    simp only [Rows.uptoBulk]
    have := bulk_memr (l := (List.range len0).map D) (d := D k) (List.mem_map.2 ⟨k, List.mem_range.2 hk, rfl⟩)
    omega
   rw [cellsTSk] at h1
   obtain ⟨_, hlen, hcell⟩ := World.cells?_some h1
   match cs', hlen with
   | [vj], _ =>
    obtain ⟨l, hb, hn⟩ := open_bsk h2
    have hn : l.length ≤ Rows.uptoBulk (D k) := hn
    obtain ⟨b, off, spot⟩ := a
    obtain rfl : spot = none := hspot
    refine ⟨l, b, off, vj, rfl, ?_, hb, by omega⟩
    have := hcell 0 (by omega)
    simpa [Deep.add_add, Go.WideShapes.add_plain] using this
  obtain ⟨ls, hrl, hrs⟩ := listed4 len0 each
  refine ⟨ls, ⟨some a, cap0, by rw [hrl], by rw [hrl]; omega, fun hne => ?_⟩, ⟨some a, cap0, by rw [hrl]⟩, by rw [hrl]; exact hcnt, fun l hl => ?_⟩
  ·have hpos : 0 < ls.length := List.length_pos_iff.2 hne
   obtain ⟨b, off, _, e0, _⟩ := hrs 0 _ (List.getElem?_eq_getElem hpos)
   refine ⟨b, off, by rw [e0], fun j hj => ?_⟩
   obtain ⟨b2, off2, vj, e2, q1, q2, _⟩ := hrs j _ (List.getElem?_eq_getElem hj)
   rw [e0] at e2
   simp only [Addr.mk.injEq, and_true] at e2
   obtain ⟨rfl, rfl⟩ := e2
   exact ⟨vj, q1, q2⟩
  ·obtain ⟨k, hk, rfl⟩ := List.getElem_of_mem hl
   obtain ⟨_, _, _, _, _, _, h3⟩ := hrs k _ (List.getElem?_eq_getElem hk)
   exact h3
theorem open_sagal {H : Type} {enc : TypeId × Value → H} {W : World} {fuel : Nat} {vs : List Value} {d : DataW H} {p : List MemPlace} (hf : DataW.trod enc Tryz.prog W 0 (fun _ => true) true fuel 25 vs = some (d, p)) (hlen : vs.length = 16) (hw : Rows.uptoBulk d ≤ 1048576) :
  ∃ (S : Sg) (h : SH), vs = scl S h ∧ SgAt W S h ∧ Fits S := by
 obtain ⟨xs, k', _, hxy, _, hxl, hfs⟩ := DataW.trod_struct Tryz.underlying25 hf
 match xs, hxl, vs, hlen with
 | [y0, y1, y2, y3, y4, y5, y6, y7, y8, y9, y10, y11, y12, y13, y14, y15], _, [v0, v1, v2, v3, v4, v5, v6, v7, v8, v9, v10, v11, v12, v13, v14, v15], _ =>
  have g0 := hfs 0 _ rfl
  have g1 := hfs 1 _ rfl
  have g2 := hfs 2 _ rfl
  have g3 := hfs 3 _ rfl
  have g4 := hfs 4 _ rfl
  have g5 := hfs 5 _ rfl
  have g6 := hfs 6 _ rfl
  have g7 := hfs 7 _ rfl
  have g8 := hfs 8 _ rfl
  have g9 := hfs 9 _ rfl
  have g10 := hfs 10 _ rfl
  have g11 := hfs 11 _ rfl
  have g12 := hfs 12 _ rfl
  have g13 := hfs 13 _ rfl
  have g14 := hfs 14 _ rfl
  have g15 := hfs 15 _ rfl
  simp [cellsTIk, cellsTSTRk, cellsTBSk, cellsTBSSk, cellsTBOOLk] at g0 g1 g2 g3 g4 g5 g6 g7 g8 g9 g10 g11 g12 g13 g14 g15
  simp only [Prod.mk.injEq] at hxy
  obtain ⟨z0, e0, _, b0⟩ := DataW.trod_int Tryz.underlying3 g0
  obtain ⟨z1, e1, q1, _⟩ := DataW.trod_string Tryz.underlying9 g1
  obtain ⟨z2, e2, _, b2⟩ := DataW.trod_int Tryz.underlying3 g2
  obtain ⟨z3, e3, _, b3⟩ := DataW.trod_int Tryz.underlying3 g3
  obtain ⟨z4, e4, _, b4⟩ := DataW.trod_int Tryz.underlying3 g4
  obtain ⟨z5, e5, _, b5⟩ := DataW.trod_int Tryz.underlying3 g5
  obtain ⟨l6, hb6, hlb6⟩ := open_bsk g6
  obtain ⟨a6, c6, rfl, _⟩ := hb6.shape
  obtain ⟨z7, e7, _, b7⟩ := DataW.trod_int Tryz.underlying3 g7
  obtain ⟨z8, e8, _, b8⟩ := DataW.trod_int Tryz.underlying3 g8
  obtain ⟨z9, e9, _⟩ := DataW.trod_bool Tryz.underlying4 g9
  obtain ⟨z10, e10, _, b10⟩ := DataW.trod_int Tryz.underlying3 g10
  obtain ⟨l11, hb11, ⟨a11, c11, rfl⟩, hln11, hlb11⟩ := open_psk g11
  obtain ⟨l12, hb12, ⟨a12, c12, rfl⟩, hln12, hlb12⟩ := open_psk g12
  obtain ⟨z13, e13, _, b13⟩ := DataW.trod_int Tryz.underlying3 g13
  obtain ⟨z14, e14, _, b14⟩ := DataW.trod_int Tryz.underlying3 g14
  obtain ⟨l15, hb15, hlb15⟩ := open_bsk g15
  obtain ⟨a15, c15, rfl, _⟩ := hb15.shape
  have h1q : y1.1 = .lit (.string z1.data.toList) := congrArg Prod.fst q1
  have hsz : z1.data.size = z1.size := rfl
  have hsum : z1.size ≤ 1048576 ∧ Rows.uptoBulk y6.1 ≤ 1048576 ∧ Rows.uptoBulk y11.1 ≤ 1048576 ∧ Rows.uptoBulk y12.1 ≤ 1048576 ∧ Rows.uptoBulk y15.1 ≤ 1048576 := by
   rw [hxy.1] at hw
   simp [Rows.uptoBulk, Rows.uptoBulkAll, h1q] at hw
   omega
  simp only [List.cons.injEq, and_true] at e0 e1 e2 e3 e4 e5 e7 e8 e9 e10 e13 e14
  subst e0 e1 e2 e3 e4 e5 e7 e8 e9 e10 e13 e14
  refine ⟨⟨⟨z0, z2, z3, z4, z5, z7, z8, z9, z10, z13, z14⟩, z1, l6, l11, l12, l15⟩, ⟨a6, c6, a11, c11, a12, c12, a15, c15⟩, rfl, ⟨hb6, hb11, hb12, hb15⟩, ?_⟩
  exact ⟨i64_boundsk b0, i64_boundsk b2, i64_boundsk b3, i64_boundsk b4, i64_boundsk b5, i64_boundsk b8, i64_boundsk b13, i64_boundsk b14, i64_boundsk b10, i64_boundsk b7, hsum.1, by show l6.length ≤ _; omega, by show l15.length ≤ _; omega, fun l hl => by have := hlb11 l hl; omega, fun l hl => by have := hlb12 l hl; omega, by show l11.length ≤ _; omega, by show l12.length ≤ _; omega⟩
structure OpX where
 k : Int
 s : Sg
 h : SH
 r : Rec
 d : Value
def OpX.cells (o : OpX) : List Value := .int .i64 o.k :: (scl o.s o.h ++ rcE o.r.x o.r.nm o.d)
def OpX.good (o : OpX) (w : World) : Prop := SgAt w o.s o.h ∧ Bs w o.d o.r.l ∧ Fits o.s ∧ o.r.nm.size ≤ 1048576 ∧ o.r.x.fit ∧ o.r.l.length ≤ 1048576
theorem OpX.good.kept {o : OpX} {w w' : World} (h : o.good w) (hb : Below w.heap.size w w') : o.good w' := ⟨h.1.kept hb, h.2.1.kept hb, h.2.2⟩
def OpsAt (w : World) (v : Value) (os : List OpX) : Prop := ∃ ao cap, v = .slice ao os.length cap ∧ os.length ≤ 1048576 ∧ ∀ k o, os[k]? = some o → ∃ b off, ao = some ⟨b, off, none⟩ ∧ w.rangeAt b (off + k * 29) o.cells ∧ o.good w
end Go.Proofs.YtabdfafffjgfiaaGreatDoor
namespace Go.Proofs.YtabdfafffjgfiaaGreatDoor
open Go Go.RowKit
open Wb

theorem own_poke {B : Nat} {w : World} {v : Value} {l : List Nat} (h : Own B w v l) (g o x : Nat) (hx : x < 256) : ∃ l' : List Nat, l'.length = l.length ∧ Own B (w.setCell ⟨g, o, none⟩ (.int .u8 (x : Int))) v l' := by
 rcases h.row.2 with ⟨rfl, h1⟩ | ⟨g', cap, cur, rfl, hb, hg, h1, h2, h3, h4⟩
 ·exact ⟨l, rfl, ⟨⟨h.row.1, .inl ⟨rfl, h1⟩⟩, h.good⟩⟩
 ·by_cases e : g' = g
  ·subst e
   refine ⟨l.set o x, by simp, ⟨⟨by simp [bv], .inr ⟨g', cap, cur.setIfInBounds o (.int .u8 (x : Int)), by rw [List.length_set], hb, Go.heap_setCell_same w g' o _ _ _ hg, by rw [List.length_set]; exact h1, h2, by rw [Array.size_setIfInBounds]; exact h3, ?_⟩⟩, ?_⟩⟩
   ·rw [Array.toList_setIfInBounds, List.length_set, List.take_set, h4]
    unfold bv
    rw [List.map_set]
   ·intro y hy
    rcases List.mem_or_eq_of_mem_set hy with h5 | h5
    ·exact h.good y h5
    ·omega
  ·exact ⟨l, rfl, own_keptB h fun k hk => by
    simp only [Value.ownBlock, Option.some.injEq] at hk
    subst hk
    exact set_other w _ _ _ e⟩
theorem ownp_poke {B : Nat} {w : World} {v : Value} {ls : List (List Nat)} (h : OwnP B w v ls) (g o x : Nat) (hx : x < 256) (hg : ∃ cs z, w.heap[g]? = some (.cells cs 5 z)) : ∃ ls' : List (List Nat), ls'.length = ls.length ∧ (∀ j (h1 : j < ls'.length) (h2 : j < ls.length), ls'[j].length = ls[j].length) ∧ OwnP B (w.setCell ⟨g, o, none⟩ (.int .u8 (x : Int))) v ls' := by
 obtain ⟨vs, h1, h2, h3⟩ := h
 have hne : v.ownBlock ≠ some g := fun e => by
  obtain ⟨cs, z, h4⟩ := row_typed h1 g e
  obtain ⟨cs2, z2, h5⟩ := hg
  rw [h4] at h5
  simp at h5
 have hr : Row B (w.setCell ⟨g, o, none⟩ (.int .u8 (x : Int))) v vs := row_kept2 h1 fun k hk => set_other w _ _ _ fun e => hne (by rw [hk, e])
 have hall : ∀ j : Fin ls.length, ∃ l' : List Nat, l'.length = ls[j].length ∧ Own B (w.setCell ⟨g, o, none⟩ (.int .u8 (x : Int))) (vs[j.1]'(by rw [h2]; exact j.2)) l' := fun j => own_poke (h3 j.1 (by rw [h2]; exact j.2) j.2) g o x hx
 refine ⟨List.ofFn fun j => (hall j).choose, by simp, fun j a b => ?_, vs, hr, by simp [h2], fun j a b => ?_⟩
 ·rw [List.getElem_ofFn]
  exact (hall ⟨j, b⟩).choose_spec.1
 ·rw [List.getElem_ofFn]
  exact (hall ⟨j, by rw [← h2]; exact a⟩).choose_spec.2
structure Akin (S T : Sg) : Prop where
 x : T.x = S.x
 nm : T.nm = S.nm
 inp : T.inp.length = S.inp.length
 fail : T.fail.length = S.fail.length
 outs : T.outs.length = S.outs.length
 und : T.und.length = S.und.length
 eachO : ∀ j (h1 : j < T.outs.length) (h2 : j < S.outs.length), T.outs[j].length = S.outs[j].length
 eachU : ∀ j (h1 : j < T.und.length) (h2 : j < S.und.length), T.und[j].length = S.und[j].length
theorem Akin.refl (S : Sg) : Akin S S := ⟨rfl, rfl, rfl, rfl, rfl, rfl, fun _ _ _ => rfl, fun _ _ _ => rfl⟩
theorem Akin.trans {S T U : Sg} (h : Akin S T) (k : Akin T U) : Akin S U := ⟨k.x.trans h.x, k.nm.trans h.nm, k.inp.trans h.inp, k.fail.trans h.fail, k.outs.trans h.outs, k.und.trans h.und, fun j h1 h2 => (k.eachO j h1 (by rw [h.outs]; exact h2)).trans (h.eachO j _ h2), fun j h1 h2 => (k.eachU j h1 (by rw [h.und]; exact h2)).trans (h.eachU j _ h2)⟩
theorem Akin.sv {S T : Sg} (k : Akin S T) (h : SH) : sv T h = sv S h := by
 unfold Go.Proofs.YtabdfafffjgfiaaGreatDoor.sv
 rw [k.x, k.nm, k.inp, k.fail, k.outs, k.und]
theorem akin_all {ls ms : List (List Nat)} {N : Nat} (hl : ms.length = ls.length) (he : ∀ j (h1 : j < ms.length) (h2 : j < ls.length), ms[j].length = ls[j].length) (h : ∀ l ∈ ls, l.length ≤ N) : ∀ l ∈ ms, l.length ≤ N := fun l hm => by
 obtain ⟨j, hj, rfl⟩ := List.mem_iff_getElem.1 hm
 rw [he j hj (by omega)]
 exact h _ (List.getElem_mem _)
theorem Akin.fits {S T : Sg} (k : Akin S T) (h : Fits S) : Fits T := ⟨by rw [k.x]; exact h.id, by rw [k.x]; exact h.cnt, by rw [k.x]; exact h.piv, by rw [k.x]; exact h.beg, by rw [k.x]; exact h.la, by rw [k.x]; exact h.nx, by rw [k.x]; exact h.fs, by rw [k.x]; exact h.fc, by rw [k.x]; exact h.tr, by rw [k.x]; exact h.ph, by rw [k.nm]; exact h.nm, by rw [k.inp]; exact h.inp, by rw [k.fail]; exact h.fail, akin_all k.outs k.eachO h.outs, akin_all k.und k.eachU h.und, by rw [k.outs]; exact h.outsN, by rw [k.und]; exact h.undN⟩
theorem sgo_poke {B : Nat} {w : World} {S : Sg} {h : SH} (k : SgO B w S h) (g o x : Nat) (hx : x < 256) (hg : ∃ cs z, w.heap[g]? = some (.cells cs 5 z)) : ∃ T, Akin S T ∧ SgO B (w.setCell ⟨g, o, none⟩ (.int .u8 (x : Int))) T h := by
 obtain ⟨l1, a1, b1⟩ := own_poke k.inp g o x hx
 obtain ⟨l2, a2, b2⟩ := own_poke k.fail g o x hx
 obtain ⟨m1, c1, c2, c3⟩ := ownp_poke k.outs g o x hx hg
 obtain ⟨m2, d1, d2, d3⟩ := ownp_poke k.und g o x hx hg
 refine ⟨{ S with inp := l1, fail := l2, outs := m1, und := m2 }, ⟨rfl, rfl, a1, a2, c1, d1, c2, d2⟩, ⟨?_, ?_, ?_, ?_⟩⟩
 ·show Own _ _ (.slice h.ai l1.length h.ci) l1
  rw [a1]; exact b1
 ·show OwnP _ _ (.slice h.ao m1.length h.co) m1
  rw [c1]; exact c3
 ·show OwnP _ _ (.slice h.au m2.length h.cu) m2
  rw [d1]; exact d3
 ·show Own _ _ (.slice h.af l2.length h.cf) l2
  rw [a2]; exact b2
def TdPost (B : Nat) (w : World) (S : Sg) (h : SH) (l : List Nat) (d : Value) (e : Ending) (w' : World) : Prop := e = .returned (.tuple #[]) ∧ ∃ T, ∃ l' : List Nat, Akin S T ∧ l'.length = l.length ∧ SgO B w' T h ∧ Own B w' d l' ∧ Below B w w' ∧ ∀ b t cs, t ≠ 5 → LB w b t cs → LB w' b t cs
theorem byte_of (Y : Int) : ∃ x : Nat, IntKind.wrap .u8 Y = (x : Int) ∧ x < 256 := by
 refine ⟨(Y % 256).toNat, ?_, by omega⟩
 unfold IntKind.wrap
 simp [IntKind.bits, IntKind.signed]
 omega
theorem sgo_below {B : Nat} {w w' : World} {S : Sg} {h : SH} (k : SgO B w S h) (hb : Below w.heap.size w w') : SgO B w' S h := ⟨k.inp.kept hb, k.outs.kept hb, k.und.kept hb, k.fail.kept hb⟩
theorem ownp_first {B : Nat} {w : World} {v : Value} {ls : List (List Nat)} (h : OwnP B w v ls) (hl : 0 < ls.length) : ∃ g c a n, v = .slice (some ⟨g, 0, none⟩) ls.length c ∧ ls.length ≤ c ∧ c ≤ 9223372036854775807 ∧ w.cell? ⟨g, 0, none⟩ = some (.slice a ls[0].length n) ∧ Own B w (.slice a ls[0].length n) ls[0] := by
 obtain ⟨vs, h1, h2, h3⟩ := h
 have h0 := h3 0 (by omega) hl
 obtain ⟨a, n, e, _⟩ := h0.bs.shape
 rcases h1.shape with ⟨rfl, rfl⟩ | ⟨g, cap, rfl, q1, q2, q3⟩
 ·simp at h2; omega
 ·have q4 := q3 0 (by omega)
  rw [e] at q4 h0
  unfold maxLen at q2
  exact ⟨g, cap, a, n, by rw [h2], by omega, by omega, q4, h0⟩
theorem tmod_in (A : Int) (n : Nat) (hn : 0 < n) : (∃ I : Nat, I < n ∧ Int.tmod A (n : Int) = (I : Int)) ∨ ∃ z : Int, ∃ I : Nat, I < n ∧ Int.tmod A (n : Int) = z ∧ z < 0 ∧ z + (n : Int) = (I : Int) := by
 have h1 := Int.tmod_lt_of_pos A (show (0 : Int) < (n : Int) by omega)
 by_cases h : 0 ≤ Int.tmod A (n : Int)
 ·exact .inl ⟨(Int.tmod A (n : Int)).toNat, by omega, by omega⟩
 ·have h2 : -(n : Int) < Int.tmod A (n : Int) := by
   have := Int.neg_tmod A (n : Int)
   have h3 := Int.tmod_lt_of_pos (-A) (show (0 : Int) < (n : Int) by omega)
   omega
  exact .inr ⟨_, (Int.tmod A (n : Int) + n).toNat, by omega, rfl, by omega, by omega⟩
theorem turned_any (S : Sg) (h : SH) (r : Rec) (d : Value) (K A Y : Int) (B : Nat) (w : World) (k : SgO B w S h) (o : Own B w d r.l) (hB : B ≤ w.heap.size) (hF : Fits S) (hrl : r.l.length ≤ 1048576) :
  Calls Tryz.prog 28 #[sv S h, rv r.x r.nm d, .agg #[.int .i64 K, .int .i64 A, .int .i64 Y]] w fun e w' => TdPost B w S h r.l d e w' := by
 obtain ⟨ad, cd, ed, -⟩ := o.bs.shape
 subst ed
 obtain ⟨D, hD, hL, hE⟩ := sv_letter S h
 obtain ⟨E, hD2, hL2, hE2⟩ := rv_letter r.x r.nm (.slice ad r.l.length cd)
 rw [hD, hD2]
 have HX : Hid (∃ W, W = ((w.alloc (.cells D.toArray 25)).alloc (.cells E.toArray 37)).alloc (.cells #[.int .i64 K, .int .i64 A, .int .i64 Y] 62) ∧ LB W w.heap.size 25 D ∧ LB W (w.heap.size + 1) 37 E ∧ LB W (w.heap.size + 1 + 1) 62 [.int .i64 K, .int .i64 A, .int .i64 Y] ∧ Below w.heap.size w W) := by
  obtain ⟨q1, q2, q3, q4⟩ := lb_new3 w D E [.int .i64 K, .int .i64 A, .int .i64 Y] 25 37 62
  exact ⟨_, rfl, q1, q2, q3, q4⟩
 have HE : Hid (D = scl S h ∧ E = rcE r.x r.nm (.slice ad r.l.length cd)) := ⟨hE, hE2⟩
 have HF : Hid (Fits S ∧ SgO B w S h ∧ Own B w (.slice ad r.l.length cd) r.l ∧ B ≤ w.heap.size ∧ r.l.length ≤ 1048576) := ⟨hF, k, o, hB, hrl⟩
 clear hD hD2 hL hL2 hE hE2 hF k o hB hrl
 go_enter Tryz.func28, Tryz.ntmps28
 go_upto_region 1 with fail
 obtain ⟨W, eW, l1, l2, l3, b⟩ := HX.out
 rw [← eW]
 clear eW HX
 have t0 := l3.cell 0 _ rfl
 have t1 := l3.cell 1 _ rfl
 have t2 := l3.cell 2 _ rfl
 have s6 := l1.cell 6 (.slice h.ai S.inp.length h.ci) (by rw [HE.out.1]; rfl)
 have s11 := l1.cell 11 (.slice h.ao S.outs.length h.co) (by rw [HE.out.1]; rfl)
 have s12 := l1.cell 12 (.slice h.au S.und.length h.cu) (by rw [HE.out.1]; rfl)
 have s15 := l1.cell 15 (.slice h.af S.fail.length h.cf) (by rw [HE.out.1]; rfl)
 have r11 := l2.cell 11 (.slice ad r.l.length cd) (by rw [HE.out.2]; rfl)
 have HW : Hid (SgO B W S h ∧ Own B W (.slice ad r.l.length cd) r.l ∧ Below w.heap.size w W) := ⟨HF.out.2.1.kept b, HF.out.2.2.1.kept b, b⟩
 clear l1 l2 l3 b HE
 generalize w.heap.size + 1 + 1 = g3 at *
 generalize w.heap.size + 1 = g2 at *
 go_upto_block 0 with fail
 go_cut [6] from 8 to 41 (fun v wx => (∃ a, ∃ m : List Nat, ∃ c : Nat, v = .slice a m.length c ∧ Own B W (.slice a m.length c) m ∧ m.length ≤ 1048576) ∧ W = wx)
 case first =>
  by_cases k0 : K = 0
  ·subst k0
   go_wp2_with fail
   go_meet
   exact ⟨⟨_, S.inp, _, rfl, HW.out.1.inp, HF.out.1.inp⟩, rfl⟩
  have e0 : (K == 0) = false := by rw [beq_eq_false_iff_ne]; exact k0
  by_cases k1 : K = 1
  ·subst k1
   go_wp2_with fail
   go_meet
   exact ⟨⟨_, S.fail, _, rfl, HW.out.1.fail, HF.out.1.fail⟩, rfl⟩
  have e1 : (K == 1) = false := by rw [beq_eq_false_iff_ne]; exact k1
  by_cases k2 : K = 2
  ·subst k2
   by_cases hz : 0 < S.outs.length
   ·obtain ⟨g, c, a, n, q1, q2, q3, q4, q5⟩ := ownp_first HW.out.1.outs hz
    rw [q1] at s11
    have HQ : Hid (Own B W (.slice a S.outs[0].length n) S.outs[0] ∧ S.outs[0].length ≤ 1048576) := ⟨q5, HF.out.1.outs _ (List.getElem_mem _)⟩
    have hz2 : (0 : Int) < (S.outs.length : Int) := by omega
    clear q5 q1
    go_wp2_with fail
    go_meet
    exact ⟨⟨_, S.outs[0], _, rfl, HQ.out.1, HQ.out.2⟩, rfl⟩
   ·have hz1 : S.outs.length = 0 := by omega
    rw [hz1] at s11
    go_wp2_with fail
    go_meet
    exact ⟨⟨none, [], 0, rfl, Own.nil _ _, by simp⟩, rfl⟩
  have e2 : (K == 2) = false := by rw [beq_eq_false_iff_ne]; exact k2
  by_cases k3 : K = 3
  ·subst k3
   by_cases hz : 0 < S.und.length
   ·obtain ⟨g, c, a, n, q1, q2, q3, q4, q5⟩ := ownp_first HW.out.1.und hz
    rw [q1] at s12
    have HQ : Hid (Own B W (.slice a S.und[0].length n) S.und[0] ∧ S.und[0].length ≤ 1048576) := ⟨q5, HF.out.1.und _ (List.getElem_mem _)⟩
    have hz2 : (0 : Int) < (S.und.length : Int) := by omega
    clear q5 q1
    go_wp2_with fail
    go_meet
    exact ⟨⟨_, S.und[0], _, rfl, HQ.out.1, HQ.out.2⟩, rfl⟩
   ·have hz1 : S.und.length = 0 := by omega
    rw [hz1] at s12
    go_wp2_with fail
    go_meet
    exact ⟨⟨none, [], 0, rfl, Own.nil _ _, by simp⟩, rfl⟩
  have e3 : (K == 3) = false := by rw [beq_eq_false_iff_ne]; exact k3
  by_cases k4 : K = 4
  ·subst k4
   go_wp2_with fail
   go_meet
   exact ⟨⟨_, r.l, _, rfl, HW.out.2.1, HF.out.2.2.2.2⟩, rfl⟩
  have e4 : (K == 4) = false := by rw [beq_eq_false_iff_ne]; exact k4
  clear k0 k1 k2 k3 k4
  go_wp2_with fail
  go_meet
  exact ⟨⟨none, [], 0, rfl, Own.nil _ _, by simp⟩, rfl⟩
 case rest =>
  obtain ⟨⟨a, m, c, rfl, om, hm⟩, rfl⟩ := hcut
  have HOM : Hid (Own B W (.slice a m.length c) m) := om
  clear s6 s11 s12 s15 r11 t0
  by_cases hz : m.length = 0
  ·have hz1 : ((m.length : Int) == 0) = true := by rw [hz]; rfl
   go_wp2_with fail
   go_returns
   refine ⟨rfl, S, r.l, Akin.refl S, rfl, HW.out.1, HW.out.2.1, HW.out.2.2.mono HF.out.2.2.2.1, fun b t cs _ hl => hl.kept HW.out.2.2⟩
  have hz1 : ((m.length : Int) == 0) = false := by rw [beq_eq_false_iff_ne]; omega
  have hz2 : (m.length : Int) ≠ 0 := by omega
  rcases HOM.out.row.2 with ⟨e9, e8⟩ | ⟨g, cap, cur, e9, hgB, hgc, q1, q2, q3, q4⟩
  ·exact absurd e8 hz
  simp only [Value.slice.injEq, true_and] at e9
  obtain ⟨rfl, rfl⟩ := e9
  obtain ⟨x, hx1, hx2⟩ := byte_of Y
  have HG : Hid (B ≤ g ∧ ∃ cs z, W.heap[g]? = some (.cells cs 5 z)) := ⟨hgB, _, _, hgc⟩
  have HP : Hid (∀ j : Nat, TdPost B w S h r.l (.slice ad r.l.length cd) (.returned (.tuple #[])) (W.setCell ⟨g, j, none⟩ (.int .u8 (x : Int)))) := fun j => by
   obtain ⟨T, hA, hO⟩ := sgo_poke HW.out.1 g j x hx2 HG.out.2
   obtain ⟨l', hl', ho'⟩ := own_poke HW.out.2.1 g j x hx2
   refine ⟨rfl, T, l', hA, hl', hO, ho', (HW.out.2.2.mono HF.out.2.2.2.1).setCell (show B ≤ (⟨g, j, none⟩ : Addr).block from HG.out.1) _, fun b t cs ht hl => (hl.kept HW.out.2.2).other _ _ fun e => ?_⟩
   have e2 : b = g := e
   subst e2
   obtain ⟨cs2, z2, e3⟩ := HG.out.2
   have e4 := hl.kept HW.out.2.2
   unfold LB at e4
   rw [e3] at e4
   simp at e4
   exact ht e4.2.1.symm
  have hfr : ∀ j : Nat, W.frozen? ⟨g, j, none⟩ = false := fun j => World.ownsRow.frozenAt HOM.out.row j
  clear hgc q3 q4
  unfold maxLen at q2
  rcases tmod_in A m.length (by omega) with ⟨I, hI, hz3⟩ | ⟨z, I, hI, hz3, hz4, hz5⟩
  ·have hcj : ∃ u, W.cell? ⟨g, I, none⟩ = some u := by
    have e := HOM.out.row.cellAt I (by omega)
    rw [bv_get m I hI] at e
    exact ⟨_, e⟩
   obtain ⟨u, hu⟩ := hcj
   go_wp2_with fail
   go_returns
   exact HP.out I
  ·have hcj : ∃ u, W.cell? ⟨g, I, none⟩ = some u := by
    have e := HOM.out.row.cellAt I (by omega)
    rw [bv_get m I hI] at e
    exact ⟨_, e⟩
   obtain ⟨u, hu⟩ := hcj
   go_wp2_with fail
   go_returns
   exact HP.out I
def TurnsAt (w : World) (v : Value) (n : Nat) : Prop := ∃ ao, ∃ cap : Nat, v = .slice ao n cap ∧ n ≤ 1048576 ∧ ∀ k, k < n → ∃ b off K A Y, ao = some ⟨b, off, none⟩ ∧ w.rangeAt b (off + k * 3) [.int .i64 K, .int .i64 A, .int .i64 Y]
theorem infoTurn : (Tryz.prog.info? 62).map (·.size) = some 3 := by kernel_rfl
theorem TurnsAt.kept {w w' : World} {v : Value} {n : Nat} (h : TurnsAt w v n) (hb : Below w.heap.size w w') : TurnsAt w' v n := by
 obtain ⟨ao, cap, rfl, h1, h2⟩ := h
 refine ⟨ao, cap, rfl, h1, fun k hk => ?_⟩
 obtain ⟨b, off, K, A, Y, e, hr⟩ := h2 k hk
 exact ⟨b, off, K, A, Y, e, range_kept hr hb⟩
theorem answered_any (K : Int) (S : Sg) (h : SH) (r : Rec) (d : Value) (w : World) (hk1 : 1 ≤ K) (hk2 : K ≤ 8) (k : SgAt w S h) (hb : Bs w d r.l) (hT : STabs w) (hR : Tabs w) (hF : Fits S) (hnm : r.nm.size ≤ 1048576) (hf : r.x.fit) : Calls Tryz.prog 27 #[ov K S h r.x r.nm d] w fun e w' => e = .returned (.bool true) ∧ Below w.heap.size w w' := by
 obtain rfl | rfl | rfl | rfl | rfl | rfl | rfl | rfl : K = 1 ∨ K = 2 ∨ K = 3 ∨ K = 4 ∨ K = 5 ∨ K = 6 ∨ K = 7 ∨ K = 8 := by omega
 ·exact answered_1 S h r d w hb hT hR hnm hf
 ·exact answered_2 S h r d w k hb hT hR hF hnm hf
 ·exact answered_3 S h r d w k hT hR hF
 ·exact answered_4 S h r d w k hT hR hF
 ·exact answered_5 S h r d w k hT hR hF
 ·exact answered_6 S h r d w k hT hR hF
 ·exact answered_7 S h r d w k hT hR hF
 ·exact answered_8 S h r d w k hF
structure AgI (w0 : World) (S : Sg) (h1 : SH) (r : Rec) (d1 : Value) (p7 p8 : Nat) (D1 E1 : List Value) (w : World) (T : Sg) (l : List Nat) : Prop where
 bin : LB w p7 25 D1
 brec : LB w p8 37 E1
 akin : Akin S T
 len : l.length = r.l.length
 s : SgO w0.heap.size w T h1
 o : Own w0.heap.size w d1 l
 b : Below w0.heap.size w0 w
theorem AgI.kept {w0 w w' : World} {S T : Sg} {h1 : SH} {r : Rec} {d1 : Value} {p7 p8 : Nat} {D1 E1 : List Value} {l : List Nat} (k : AgI w0 S h1 r d1 p7 p8 D1 E1 w T l) (hb : Below w.heap.size w w') : AgI w0 S h1 r d1 p7 p8 D1 E1 w' T l :=
 ⟨k.bin.kept hb, k.brec.kept hb, k.akin, k.len, sgo_below k.s hb, k.o.kept hb, andThen k.b hb⟩
structure AgJ (w0 : World) (S : Sg) (h1 : SH) (r : Rec) (d1 : Value) (p7 p8 : Nat) (D1 E1 : List Value) (p10 p11 : Nat) (h2 : SH) (d2 : Value) (D2 E2 : List Value) (w : World) (T : Sg) (l : List Nat) : Prop where
 i : AgI w0 S h1 r d1 p7 p8 D1 E1 w T l
 bwas : LB w p10 25 D2
 bold : LB w p11 37 E2
 was : SgAt w T h2
 old : Bs w d2 l
theorem AgJ.kept {w0 w w' : World} {S T : Sg} {h1 : SH} {r : Rec} {d1 : Value} {p7 p8 : Nat} {D1 E1 : List Value} {p10 p11 : Nat} {h2 : SH} {d2 : Value} {D2 E2 : List Value} {l : List Nat} (k : AgJ w0 S h1 r d1 p7 p8 D1 E1 p10 p11 h2 d2 D2 E2 w T l) (hb : Below w.heap.size w w') : AgJ w0 S h1 r d1 p7 p8 D1 E1 p10 p11 h2 d2 D2 E2 w' T l :=
 ⟨k.i.kept hb, k.bwas.kept hb, k.bold.kept hb, k.was.kept hb, k.old.kept hb⟩
theorem wpList_build_op2 {L : List Value} {K : Int} {D E : List Value} (hL : (.int .i64 K :: (D ++ E) : List Value) = L) (hl : D.length = 16) (hl2 : E.length = 12) {ops : Array Oper} {rest : List Oper} {op : Oper} {a : Act} {w : World} {Q : Exit → Act → World → Prop} (hw : Region.wanted op (yielded ops a.tmps) = true) (t0 t1 t2 : Nat) (ho : op.op = .build 59 #[(0, .tmp t0), (1, .tmp t1), (2, .tmp t2)])
  (hx0 : a.eval (.tmp t0) = .int .i64 K) (hx : a.eval (.tmp t1) = .agg D.toArray) (hx2 : a.eval (.tmp t2) = .agg E.toArray) (h : wpList Tryz.prog ops Q rest (a.put op.dst (.agg L.toArray)) w) : wpList Tryz.prog ops Q (op :: rest) a w := by
 subst hL
 refine wpList_step fun K2 hK => ?_
 rw [if_pos hw]
 obtain ⟨dst, op', ty, pos, after, guard⟩ := op
 simp only at ho
 subst ho
 have hK2 := hK _ _ h
 clear hK h hw
 match D, hl, E, hl2 with
 | [d0, d1, d2, d3, d4, d5, d6, d7, d8, d9, d10, d11, d12, d13, d14, d15], _, [e0, e1, e2, e3, e4, e5, e6, e7, e8, e9, e10, e11], _ =>
  simp [Act.eval] at hx0 hx hx2
  simp only [List.cons_append, List.nil_append] at hK2
  go_simp
  exact hK2
theorem sagaAgain_walk (S : Sg) (h : SH) (r : Rec) (d vt : Value) (n : Nat) (w : World) (k : SgAt w S h) (hb : Bs w d r.l) (hF : Fits S) (hnm : r.nm.size ≤ 1048576) (hf : r.x.fit) (hrl : r.l.length ≤ 1048576) (ht : TurnsAt w vt n) (hT : STabs w) (hR : Tabs w) :
  Calls Tryz.prog 6 #[sv S h, rv r.x r.nm d, vt] w fun e w' => e = .returned (.bool true) ∧ Below w.heap.size w w' := by
 have HCL : Hid (∀ (T : Sg) (h' : SH) (w' : World), Fits T → SgAt w' T h' → Calls Tryz.prog 24 #[sv T h'] w' fun e w'' => ∃ h2, e = .returned (sv T h2) ∧ SgO w'.heap.size w'' T h2 ∧ Below w'.heap.size w' w'') := fun T h' w' f q => (rxclone_any T h' w' q (by have := f.inp; omega) (by have := f.fail; omega) (fun x hx => by have := f.outs x hx; omega) (fun x hx => by have := f.und x hx; omega) (by have := f.outsN; omega) (by have := f.undN; omega)).mono fun e w'' ⟨h2, e1, e2, e3⟩ => ⟨h2, e1, own_o e2, e3⟩
 have HRC : Hid (∀ (d' : Value) (l : List Nat) (w' : World), l.length ≤ 1048576 → Bs w' d' l → Calls Tryz.prog 15 #[rv r.x r.nm d'] w' fun e w'' => ∃ d2, e = .returned (rv r.x r.nm d2) ∧ Own w'.heap.size w'' d2 l ∧ Below w'.heap.size w' w'') := fun d' l w' f q => refclone_any r.x r.nm d' l w' q (by omega)
 have HAN : Hid (∀ (K : Int) (T : Sg) (h' : SH) (d' : Value) (l : List Nat) (w' : World), 1 ≤ K → K ≤ 8 → Below w.heap.size w w' → Fits T → SgAt w' T h' → Bs w' d' l → Calls Tryz.prog 27 #[ov K T h' r.x r.nm d'] w' fun e w'' => e = .returned (.bool true) ∧ Below w'.heap.size w' w'') := fun K T h' d' l w' k1 k2 hb' f q1 q2 => answered_any K T h' ⟨r.x, r.nm, l⟩ d' w' k1 k2 q1 q2 (hT.kept hb') (hR.kept hb') f hnm hf
 have HSM : Hid (∀ (T : Sg) (h' h2 : SH) (w' : World), SgAt w' T h' → SgAt w' T h2 → Calls Tryz.prog 25 #[sv T h', sv T h2] w' fun e w'' => e = .returned (.bool true) ∧ Below w'.heap.size w' w'') := fun T h' h2 w' q1 q2 => same_any T h' h2 w' q1 q2
 have HRS : Hid (∀ (d' d2 : Value) (l : List Nat) (w' : World), Bs w' d' l → Bs w' d2 l → Calls Tryz.prog 26 #[rv r.x r.nm d', rv r.x r.nm d2] w' fun e w'' => e = .returned (.bool true) ∧ Below w'.heap.size w' w'') := fun d' d2 l w' q1 q2 => by
  have e := refsame_any r.x r.x r.nm r.nm d' d2 l l w' q1 q2
  rw [show recEq r.x r.x r.nm r.nm l l = true by simp [recEq]] at e
  exact e
 have HST : Hid (∀ w', Below w.heap.size w w' → Calls Tryz.prog 13 #[] w' fun e w'' => e = .returned (.bool true) ∧ Below w'.heap.size w' w'') := fun w' hb' => sstarted_any w' (hR.kept hb') (hT.kept hb')
 have HTD : Hid (∀ (T : Sg) (h' : SH) (l : List Nat) (d' : Value) (K A Y : Int) (w' : World), SgO w.heap.size w' T h' → Own w.heap.size w' d' l → Below w.heap.size w w' → Fits T → l.length ≤ 1048576 → Calls Tryz.prog 28 #[sv T h', rv r.x r.nm d', .agg #[.int .i64 K, .int .i64 A, .int .i64 Y]] w' fun e w'' => TdPost w.heap.size w' T h' l d' e w'') := fun T h' l d' K A Y w' q1 q2 q3 f q4 => turned_any T h' ⟨r.x, r.nm, l⟩ d' K A Y w.heap.size w' q1 q2 q3.size f q4
 have HFS : Hid (Fits S) := hF
 have HRL : Hid (r.l.length ≤ 1048576) := hrl
 obtain ⟨at1, ct1, rfl, hn, htc⟩ := ht
 have HTC : Hid (∀ w', Below w.heap.size w w' → ∀ k, k < n → ∃ b off K A Y, at1 = some ⟨b, off, none⟩ ∧ w'.rangeAt b (off + k * 3) [.int .i64 K, .int .i64 A, .int .i64 Y]) := fun w' hb' k hk => by
  obtain ⟨b, off, K, A, Y, e, hr⟩ := htc k hk
  exact ⟨b, off, K, A, Y, e, range_kept hr hb'⟩
 obtain ⟨Z, hZ⟩ : ∃ Z, Z = zcl := ⟨_, rfl⟩
 obtain ⟨ZR, hZR⟩ : ∃ ZR, ZR = zrl := ⟨_, rfl⟩
 have HZ : Hid (Z = zcl) := hZ
 have HZR : Hid (ZR = zrl) := hZR
 have HZL : Hid (Z.length = 16) := by show _ = _; rw [hZ]; rfl
 have HZRL : Hid (ZR.length = 12) := by show _ = _; rw [hZR]; rfl
 obtain ⟨D, hD, hL, hE⟩ := sv_letter S h
 obtain ⟨E, hD2, hL2, hE2⟩ := rv_letter r.x r.nm d
 rw [hD, hD2]
 have HD : Hid (sv S h = .agg D.toArray) := hD
 have HD2 : Hid (rv r.x r.nm d = .agg E.toArray) := hD2
 have HL : Hid _ := hL
 have HL2 : Hid _ := hL2
 have HX : Hid (LB ((w.alloc (.cells D.toArray 25)).alloc (.cells E.toArray 37)) w.heap.size 25 D ∧ LB ((w.alloc (.cells D.toArray 25)).alloc (.cells E.toArray 37)) (w.heap.size + 1) 37 E ∧ Below w.heap.size w ((w.alloc (.cells D.toArray 25)).alloc (.cells E.toArray 37)) ∧ SgAt ((w.alloc (.cells D.toArray 25)).alloc (.cells E.toArray 37)) S h ∧ Bs ((w.alloc (.cells D.toArray 25)).alloc (.cells E.toArray 37)) d r.l) := by
  obtain ⟨q1, q2, q3⟩ := lb_new2 w D E 25 37
  exact ⟨q1, q2, q3, k.kept q3, hb.kept q3⟩
 clear hD hL hE hD2 hL2 hE2 hZ hZR k hb hT hR hF hnm hf hrl htc
 go_enter Tryz.func6, Tryz.ntmps6
 go_wp2_with (first | (refine wpList_load_mid rfl 25 _ rfl w.heap.size 0 rfl D _ HX.out.1.range Tryz.underlying25 rfl HL.out ?_) | fail)
 rw [← HD.out]
 refine (HCL.out S h _ HFS.out HX.out.2.2.2.1).mono ?_
 rintro e w1 ⟨h1, rfl, o1, b1⟩

 obtain ⟨D1, hD, hL, hE⟩ := sv_letter S h1
 rw [hD]
 have HD1 : Hid (sv S h1 = .agg D1.toArray) := hD
 have HDL1 : Hid _ := hL
 have HDO1 : Hid (∀ v ∈ D1, v.oneCell' = true) := by show ∀ v ∈ D1, _; rw [hE]; exact scl_one _ _
 have HDZ1 : Hid (D1.length = Z.length) := by show _ = _; rw [hE, HZL.out]; rfl
 have HT1 : Hid ((w1.alloc (.cells Z.toArray 25)).there w1.heap.size 0 D1.toArray.size) := there_of (lb_new w1 Z _) (by simpa using HDZ1.out)
 have EE1 : Hid (∃ Y, Y = (w1.alloc (.cells Z.toArray 25)).setCells w1.heap.size 0 D1 ∧ LB Y (w.heap.size + 1) 37 E ∧ LB Y w1.heap.size 25 D1 ∧ SgO w.heap.size Y S h1 ∧ Below w.heap.size w Y ∧ Bs Y d r.l) := by
  obtain ⟨q1, q2⟩ := one_boxR w1 25 Z D1 HDZ1.out
  exact ⟨_, rfl, (HX.out.2.1.kept b1).kept q2, q1, sgo_below (o1.weak HX.out.2.2.1.size) q2, andThen (andThen HX.out.2.2.1 b1) q2, (HX.out.2.2.2.2.kept b1).kept q2⟩
 clear hD hL hE o1 b1 HX
 go_wp2_with (first | (refine wpList_alloc_Z HZ.out rfl rfl ?_) | (refine wpList_store_mid rfl 25 (.tmp 7) (.tmp 15) rfl w1.heap.size 0 D1.toArray rfl rfl HT1.out (by simpa using HDL1.out) (all_oneCell_toArray HDO1.out) ?_; (obtain ⟨Y1, hY, hq⟩ := EE1.out); (have H1 : Hid _ := hq); (rw [List.toList_toArray, ← hY]); (clear hY hq EE1 HT1)) | (refine wpList_load_mid rfl 37 _ rfl (w.heap.size + 1) 0 rfl E _ H1.out.1.range Tryz.underlying37 rfl HL2.out ?_) | fail)
 generalize w1.heap.size = p7 at *
 rw [← HD2.out]
 refine (HRC.out d r.l _ HRL.out H1.out.2.2.2.2).mono ?_
 rintro e w2 ⟨d1, rfl, o2, b2⟩
 obtain ⟨D2, hD, hL, hE⟩ := rv_letter r.x r.nm d1
 rw [hD]
 have HD2 : Hid (rv r.x r.nm d1 = .agg D2.toArray) := hD
 have HDL2 : Hid _ := hL
 have HDO2 : Hid (∀ v ∈ D2, v.oneCell' = true) := by
  obtain ⟨a, c, e9, _⟩ := o2.bs.shape
  show ∀ v ∈ D2, _
  rw [hE]
  exact rcE_one _ _ _ (by rw [e9]; rfl)
 have HDZ2 : Hid (D2.length = ZR.length) := by show _ = _; rw [hE, HZRL.out]; rfl
 have HT2 : Hid ((w2.alloc (.cells ZR.toArray 37)).there w2.heap.size 0 D2.toArray.size) := there_of (lb_new w2 ZR _) (by simpa using HDZ2.out)
 have EE2 : Hid (∃ Y, Y = (w2.alloc (.cells ZR.toArray 37)).setCells w2.heap.size 0 D2 ∧ AgI w S h1 r d1 p7 w2.heap.size D1 D2 Y S r.l) := by
  obtain ⟨q1, q2⟩ := one_boxR w2 37 ZR D2 HDZ2.out
  exact ⟨_, rfl, ⟨(H1.out.2.1.kept b2).kept q2, q1, Akin.refl S, rfl, sgo_below (sgo_below H1.out.2.2.1 b2) q2, (own_weak o2 H1.out.2.2.2.1.size).kept q2, andThen (andThen H1.out.2.2.2.1 b2) q2⟩⟩
 clear hD hL hE o2 b2 H1
 go_wp2_with (first | (refine wpList_alloc_R HZR.out rfl rfl ?_) | (refine wpList_store_mid rfl 37 (.tmp 8) (.tmp 17) rfl w2.heap.size 0 D2.toArray rfl rfl HT2.out (by simpa using HDL2.out) (all_oneCell_toArray HDO2.out) ?_; (obtain ⟨Y2, hY, hq⟩ := EE2.out); (have H2 : Hid _ := hq); (rw [List.toList_toArray, ← hY]); (clear hY hq EE2 HT2)) | fail)
 generalize w2.heap.size = p8 at *
 have HDA : Hid (sv S h1 = .agg D1.toArray ∧ rv r.x r.nm d1 = .agg D2.toArray) := ⟨HD1.out, HD2.out⟩
 have HLD : Hid (D1.length = 16 ∧ D2.length = 12) := ⟨HDZ1.out.trans HZL.out, HDZ2.out.trans HZRL.out⟩
 clear HD HD1 HL HL2
 go_loopw [9] (fun i wr => ∃ k : Nat, k ≤ n + 1 ∧ i = .int .i64 (k : Int) ∧ ∃ T l, AgI w S h1 r d1 p7 p8 D1 D2 wr T l) (fun i _ => n + 1 - (intOf i).toNat)
 case atStart => exact ⟨0, by omega, rfl, S, r.l, H2.out⟩
 case round =>
  obtain ⟨k, hk, rfl, T, l, hA⟩ := hrel
  have HA : Hid (AgI w S h1 r d1 p7 p8 D1 D2 wr T l) := hA
  have HDT : Hid (sv T h1 = .agg D1.toArray) := by show _ = _; rw [hA.akin.sv]; exact HDA.out.1
  have HFT : Hid (Fits T) := hA.akin.fits HFS.out
  have HLL : Hid (l.length ≤ 1048576) := by show _ ≤ _; rw [hA.len]; exact HRL.out
  clear hA H2
  by_cases hlt : k ≤ n
  ·have hkn : (k : Int) ≤ (n : Int) := by omega
   have HC3 : Hid (Calls Tryz.prog 24 #[.agg D1.toArray] wr fun e w'' => ∃ h2, e = .returned (sv T h2) ∧ SgO wr.heap.size w'' T h2 ∧ Below wr.heap.size wr w'') := by
    have e := HCL.out T h1 wr HFT.out HA.out.s.at
    rw [HDT.out] at e
    exact e
   go_wp2_with (first | (refine wpList_load_mid rfl 25 _ rfl p7 0 rfl D1 _ HA.out.bin.range Tryz.underlying25 rfl HDL1.out ?_) | fail)
   refine HC3.out.mono ?_
   rintro e w3 ⟨h2, rfl, o3, b3⟩
   obtain ⟨D3, hD, hL, hE⟩ := sv_letter T h2
   rw [hD]
   have HD3 : Hid (sv T h2 = .agg D3.toArray) := hD
   have HDL3 : Hid _ := hL
   have HDO3 : Hid (∀ v ∈ D3, v.oneCell' = true) := by show ∀ v ∈ D3, _; rw [hE]; exact scl_one _ _
   have HDZ3 : Hid (D3.length = Z.length) := by show _ = _; rw [hE, HZL.out]; rfl
   have HT3 : Hid ((w3.alloc (.cells Z.toArray 25)).there w3.heap.size 0 D3.toArray.size) := there_of (lb_new w3 Z _) (by simpa using HDZ3.out)
   have EE3 : Hid (∃ Y, Y = (w3.alloc (.cells Z.toArray 25)).setCells w3.heap.size 0 D3 ∧ AgI w S h1 r d1 p7 p8 D1 D2 Y T l ∧ LB Y w3.heap.size 25 D3 ∧ SgAt Y T h2) := by
    obtain ⟨q1, q2⟩ := one_boxR w3 25 Z D3 HDZ3.out
    exact ⟨_, rfl, (HA.out.kept b3).kept q2, q1, (o3.at).kept q2⟩
   clear hD hL hE o3 b3 HA HC3
   go_wp2_with (first | (refine wpList_alloc_Z HZ.out rfl rfl ?_) | (refine wpList_store_mid rfl 25 (.tmp 10) (.tmp 25) rfl w3.heap.size 0 D3.toArray rfl rfl HT3.out (by simpa using HDL3.out) (all_oneCell_toArray HDO3.out) ?_; (obtain ⟨Y3, hY, hq⟩ := EE3.out); (have H3 : Hid _ := hq); (rw [List.toList_toArray, ← hY]); (clear hY hq EE3 HT3)) | (refine wpList_load_mid rfl 37 _ rfl p8 0 rfl D2 _ H3.out.1.brec.range Tryz.underlying37 rfl HDL2.out ?_) | fail)
   generalize w3.heap.size = p10 at *
   have HC4 : Hid (Calls Tryz.prog 15 #[.agg D2.toArray] Y3 fun e w'' => ∃ d2, e = .returned (rv r.x r.nm d2) ∧ Own Y3.heap.size w'' d2 l ∧ Below Y3.heap.size Y3 w'') := by
    have e := HRC.out d1 l Y3 HLL.out H3.out.1.o.bs
    rw [HDA.out.2] at e
    exact e
   refine HC4.out.mono ?_
   rintro e w4 ⟨d2, rfl, o4, b4⟩
   obtain ⟨D4, hD, hL, hE⟩ := rv_letter r.x r.nm d2
   rw [hD]
   have HD4 : Hid (rv r.x r.nm d2 = .agg D4.toArray) := hD
   have HDL4 : Hid _ := hL
   have HDO4 : Hid (∀ v ∈ D4, v.oneCell' = true) := by
    obtain ⟨a, c, e9, _⟩ := o4.bs.shape
    show ∀ v ∈ D4, _
    rw [hE]
    exact rcE_one _ _ _ (by rw [e9]; rfl)
   have HDZ4 : Hid (D4.length = ZR.length) := by show _ = _; rw [hE, HZRL.out]; rfl
   have HT4 : Hid ((w4.alloc (.cells ZR.toArray 37)).there w4.heap.size 0 D4.toArray.size) := there_of (lb_new w4 ZR _) (by simpa using HDZ4.out)
   have EE4 : Hid (∃ Y, Y = (w4.alloc (.cells ZR.toArray 37)).setCells w4.heap.size 0 D4 ∧ AgJ w S h1 r d1 p7 p8 D1 D2 p10 w4.heap.size h2 d2 D3 D4 Y T l) := by
    obtain ⟨q1, q2⟩ := one_boxR w4 37 ZR D4 HDZ4.out
    exact ⟨_, rfl, ⟨(H3.out.1.kept b4).kept q2, (H3.out.2.1.kept b4).kept q2, q1, (H3.out.2.2.kept b4).kept q2, (o4.bs).kept q2⟩⟩
   clear hD hL hE o4 b4 H3 HC4
   go_wp2_with (first | (refine wpList_alloc_R HZR.out rfl rfl ?_) | (refine wpList_store_mid rfl 37 (.tmp 11) (.tmp 27) rfl w4.heap.size 0 D4.toArray rfl rfl HT4.out (by simpa using HDL4.out) (all_oneCell_toArray HDO4.out) ?_; (obtain ⟨Y4, hY, hq⟩ := EE4.out); (have H4 : Hid _ := hq); (rw [List.toList_toArray, ← hY]); (clear hY hq EE4 HT4)) | fail)
   generalize w4.heap.size = p11 at *
   go_loopw [12] (fun i wr => ∃ K : Nat, 1 ≤ K ∧ K ≤ 9 ∧ i = .int .i64 (K : Int) ∧ AgJ w S h1 r d1 p7 p8 D1 D2 p10 p11 h2 d2 D3 D4 wr T l) (fun i _ => 9 - (intOf i).toNat)
   case atStart => exact ⟨1, by omega, by omega, rfl, H4.out⟩
   case round =>
    obtain ⟨K, hK1, hK9, rfl, hJ⟩ := hrel
    have HJ : Hid (AgJ w S h1 r d1 p7 p8 D1 D2 p10 p11 h2 d2 D3 D4 wr T l) := hJ
    clear hJ H4
    by_cases hK : K ≤ 8
    ·have hK8 : (K : Int) ≤ 8 := by omega
     obtain ⟨L, hLL⟩ : ∃ L, (.int .i64 (K : Int) :: (D1 ++ D2) : List Value) = L := ⟨_, rfl⟩
     have HLL2 : Hid ((.int .i64 (K : Int) :: (D1 ++ D2) : List Value) = L) := hLL
     have HAC : Hid (Calls Tryz.prog 27 #[.agg L.toArray] wr fun e w'' => e = .returned (.bool true) ∧ Below wr.heap.size wr w'') := by
      have e := HAN.out (K : Int) T h1 d1 l wr (by omega) (by omega) HJ.out.i.b HFT.out HJ.out.i.s.at HJ.out.i.o.bs
      rw [← hLL]
      have e2 : ov (K : Int) T h1 r.x r.nm d1 = .agg (.int .i64 (K : Int) :: (D1 ++ D2)).toArray := by
       unfold ov
       have e3 : (sv T h1).cells.toList = D1 := by rw [HDT.out]; rfl
       have e4 : (rv r.x r.nm d1).cells.toList = D2 := by rw [HDA.out.2]; rfl
       rw [← e3, ← e4]
       rfl
      rw [e2] at e
      exact e
     clear hLL
     go_wp2_with (first | (refine wpList_load_mid rfl 25 _ rfl p7 0 rfl D1 _ HJ.out.i.bin.range Tryz.underlying25 rfl HDL1.out ?_) | (refine wpList_load_mid rfl 37 _ rfl p8 0 rfl D2 _ HJ.out.i.brec.range Tryz.underlying37 rfl HDL2.out ?_) | (refine wpList_build_op2 HLL2.out HLD.out.1 HLD.out.2 rfl 32 33 34 rfl rfl rfl rfl ?_) | fail)
     refine HAC.out.mono ?_
     rintro e w5 ⟨rfl, b5⟩
     have H5 : Hid (AgJ w S h1 r d1 p7 p8 D1 D2 p10 p11 h2 d2 D3 D4 w5 T l) := HJ.out.kept b5
     clear b5 HJ HAC HLL2
     have HS5 : Hid (Calls Tryz.prog 25 #[.agg D1.toArray, .agg D3.toArray] w5 fun e w'' => e = .returned (.bool true) ∧ Below w5.heap.size w5 w'') := by
      have e := HSM.out T h1 h2 w5 H5.out.i.s.at H5.out.was
      rw [HDT.out, HD3.out] at e
      exact e
     go_wp2_with (first | (refine wpList_load_midG rfl 25 _ rfl p7 0 rfl D1 _ H5.out.i.bin.range Tryz.underlying25 rfl HDL1.out ?_) | (refine wpList_load_midG rfl 25 _ rfl p10 0 rfl D3 _ H5.out.bwas.range Tryz.underlying25 rfl HDL3.out ?_) | fail)
     refine HS5.out.mono ?_
     rintro e w6 ⟨rfl, b6⟩
     have H6 : Hid (AgJ w S h1 r d1 p7 p8 D1 D2 p10 p11 h2 d2 D3 D4 w6 T l) := H5.out.kept b6
     clear b6 H5 HS5
     have HS6 : Hid (Calls Tryz.prog 26 #[.agg D2.toArray, .agg D4.toArray] w6 fun e w'' => e = .returned (.bool true) ∧ Below w6.heap.size w6 w'') := by
      have e := HRS.out d1 d2 l w6 H6.out.i.o.bs H6.out.old
      rw [HDA.out.2, HD4.out] at e
      exact e
     go_wp2_with (first | (refine wpList_load_midG rfl 37 _ rfl p8 0 rfl D2 _ H6.out.i.brec.range Tryz.underlying37 rfl HDL2.out ?_) | (refine wpList_load_midG rfl 37 _ rfl p11 0 rfl D4 _ H6.out.bold.range Tryz.underlying37 rfl HDL4.out ?_) | fail)
     refine HS6.out.mono ?_
     rintro e w7 ⟨rfl, b7⟩
     have H7 : Hid (AgJ w S h1 r d1 p7 p8 D1 D2 p10 p11 h2 d2 D3 D4 w7 T l) := H6.out.kept b7
     clear b7 H6 HS6
     go_wp2_with fail
     go_roundw
     case rel => exact ⟨K + 1, by omega, by omega, by simp, H7.out⟩
     case measure => simp [intOf]; omega
    ·obtain rfl : K = 9 := by omega
     by_cases hkl : k < n
     ·have hkl2 : (k : Int) < (n : Int) := by omega
      obtain ⟨bt, ot, KK, A, Y, rfl, hrt⟩ := HTC.out w (Below.refl _ _) k hkl
      have HRT : Hid (∀ w', Below w.heap.size w w' → w'.rangeAt bt (ot + k * 3) [.int .i64 KK, .int .i64 A, .int .i64 Y]) := fun w' hb => range_kept hrt hb
      have HTI : Hid ((Tryz.prog.info? 62).map (·.size) = some [Value.int .i64 KK, Value.int .i64 A, Value.int .i64 Y].length) := infoTurn
      have HT6 : Hid (∀ w', AgI w S h1 r d1 p7 p8 D1 D2 w' T l → Calls Tryz.prog 28 #[.agg D1.toArray, .agg D2.toArray, .agg #[.int .i64 KK, .int .i64 A, .int .i64 Y]] w' fun e w'' => e = .returned (.tuple #[]) ∧ ∃ T2, ∃ l2, AgI w S h1 r d1 p7 p8 D1 D2 w'' T2 l2) := fun w' hi => by
       have e := HTD.out T h1 l d1 KK A Y w' hi.s hi.o hi.b HFT.out HLL.out
       rw [HDT.out, HDA.out.2] at e
       exact e.mono fun e w'' ⟨e1, T2, l2, q1, q2, q3, q4, q5, q6⟩ => ⟨e1, T2, l2, q6 _ _ _ (by decide) hi.bin, q6 _ _ _ (by decide) hi.brec, hi.akin.trans q1, q2.trans hi.len, q3, q4, hi.b.trans q5⟩
      clear hrt
      go_upto_region 15 with fail
      refine wp_region_held_drew (S := (fun w' => w'.rangeAt p7 0 D1 ∧ w'.rangeAt p8 0 D2 ∧ w'.rangeAt bt (ot + k * 3) [.int .i64 KK, .int .i64 A, .int .i64 Y])) (by kernel_rfl) ?_ (fun hH => ?_)
      ·exact ⟨HJ.out.i.bin.range, HJ.out.i.brec.range, HRT.out _ HJ.out.i.b.drew⟩
      refine zql 0 rfl (yieldsIf_load_mid (by rfl) _ _ rfl _ _ rfl D1 _ (fun w' hSw => hSw.1) Tryz.underlying25 rfl HDL1.out) hH ?_
      simp only [zq]
      refine zql 1 rfl (yieldsIf_load_mid (by rfl) _ _ rfl _ _ rfl D2 _ (fun w' hSw => hSw.2.1) Tryz.underlying37 rfl HDL2.out) hH ?_
      simp only [zq]
      refine zqk 2 rfl hH ?_
      simp only [zq]
      refine zqk 3 rfl hH ?_
      simp only [zq]
      refine zqk 4 rfl hH ?_
      simp only [zq]
      refine zql 5 rfl (yieldsIf_load_mid (by rfl) _ _ rfl _ _ rfl [Value.int .i64 KK, Value.int .i64 A, Value.int .i64 Y] _ (fun w' hSw => hSw.2.2) Tryz.underlying62 rfl HTI.out) hH ?_
      simp only [zq]
      refine zqr 6 rfl (fun K hK => ?_)
      go_simp
      refine (HT6.out _ (HJ.out.i.kept (Below.drew (Below.refl _ _)))).mono ?_
      rintro e w9 ⟨rfl, T2, l2, q9⟩
      have H9 : Hid (AgI w S h1 r d1 p7 p8 D1 D2 w9 T2 l2) := q9
      clear q9
      refine hK.out _ _ ?_ (fun hH2 => ?_)
      ·exact ⟨H9.out.bin.range, H9.out.brec.range, HRT.out _ H9.out.b⟩
      clear hK K hH
      have hH := hH2
      clear hH2
      refine wpAnyH_done (by kernel_rfl) ?_ _
      go_wp2_with fail
      go_roundw
      case rel => exact ⟨k + 1, by omega, by simp, T2, l2, H9.out⟩
      case measure => simp [intOf]; omega
     ·have hkl2 : ((k : Int) < (n : Int)) = False := by simp; omega
      go_wp2_with fail
      go_roundw
      case rel => exact ⟨k + 1, by omega, by simp, T, l, HJ.out.i⟩
      case measure => simp [intOf]; omega
  ·obtain rfl : k = n + 1 := by omega
   have hkl2 : (((n + 1 : Nat) : Int) ≤ (n : Int)) = False := by simp; omega
   go_wp2_with fail
   refine (HST.out _ HA.out.b).mono ?_
   rintro e w8 ⟨rfl, b8⟩
   have H8 : Hid (Below w.heap.size w w8) := andThen HA.out.b b8
   clear b8
   go_wp2_with fail
   go_ret
   exact ⟨rfl, H8.out⟩
end Go.Proofs.YtabdfafffjgfiaaGreatDoor
namespace Go.Proofs.YtabdfafffjgfiaaGreatDoor
open Go Go.RowKit Go.ChangeShapes Go.WideShapes Go.ChangeAt
open Wb

theorem cellsTURN : Tryz.prog.cellsOf 62 = 3 := by kernel_rfl
theorem open_turn {H : Type} {enc : TypeId × Value → H} {W : World} {fuel : Nat} {cs : List Value} {d : DataW H} {p : List MemPlace} (hf : DataW.trod enc Tryz.prog W 0 (fun _ => true) true fuel 62 cs = some (d, p)) (hlen : cs.length = 3) :
  ∃ at1 kd by1, cs = [.int .i64 at1, .int .i64 kd, .int .i64 by1] := by
 obtain ⟨xs, k', _, hxy, _, hxl, hfs⟩ := DataW.trod_struct Tryz.underlying62 hf
 match xs, hxl, cs, hlen with
 | [y0, y1, y2], _, [v0, v1, v2], _ =>
  have g0 := hfs 0 _ rfl
  have g1 := hfs 1 _ rfl
  have g2 := hfs 2 _ rfl
  simp [cellsTIk] at g0 g1 g2
  obtain ⟨z0, e0, _⟩ := DataW.trod_int Tryz.underlying3 g0
  obtain ⟨z1, e1, _⟩ := DataW.trod_int Tryz.underlying3 g1
  obtain ⟨z2, e2, _⟩ := DataW.trod_int Tryz.underlying3 g2
  simp only [List.cons.injEq, and_true] at e0 e1 e2
  exact ⟨z0, z1, z2, by simp only [e0, e1, e2]⟩
theorem open_turns {H : Type} {enc : TypeId × Value → H} {W : World} {base : Nat} {v : Value} {d : DataW H} {p : List MemPlace} (hv : Value.okWide Tryz.prog W .any base 56 v)
  (h : DataW.Trod enc Tryz.prog W 0 (fun _ => true) true 56 v d p) (hw : Rows.uptoBulk d ≤ 1048576) : ∃ n, TurnsAt W v n := by
 obtain ⟨a0, len0, cap0, rfl⟩ := okWide_slice Tryz.underlying56 hv
 obtain ⟨fuel, hf⟩ := h
 rcases Deep.open_slice Tryz.underlying56 hf with ⟨hcs, _⟩ | ⟨a, len, cap, m, n, D, Pl, hcs, _, hl, hm, hmm, hx, hel⟩
 ·simp [Value.cells] at hcs
  obtain ⟨rfl, rfl, rfl⟩ := hcs
  exact ⟨0, none, 0, rfl, by simp, fun k hk => absurd hk (Nat.not_lt_zero _)⟩
 ·simp [Value.cells] at hcs
  obtain ⟨rfl, rfl, rfl⟩ := hcs
  simp only [Prod.mk.injEq] at hx
  have hcnt : len0 ≤ 1048576 := by
   rw [hx.1] at hw
   simp only [Rows.uptoBulk] at hw
   have := bulk_count ((List.range len0).map D)
   simp only [List.length_map, List.length_range] at this
   omega
  refine ⟨len0, some a, cap0, rfl, hcnt, fun k hk => ?_⟩
  have hkm : k < m := by rw [hmm]; simp; omega
  have hspot : a.spot = none := by
   obtain ⟨cs0, h10, _⟩ := hel 0 (by omega)
   rw [cellsTURN] at h10
   obtain ⟨_, hl0, hc0⟩ := World.cells?_some h10
   have r0 := hc0 0 (by omega)
   rw [List.getElem?_eq_getElem (show 0 < cs0.length by omega)] at r0
   simpa [Addr.add] using World.cell?_spot r0
  obtain ⟨cs', h1, h2⟩ := hel k hkm
  rw [cellsTURN] at h1
  obtain ⟨_, hlen, hcell⟩ := World.cells?_some h1
  obtain ⟨at1, kd, by1, e⟩ := open_turn h2 hlen
  obtain ⟨b, off, spot⟩ := a
  obtain rfl : spot = none := hspot
  refine ⟨b, off, at1, kd, by1, rfl, fun j u hu => ?_⟩
  rw [← e] at hu
  have hj : j < 3 := by have := (List.getElem?_eq_some_iff.1 hu).1; omega
  have := hcell j hj
  rw [Deep.add_add, Go.WideShapes.add_plain, ← Nat.add_assoc, hu] at this
  exact this
theorem open_sagau {H : Type} {enc : TypeId × Value → H} {W : World} {base : Nat} {v : Value} {d : DataW H} {p : List MemPlace} (hv : Value.okWide Tryz.prog W .any base 25 v)
  (h : DataW.Trod enc Tryz.prog W 0 (fun _ => true) true 25 v d p) (hw : Rows.uptoBulk d ≤ 1048576) : ∃ S h', v = sv S h' ∧ SgAt W S h' ∧ Fits S := by
 obtain ⟨cs, rfl, hcs⟩ := okWide_struct Tryz.underlying25 hv
 rw [cellsTSAGAk] at hcs
 obtain ⟨fuel, hf⟩ := h
 have hlen : cs.toList.length = 16 := by simpa using hcs
 obtain ⟨S, h', e, k, f⟩ := open_sagal (show DataW.trod enc Tryz.prog W 0 (fun _ => true) true fuel 25 cs.toList = some (d, p) from hf) hlen hw
 refine ⟨S, h', ?_, k, f⟩
 have e2 : cs = (scl S h').toArray := by rw [← e]
 rw [e2]
 rfl
end Go.Proofs.YtabdfafffjgfiaaGreatDoor
