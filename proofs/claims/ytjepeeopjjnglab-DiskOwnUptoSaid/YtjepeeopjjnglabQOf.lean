import Derived.Deep.RegionHeld3
import Derived.Test.YtjepeeopjjnglabQOb
import Derived.Test.YtjepeeopjjnglabQOd
/-
  The Book of package disk's laws: what lies in it; word.
-/
namespace Go.Proofs.Ytjepeeopjjnglab
open Go Go.RowKit Go.ChangeShapes
open Wb
open Cb
def kB : Kd := ⟨5, 1, fun m x => x[0]? = some m⟩
def kF : Kd := ⟨65, 2, fun m x => x[0]? = some m⟩
def kN : Kd := ⟨9, 1, fun m x => x[0]? = some m⟩
/-- what the fields hold -/
def bkD (l f n : List En) (lh fh nh : List (Value × Nat)) : List (TypeId × List Value) := [(29, l.map (·.1)), (5, l.map (·.2.2)), (35, f.map (·.1)), (32, n.map (·.1)), (9, f.map (·.2.2)), (9, n.map (·.2.2)), (29, lh.map (·.1)), (35, fh.map (·.1)), (32, nh.map (·.1))]
/-- the book in memory -/
structure Bk (B : Nat) (w : World) (C : Nat → Option Cl) (g : Nat) (V : List Value) (l f n : List En) (lh fh nh : List (Value × Nat)) : Prop where
  bm : Bm B 34 w g V (bkD l f n lh fh nh)
  col : Col w C
  unc : ∀ q, Bo g V q → C q = none
  vl : Vs C kB l
  vf : Vs C kF f
  vn : Vs C kN n
  hl : Hs C kB l lh
  hf : Hs C kF f fh
  hn : Hs C kN n nh
  ml : ∀ x ∈ l, (∃ z, x.2.2 = .int .u8 z) ∧ x.2.1 ≤ 5000000
  mf : ∀ x ∈ f, (∃ s : ByteArray, x.2.2 = .string s) ∧ x.2.1 ≤ 5000000
  mn : ∀ x ∈ n, (∃ s : ByteArray, x.2.2 = .string s) ∧ x.2.1 ≤ 5000000
  low : ∀ q, C q ≠ none → B ≤ q
/-- what a call of the book does -/
structure St (w w' : World) (C C' : Nat → Option Cl) (g : Nat) (V V' : List Value) (P : Nat → Prop) : Prop where
  fr : Fr w w' fun q => Bo g V q ∨ C q ≠ none ∨ P q
  bo : ∀ q, Bo g V' q → Bo g V q ∨ w.heap.size ≤ q
  co : ∀ q, C' q ≠ none → C q ≠ none ∨ P q ∨ w.heap.size ≤ q
section
variable {B g : Nat} {w w' w1 w2 : World} {C C' C1 C2 : Nat → Option Cl} {V V' V1 V2 : List Value} {l f n : List En} {lh fh nh : List (Value × Nat)} {P P2 : Nat → Prop}
theorem St.refl (w : World) (C : Nat → Option Cl) (g : Nat) (V : List Value) (P : Nat → Prop) : St w w C C g V V P := ⟨Fr.refl _ _, fun _ h => .inl h, fun _ h => .inl h⟩
theorem St.trans (h : St w w1 C C1 g V V1 P) (h2 : St w1 w2 C1 C2 g V1 V2 P2) : St w w2 C C2 g V V2 fun q => P q ∨ P2 q := by
  have hs := h.fr.size
  refine ⟨(h.fr.mono fun k hk => ?_).trans h2.fr fun k hk e => ?_, fun q hq => ?_, fun q hq => ?_⟩
  · rcases hk with e | e | e
    · exact .inl e
    · exact .inr (.inl e)
    · exact .inr (.inr (.inl e))
  · rcases e with e | e | e
    · rcases h.bo k e with e2 | e2
      · exact .inl e2
      · omega
    · rcases h.co k e with e2 | e2 | e2
      · exact .inr (.inl e2)
      · exact .inr (.inr (.inl e2))
      · omega
    · exact .inr (.inr (.inr e))
  · rcases h2.bo q hq with e | e
    · exact h.bo q e
    · exact .inr (by omega)
  · rcases h2.co q hq with e | e | e
    · rcases h.co q e with e2 | e2 | e2
      · exact .inl e2
      · exact .inr (.inl (.inl e2))
      · exact .inr (.inr e2)
    · exact .inr (.inl (.inr e))
    · exact .inr (.inr (by omega))
theorem St.mono (h : St w w1 C C1 g V V1 P) (hP : ∀ q, P q → P2 q) : St w w1 C C1 g V V1 P2 := ⟨h.fr.mono fun k hk => hk.imp id (Or.imp id (hP k)), h.bo, fun q hq => (h.co q hq).imp id (Or.imp (hP q) id)⟩
theorem St.kept (h : Below w.heap.size w w') : St w w' C C g V V P := ⟨Fr.kept h, fun _ hq => .inl hq, fun _ hq => .inl hq⟩
/-- blocks that the book does not know -/
def Out (w : World) (C : Nat → Option Cl) (g : Nat) (V : List Value) (E : Nat → Prop) : Prop := ∀ q, E q → q < w.heap.size ∧ C q = none ∧ ¬ Bo g V q
theorem St.same {E : Nat → Prop} (h : St w w' C C' g V V' P) (ho : Out w C g V E) (hd : ∀ q, E q → ¬ P q) : (∀ q, E q → w'.heap[q]? = w.heap[q]?) ∧ Out w' C' g V' E := by
  refine ⟨fun q hq => h.fr.block q (ho q hq).1 fun e => ?_, fun q hq => ⟨Nat.lt_of_lt_of_le (ho q hq).1 h.fr.size, Classical.not_not.1 fun e => ?_, fun e => ?_⟩⟩
  · rcases e with e | e | e
    · exact (ho q hq).2.2 e
    · exact e (ho q hq).2.1
    · exact hd q hq e
  · rcases h.co q e with e | e | e
    · exact e (ho q hq).2.1
    · exact hd q hq e
    · have := (ho q hq).1
      omega
  · rcases h.bo q e with e | e
    · exact (ho q hq).2.2 e
    · have := (ho q hq).1
      omega
theorem Bk.kept (h : Bk B w C g V l f n lh fh nh) (hb : Below w.heap.size w w') : Bk B w' C g V l f n lh fh nh := ⟨h.bm.kept hb, h.col.kept hb, h.unc, h.vl, h.vf, h.vn, h.hl, h.hf, h.hn, h.ml, h.mf, h.mn, h.low⟩
theorem Bk.blk (h : Bk B w C g V l f n lh fh nh) (hb : ∀ q, Bo g V q ∨ C q ≠ none → w'.heap[q]? = w.heap[q]?) : Bk B w' C g V l f n lh fh nh := ⟨h.bm.blk fun q hq => hb q (.inl hq), h.col.blk fun q hq => hb q (.inr hq), h.unc, h.vl, h.vf, h.vn, h.hl, h.hf, h.hn, h.ml, h.mf, h.mn, h.low⟩
theorem Bk.lt (h : Bk B w C g V l f n lh fh nh) {q : Nat} (hq : Bo g V q ∨ C q ≠ none) : B ≤ q ∧ q < w.heap.size := by
  rcases hq with e | e
  · exact h.bm.lt e
  · exact ⟨h.low q e, h.col.lt e⟩
end
/-- a row whose first elements are as told -/
structure Fd (w : World) (e : TypeId) (c : Nat) (v : Value) (n : Nat) (ok : List Value → Prop) (k : Nat) : Prop where
  ex : ∃ xs, w.ownsRow 0 e c v n xs ∧ ∀ j, j < k → ok ((xs.drop (j * c)).take c)
theorem Fd.zero {w : World} {B : Nat} {e : TypeId} {c n : Nat} {v : Value} {xs : List Value} (ok : List Value → Prop) (h : w.ownsRow B e c v n xs) : Fd w e c v n ok 0 := ⟨xs, row_low h (Nat.zero_le _), fun j hj => by omega⟩
/-- one element is written over -/
theorem fd_elem (xs : List Value) (c n k i : Nat) (u : Value) (ok : List Value → Prop) (hl : xs.length = n * c) (hk : k < n) (hi : i < c) (hok : ∀ x : List Value, x.length = c → ok (x.set i u)) (h : ∀ j, j < k → ok ((xs.drop (j * c)).take c)) : ∀ j, j < k + 1 → ok (((xs.set (k * c + i) u).drop (j * c)).take c) := fun j hj => by
  have hkn : (k + 1) * c ≤ n * c := Nat.mul_le_mul_right c hk
  rw [Nat.add_mul] at hkn
  by_cases hjk : j < k
  · have hjk2 : (j + 1) * c ≤ k * c := Nat.mul_le_mul_right c hjk
    rw [Nat.add_mul] at hjk2
    have e : ((xs.set (k * c + i) u).drop (j * c)).take c = (xs.drop (j * c)).take c := by
      rw [List.drop_set, if_neg (by omega), List.take_set_of_le (by omega)]
    rw [e]
    exact h j hjk
  · obtain rfl : j = k := by omega
    have e : ((xs.set (j * c + i) u).drop (j * c)).take c = ((xs.drop (j * c)).take c).set i u := by
      rw [List.drop_set, if_neg (by omega), show j * c + i - j * c = i by omega, List.take_set]
    rw [e]
    exact hok _ (by rw [List.length_take, List.length_drop]; omega)
theorem Fd.put {w : World} {e : TypeId} {c n k : Nat} {a : Option Addr} {cap : Nat} {ok : List Value → Prop} (h : Fd w e c (.slice a n cap) n ok k) (hk : k < n) (i : Nat) (hi : i < c) (u : Value) (hok : ∀ x : List Value, x.length = c → ok (x.set i u)) : ∃ b, a = some ⟨b, 0, none⟩ ∧ (∃ y, w.cell? ⟨b, k * c + i, none⟩ = some y) ∧ w.frozen? ⟨b, k * c + i, none⟩ = false ∧ Fd (w.setCell ⟨b, k * c + i, none⟩ u) e c (.slice a n cap) n ok (k + 1) ∧ Fr w (w.setCell ⟨b, k * c + i, none⟩ u) (· = b) := by
  obtain ⟨xs, hr, hx⟩ := h.ex
  have hkn : (k + 1) * c ≤ n * c := Nat.mul_le_mul_right c hk
  rw [Nat.add_mul] at hkn
  rcases hr.2 with ⟨e1, h0⟩ | ⟨b, cap', cur, e1, -⟩
  · omega
  · simp only [Value.slice.injEq] at e1
    obtain ⟨rfl, -, rfl⟩ := e1
    have hl := hr.1
    refine ⟨b, rfl, ⟨xs[k * c + i]'(by omega), ?_⟩, World.ownsRow.frozenAt hr (k * c + i), ⟨_, (World.ownsRow.stored hr (k * c + i) u).1, fd_elem xs c n k i u ok hl hk hi hok hx⟩, fr_set _ _ _ _⟩
    rw [hr.cellAt (k * c + i) (by omega)]
    exact List.getElem?_eq_getElem _
theorem Fd.blk {w w' : World} {e : TypeId} {c n k : Nat} {v : Value} {ok : List Value → Prop} (h : Fd w e c v n ok k) (hb : ∀ q, v.ownBlock = some q → w'.heap[q]? = w.heap[q]?) : Fd w' e c v n ok k := by
  obtain ⟨xs, hr, hx⟩ := h.ex
  exact ⟨xs, Mg.row_block hr hb, hx⟩
theorem w1conv (w : World) (b : UInt8) : (convert 29 9 (.slice (some ⟨w.heap.size, 0, none⟩) 1 1)).run Try.prog (w.alloc (.cells #[.int .u8 (b.toNat : Int)] 5)) = .ok (.string ⟨#[b]⟩) (w.alloc (.cells #[.int .u8 (b.toNat : Int)] 5)) := by
  refine run_convert_bytes_back _ 29 9 5 ⟨w.heap.size, 0, none⟩ 1 [b] Try.underlying29 Try.underlying5 Try.underlying9 (fun j hj => ?_)
  have h9 := (lb_new w [.int .u8 (b.toNat : Int)] 5).cell 0 _ rfl
  have hj0 : j = 0 := by simpa using hj
  subst hj0
  rw [Addr.add_lit]
  simp [h9]
set_option maxRecDepth 100000 in
set_option maxHeartbeats 4000000 in
theorem dlword_any (n : Nat) (w : World) (hn : n ≤ 1000000000) :
    Calls Try.prog 60 #[.int .i64 (n : Int)] w fun e w' => ∃ s : ByteArray, e = .returned (.string s) ∧ s.size ≤ 13 ∧ Below w.heap.size w w' := by
  go_enter Try.func60, Try.ntmps60
  go_wp2_with fail
  go_loopw [0, 3, 4] (fun m t i wr => ∃ (k q : Nat) (s : ByteArray), k ≤ 12 ∧ q ≤ 1000000000 ∧ m = .int .i64 (q : Int) ∧ t = .string s ∧ s.size ≤ 1 + k ∧ i = .int .i64 (k : Int) ∧ Below w.heap.size w wr) (fun _ _ i _ => 12 - (intOf i).toNat)
  case atStart => exact ⟨0, n, ⟨#[32]⟩, Nat.zero_le _, hn, rfl, rfl, Nat.le_refl _, rfl, Below.refl _ _⟩
  case round =>
    obtain ⟨k, q, s, hk, hq, rfl, rfl, hs, rfl, hb⟩ := hrel
    have HB : Hid (Below w.heap.size w wr) := hb
    clear hb
    by_cases hlt : k < 12
    · have t1 : ((k : Int) < 12) = True := eq_true (by omega)
      obtain ⟨b, hbd⟩ : ∃ b : UInt8, b = UInt8.ofNat (97 + q % 26) := ⟨_, rfl⟩
      have hbn : (b.toNat : Int) = 97 + (q : Int) % 26 := by
        rw [hbd, UInt8.toNat_ofNat_of_lt' (show 97 + q % 26 < 256 by omega)]
        omega
      have hcv := w1conv wr b
      rw [hbn] at hcv
      have hsz : s.size ≤ 14 := by omega
      have HS : Hid (s.size ≤ 1 + k) := hs
      have HQ : Hid (q ≤ 1000000000) := hq
      have hbs : (⟨#[b]⟩ : ByteArray).size = 1 := rfl
      clear hbn hbd hs
      go_wp2_with fail
      go_roundw
      case rel =>
        refine ⟨k + 1, q / 26, s ++ ⟨#[b]⟩, by omega, by have := HQ.out; omega, ?_, rfl, ?_, by go_num, andThen HB.out (up0 _ _)⟩
        · go_num
        · have := HS.out
          rw [ByteArray.size_append, hbs]
          omega
      case measure => simp [intOf]; omega
    · go_wp2_with fail
      go_returns
      exact ⟨s, rfl, by omega, HB.out⟩
end Go.Proofs.Ytjepeeopjjnglab

/-
  The Book: keep.
-/
namespace Go.Proofs.Ytjepeeopjjnglab
open Go Go.RowKit Go.ChangeShapes
open Wb
open Cb
theorem infBS : (Try.prog.info? 29).map (fun i => (i.zero, i.size, i.bytes)) = some (some (.slice none 0 0), 1, 24) := by kernel_rfl
theorem infB : (Try.prog.info? 5).map (fun i => (i.zero, i.size, i.bytes)) = some (some (.int .u8 0), 1, 1) := by kernel_rfl
theorem infFS : (Try.prog.info? 35).map (fun i => (i.zero, i.size, i.bytes)) = some (some (.slice none 0 0), 1, 24) := by kernel_rfl
theorem infSS : (Try.prog.info? 32).map (fun i => (i.zero, i.size, i.bytes)) = some (some (.slice none 0 0), 1, 24) := by kernel_rfl
theorem infS : (Try.prog.info? 9).map (fun i => (i.zero, i.size, i.bytes)) = some (some (.string ⟨#[]⟩), 1, 16) := by kernel_rfl
theorem infF : (Try.prog.info? 65).map (fun i => (i.zero, i.size, i.bytes)) = some (some (.agg #[.string ⟨#[]⟩, .slice none 0 0]), 2, 40) := by kernel_rfl
section
variable {B g : Nat} {w w' : World} {C C' : Nat → Option Cl} {V V' : List Value} {l f n : List En} {lh fh nh : List (Value × Nat)}
theorem nine {α : Type} : ∀ (V : List α), V.length = 9 → ∃ v0 v1 v2 v3 v4 v5 v6 v7 v8, V = [v0, v1, v2, v3, v4, v5, v6, v7, v8]
  | [v0, v1, v2, v3, v4, v5, v6, v7, v8], _ => ⟨v0, v1, v2, v3, v4, v5, v6, v7, v8, rfl⟩
theorem Bk.nine (h : Bk B w C g V l f n lh fh nh) : ∃ v0 v1 v2 v3 v4 v5 v6 v7 v8, V = [v0, v1, v2, v3, v4, v5, v6, v7, v8] := Go.Proofs.Ytjepeeopjjnglab.nine V h.bm.len
/-- append of what lies in a literal of one -/
theorem Bm.lit {tb : TypeId} {D : List (TypeId × List Value)} (h : Bm B tb w g V D) (i : Nat) (v : Value) (t : TypeId) (xs : List Value) (hv : V[i]? = some v) (hd : D[i]? = some (t, xs)) (st ty : TypeId) (z : Value) (by_ : Nat) (hinfo : (Try.prog.info? t).map (fun i => (i.zero, i.size, i.bytes)) = some (some z, 1, by_)) (hz : z.cells.size = 1) (ht : Try.prog.underlying st = some (.slice t)) (x : Value) (hx : x.oneCell' = true) (hmax : xs.length ≤ 100000000) (hby : by_ ≤ 1000) (hB : B ≤ w.heap.size) :
    ∃ v' W, (Builtin.append_ #[st, st] ty #[v, .slice (some ⟨w.heap.size, 0, none⟩) 1 1]).run Try.prog (w.alloc (.cells #[x] t)) = .ok v' W ∧ LB W g tb V ∧ Bm B tb (W.setCell ⟨g, i, none⟩ v') g (V.set i v') (D.set i (t, xs ++ [x])) ∧ Fr w (W.setCell ⟨g, i, none⟩ v') (Bo g V) ∧ (∀ q, Bo g (V.set i v') q → Bo g V q ∨ w.heap.size ≤ q) ∧ ∃ a c, v' = .slice a (xs.length + 1) c := by
  have b0 := up0 w (.cells #[x] t)
  obtain ⟨v', W, h1, h2, h4, h5, h6, h7⟩ := Bm.app (P := Try.prog) (h.kept b0) i v t xs hv hd st ty z by_ hinfo hz ht x hx w.heap.size 1 ((lb_new w [x] t).cell 0 x rfl) hmax hby (Nat.le_trans hB b0.size)
  refine ⟨v', W, h1, h2, h4, (Fr.kept b0).trans h5 fun k _ e => e, fun q hq => ?_, h7⟩
  have hs := b0.size
  rcases h6 q hq with e | e
  · exact .inl e
  · exact .inr (by omega)
/-- a list is kept: its block is marked -/
theorem Bk.keep (h : Bk B w C g V l f n lh fh nh) {P0 : Nat → Prop} (ho : Out w C g V P0) {b mk : Value} {m : Nat} (hP : ∀ q, b.ownBlock = some q → P0 q) (hb : ∀ q, b.ownBlock = some q → B ≤ q) (hm : m ≤ 5000000) {w' : World} (hbm : Bm B 34 w' g V' (bkD (l ++ [(b, m, mk)]) f n lh fh nh)) (hfr : Fr w w' fun q => Bo g V q ∨ b.ownBlock = some q) (hbo : ∀ q, Bo g V' q → Bo g V q ∨ w.heap.size ≤ q) (hfd : Fd w' 5 1 b m (kB.ok mk) m) (hmk : ∃ z, mk = .int .u8 z) : ∃ C', Bk B w' C' g V' (l ++ [(b, m, mk)]) f n lh fh nh ∧ St w w' C C' g V V' fun q => b.ownBlock = some q := by
  have hcol : Col w' C := h.col.blk fun q hq => hfr.block q (h.col.lt hq) fun e => by
    rcases e with e | e
    · exact hq (h.unc q e)
    · exact hq (ho q (hP q e)).2.1
  obtain ⟨xs, hr, hx⟩ := hfd.ex
  obtain ⟨C', c1, c2, c3, c4⟩ := hcol.paint hr (by omega) (ok := kB.ok mk) hx fun q e => (ho q (hP q e)).2.1
  refine ⟨C', ⟨hbm, c1, fun q hq => Classical.not_not.1 fun e => ?_, (h.vl.ext c2).snoc c3, h.vf.ext c2, h.vn.ext c2, (h.hl.ext c2).more _, h.hf.ext c2, h.hn.ext c2, fun x hx => ?_, h.mf, h.mn, fun q hq => ?_⟩, ⟨hfr.mono fun q hq => hq.imp id .inr, hbo, fun q hq => (c4 q hq).imp id .inl⟩⟩
  · rcases c4 q e with e2 | e2
    · rcases hbo q hq with e3 | e3
      · exact e2 (h.unc q e3)
      · have := h.col.lt e2
        omega
    · rcases hbo q hq with e3 | e3
      · exact (ho q (hP q e2)).2.2 e3
      · have := (ho q (hP q e2)).1
        omega
  · rcases List.mem_append.1 hx with e | e
    · exact h.ml x e
    · rw [List.mem_singleton.1 e]
      exact ⟨hmk, hm⟩
  · rcases c4 q hq with e | e
    · exact h.low q e
    · exact hb q e
/-- a list is kept: its block is marked -/
theorem Bk.keepF (h : Bk B w C g V l f n lh fh nh) {P0 : Nat → Prop} (ho : Out w C g V P0) {b mk : Value} {m : Nat} (hP : ∀ q, b.ownBlock = some q → P0 q) (hb : ∀ q, b.ownBlock = some q → B ≤ q) (hm : m ≤ 5000000) {w' : World} (hbm : Bm B 34 w' g V' (bkD l (f ++ [(b, m, mk)]) n lh fh nh)) (hfr : Fr w w' fun q => Bo g V q ∨ b.ownBlock = some q) (hbo : ∀ q, Bo g V' q → Bo g V q ∨ w.heap.size ≤ q) (hfd : Fd w' 65 2 b m (kF.ok mk) m) (hmk : ∃ s : ByteArray, mk = .string s) : ∃ C', Bk B w' C' g V' l (f ++ [(b, m, mk)]) n lh fh nh ∧ St w w' C C' g V V' fun q => b.ownBlock = some q := by
  have hcol : Col w' C := h.col.blk fun q hq => hfr.block q (h.col.lt hq) fun e => by
    rcases e with e | e
    · exact hq (h.unc q e)
    · exact hq (ho q (hP q e)).2.1
  obtain ⟨xs, hr, hx⟩ := hfd.ex
  obtain ⟨C', c1, c2, c3, c4⟩ := hcol.paint hr (by omega) (ok := kF.ok mk) hx fun q e => (ho q (hP q e)).2.1
  refine ⟨C', ⟨hbm, c1, fun q hq => Classical.not_not.1 fun e => ?_, h.vl.ext c2, (h.vf.ext c2).snoc c3, h.vn.ext c2, h.hl.ext c2, (h.hf.ext c2).more _, h.hn.ext c2, h.ml, fun x hx => ?_, h.mn, fun q hq => ?_⟩, ⟨hfr.mono fun q hq => hq.imp id .inr, hbo, fun q hq => (c4 q hq).imp id .inl⟩⟩
  · rcases c4 q e with e2 | e2
    · rcases hbo q hq with e3 | e3
      · exact e2 (h.unc q e3)
      · have := h.col.lt e2
        omega
    · rcases hbo q hq with e3 | e3
      · exact (ho q (hP q e2)).2.2 e3
      · have := (ho q (hP q e2)).1
        omega
  · rcases List.mem_append.1 hx with e | e
    · exact h.mf x e
    · rw [List.mem_singleton.1 e]
      exact ⟨hmk, hm⟩
  · rcases c4 q hq with e | e
    · exact h.low q e
    · exact hb q e
/-- a list is kept: its block is marked -/
theorem Bk.keepN (h : Bk B w C g V l f n lh fh nh) {P0 : Nat → Prop} (ho : Out w C g V P0) {b mk : Value} {m : Nat} (hP : ∀ q, b.ownBlock = some q → P0 q) (hb : ∀ q, b.ownBlock = some q → B ≤ q) (hm : m ≤ 5000000) {w' : World} (hbm : Bm B 34 w' g V' (bkD l f (n ++ [(b, m, mk)]) lh fh nh)) (hfr : Fr w w' fun q => Bo g V q ∨ b.ownBlock = some q) (hbo : ∀ q, Bo g V' q → Bo g V q ∨ w.heap.size ≤ q) (hfd : Fd w' 9 1 b m (kN.ok mk) m) (hmk : ∃ s : ByteArray, mk = .string s) : ∃ C', Bk B w' C' g V' l f (n ++ [(b, m, mk)]) lh fh nh ∧ St w w' C C' g V V' fun q => b.ownBlock = some q := by
  have hcol : Col w' C := h.col.blk fun q hq => hfr.block q (h.col.lt hq) fun e => by
    rcases e with e | e
    · exact hq (h.unc q e)
    · exact hq (ho q (hP q e)).2.1
  obtain ⟨xs, hr, hx⟩ := hfd.ex
  obtain ⟨C', c1, c2, c3, c4⟩ := hcol.paint hr (by omega) (ok := kN.ok mk) hx fun q e => (ho q (hP q e)).2.1
  refine ⟨C', ⟨hbm, c1, fun q hq => Classical.not_not.1 fun e => ?_, h.vl.ext c2, h.vf.ext c2, (h.vn.ext c2).snoc c3, h.hl.ext c2, h.hf.ext c2, (h.hn.ext c2).more _, h.ml, h.mf, fun x hx => ?_, fun q hq => ?_⟩, ⟨hfr.mono fun q hq => hq.imp id .inr, hbo, fun q hq => (c4 q hq).imp id .inl⟩⟩
  · rcases c4 q e with e2 | e2
    · rcases hbo q hq with e3 | e3
      · exact e2 (h.unc q e3)
      · have := h.col.lt e2
        omega
    · rcases hbo q hq with e3 | e3
      · exact (ho q (hP q e2)).2.2 e3
      · have := (ho q (hP q e2)).1
        omega
  · rcases List.mem_append.1 hx with e | e
    · exact h.mn x e
    · rw [List.mem_singleton.1 e]
      exact ⟨hmk, hm⟩
  · rcases c4 q hq with e | e
    · exact h.low q e
    · exact hb q e
end
set_option maxRecDepth 100000 in
set_option maxHeartbeats 8000000 in
theorem dlkeep_any (B g : Nat) (C : Nat → Option Cl) (V : List Value) (l f n : List En) (lh fh nh : List (Value × Nat)) (b : Value) (m : Nat) (xs : List Value) (w : World) (h : Bk B w C g V l f n lh fh nh) (hr : w.ownsRow 0 5 1 b m xs) (hm : m ≤ 5000000) (hl : l.length ≤ 1000000) (ho : Out w C g V fun q => b.ownBlock = some q) (hb : ∀ q, b.ownBlock = some q → B ≤ q) (hB : B ≤ w.heap.size) :
    Calls Try.prog 42 #[.pointer (some ⟨g, 0, none⟩), b] w fun e w' => e = .returned (.tuple #[]) ∧ ∃ C' V' mk, Bk B w' C' g V' (l ++ [(b, m, mk)]) f n lh fh nh ∧ St w w' C C' g V V' fun q => b.ownBlock = some q := by
  obtain ⟨v0, v1, v2, v3, v4, v5, v6, v7, v8, hV⟩ := h.nine
  subst hV
  obtain ⟨a0, c0, e0, -, -, -⟩ := h.bm.at_ 0 v0 29 (l.map (·.1)) rfl rfl
  rw [List.length_map] at e0
  subst e0
  obtain ⟨a1, c1, e1, -, -, -⟩ := h.bm.at_ 1 v1 5 (l.map (·.2.2)) rfl rfl
  rw [List.length_map] at e1
  subst e1
  obtain ⟨ab, cb, eb, hb1, hb2⟩ := Mg.row_shape hr
  subst eb
  have r0 := h.bm.cell 0 _ rfl
  obtain ⟨k0, hk0⟩ : ∃ k, k = l.length := ⟨_, rfl⟩
  rw [← hk0] at r0 hl
  have HH : Hid (Bk B w C g [.slice a0 l.length c0, .slice a1 l.length c1, v2, v3, v4, v5, v6, v7, v8] l f n lh fh nh ∧ k0 = l.length ∧ w.ownsRow 0 5 1 (.slice ab m cb) m xs) := ⟨h, hk0, hr⟩
  have HO : Hid (Out w C g [.slice a0 l.length c0, .slice a1 l.length c1, v2, v3, v4, v5, v6, v7, v8] fun q => (Value.slice ab m cb).ownBlock = some q) := ho
  unfold maxLen at hb2
  clear h hr ho hk0
  go_enter Try.func42, Try.ntmps42
  go_upto_region 1 with fail
  generalize (1 + (k0 : Int) % 250) = z
  generalize ((k0 : Int) % 250) = z2
  go_wp2_with fail
  go_loopw [5] (fun i wr => ∃ k : Nat, k ≤ m ∧ i = .int .i64 (k : Int) ∧ Fd wr 5 1 (.slice ab m cb) m (kB.ok (.int .u8 z)) k ∧ Fr w wr (fun q => (Value.slice ab m cb).ownBlock = some q)) (fun i _ => m - (intOf i).toNat)
  case atStart => exact ⟨0, Nat.zero_le _, rfl, Fd.zero _ HH.out.2.2, Fr.refl _ _⟩
  case round =>
    obtain ⟨k, hk, rfl, hfd, hfr⟩ := hrel
    have HF : Hid (Fd wr 5 1 (.slice ab m cb) m (kB.ok (.int .u8 z)) k ∧ Fr w wr (fun q => (Value.slice ab m cb).ownBlock = some q)) := ⟨hfd, hfr⟩
    clear hfd hfr r0
    by_cases hlt : k < m
    · obtain ⟨q, rfl, ⟨y, hy⟩, hfz, h1, h2⟩ := HF.out.1.put hlt 0 (by omega) (.int .u8 z) (fun x hx => by
        show (x.set 0 (Value.int .u8 z))[0]? = some _
        rw [List.getElem?_set_self (by omega)])
      simp only [Nat.mul_one, Nat.add_zero] at hy hfz h1 h2
      have HN : Hid (Fd (wr.setCell ⟨q, k, none⟩ (.int .u8 z)) 5 1 (.slice (some ⟨q, 0, none⟩) m cb) m (kB.ok (.int .u8 z)) (k + 1) ∧ Fr w (wr.setCell ⟨q, k, none⟩ (.int .u8 z)) (fun p => (Value.slice (some ⟨q, 0, none⟩) m cb).ownBlock = some p)) := ⟨h1, HF.out.2.trans h2 fun p _ e => by rw [e]; rfl⟩
      clear h1 h2
      go_wp2_with fail
      go_roundw
      case rel => exact ⟨k + 1, by omega, by go_num, HN.out⟩
      case measure => simp [intOf]; omega
    · obtain rfl : k = m := by omega
      obtain ⟨V, hV⟩ : ∃ V : List Value, V = [.slice a0 l.length c0, .slice a1 l.length c1, v2, v3, v4, v5, v6, v7, v8] := ⟨_, rfl⟩
      have hbk : Bk B wr C g V l f n lh fh nh := by
        rw [hV]
        refine HH.out.1.blk fun q hq => HF.out.2.block q (HH.out.1.lt hq).2 fun e => ?_
        rcases hq with e2 | e2
        · exact (HO.out q e).2.2 e2
        · exact e2 (HO.out q e).2.1
      have hsz := HF.out.2.size
      obtain ⟨w5, W5, hr5, s5, m5, f5, o5, a5, d5, e5⟩ := Bm.lit hbk.bm 0 (.slice a0 l.length c0) 29 (l.map (·.1)) (by rw [hV]; rfl) rfl 28 28 _ 24 infBS rfl Try.underlying28 (.slice ab k cb) rfl (by rw [List.length_map, ← HH.out.2.1]; omega) (by omega) (by omega)
      have hsz5 := f5.size
      obtain ⟨w6, W6, hr6, s6, m6, f6, o6, a6, d6, e6⟩ := Bm.lit m5 1 (.slice a1 l.length c1) 5 (l.map (·.2.2)) (by rw [hV]; rfl) rfl 29 29 _ 1 infB rfl Try.underlying29 (.int .u8 z) rfl (by rw [List.length_map, ← HH.out.2.1]; omega) (by omega) (by omega)
      have t0 := s5.cell 0 (.slice a0 l.length c0) (by rw [hV]; rfl)
      have t1 := s5.cell 1 (.slice a1 l.length c1) (by rw [hV]; rfl)
      have z0 := s5.free 0
      have t2 := s6.cell 1 (.slice a1 l.length c1) (by rw [hV]; rfl)
      have z1 := s6.free 1
      have r0 := hbk.bm.cell 0 (.slice a0 l.length c0) (by rw [hV]; rfl)
      have HE : Hid (∃ C' V' mk, Bk B (W6.setCell ⟨g, 1, none⟩ w6) C' g V' (l ++ [(.slice ab k cb, k, mk)]) f n lh fh nh ∧ St w (W6.setCell ⟨g, 1, none⟩ w6) C C' g V V' fun q => (Value.slice ab k cb).ownBlock = some q) := by
        have hD : ((bkD l f n lh fh nh).set 0 (29, l.map (·.1) ++ [Value.slice ab k cb])).set 1 (5, l.map (·.2.2) ++ [Value.int .u8 z]) = bkD (l ++ [(Value.slice ab k cb, k, Value.int .u8 z)]) f n lh fh nh := by
          unfold bkD
          rw [List.map_append, List.map_append]
          rfl
        have hf2 : Fr wr (W6.setCell ⟨g, 1, none⟩ w6) (Bo g V) := f5.trans f6 fun q hq e => by
          rcases o5 q e with e2 | e2
          · exact e2
          · omega
        obtain ⟨C', k1, k2⟩ := (by rw [hV]; exact HH.out.1 : Bk B w C g V l f n lh fh nh).keep (P0 := fun q => (Value.slice ab k cb).ownBlock = some q) (by rw [hV]; exact HO.out) (b := .slice ab k cb) (mk := .int .u8 z) (m := k) (fun q e => e) hb hm (V' := (V.set 0 w5).set 1 w6) (w' := W6.setCell ⟨g, 1, none⟩ w6) (by rw [← hD]; exact m6) ((HF.out.2.mono fun q e => .inr e).trans hf2 fun q _ e => .inl e) (fun q hq => by
          rcases o6 q hq with e | e
          · rcases o5 q e with e2 | e2
            · exact .inl e2
            · exact .inr (by omega)
          · exact .inr (by omega)) (HF.out.1.blk fun q e => hf2.block q (by have := (HO.out q e).1; omega) fun e2 => (HO.out q e).2.2 (by rw [← hV]; exact e2)) ⟨z, rfl⟩
        exact ⟨C', _, _, k1, k2⟩
      clear s5 s6 m5 m6 f5 f6 o5 o6 hbk hb hsz5
      have hz5 : (W5.setCell ⟨g, 0, none⟩ w5).heap.size = W5.heap.size := by simp
      rw [hz5] at hr6
      clear hz5
      rw [List.length_map] at e5 e6
      subst e5 e6
      go_wp2_with (at_builtin; first | refine wpList_appRun rfl (.tmp 28) (.tmp 30) 28 rfl rfl rfl hr5 ?_ | refine wpList_appRun rfl (.tmp 38) (.tmp 40) 29 rfl rfl rfl hr6 ?_)
      go_end0
      exact ⟨rfl, by rw [← hV]; exact HE.out⟩
end Go.Proofs.Ytjepeeopjjnglab

/-
  The Book: wipes, spoils.
-/
namespace Go.Proofs.Ytjepeeopjjnglab
open Go Go.RowKit Go.ChangeShapes
open Wb
open Cb
set_option maxRecDepth 100000 in
set_option maxHeartbeats 8000000 in
theorem dlwipes_any (B g : Nat) (C : Nat → Option Cl) (V : List Value) (l f n : List En) (lh fh nh : List (Value × Nat)) (b : Value) (m : Nat) (xs : List Value) (w : World) (h : Bk B w C g V l f n lh fh nh) (hr : w.ownsRow 0 9 1 b m xs) (hm : m ≤ 5000000) (hl : n.length ≤ 1000000) (ho : Out w C g V fun q => b.ownBlock = some q) (hb : ∀ q, b.ownBlock = some q → B ≤ q) (hB : B ≤ w.heap.size) :
    Calls Try.prog 43 #[.pointer (some ⟨g, 0, none⟩), b] w fun e w' => e = .returned (.tuple #[]) ∧ ∃ C' V' mk, Bk B w' C' g V' l f (n ++ [(b, m, mk)]) lh fh nh ∧ St w w' C C' g V V' fun q => b.ownBlock = some q := by
  obtain ⟨v0, v1, v2, v3, v4, v5, v6, v7, v8, hV⟩ := h.nine
  subst hV
  obtain ⟨a0, c0, e0, -, -, -⟩ := h.bm.at_ 3 v3 32 (n.map (·.1)) rfl rfl
  rw [List.length_map] at e0
  subst e0
  obtain ⟨a1, c1, e1, -, -, -⟩ := h.bm.at_ 5 v5 9 (n.map (·.2.2)) rfl rfl
  rw [List.length_map] at e1
  subst e1
  obtain ⟨ab, cb, eb, hb1, hb2⟩ := Mg.row_shape hr
  subst eb
  have r0 := h.bm.cell 3 _ rfl
  obtain ⟨k0, hk0⟩ : ∃ k, k = n.length := ⟨_, rfl⟩
  rw [← hk0] at r0 hl
  have HH : Hid (Bk B w C g [v0, v1, v2, .slice a0 n.length c0, v4, .slice a1 n.length c1, v6, v7, v8] l f n lh fh nh ∧ k0 = n.length ∧ w.ownsRow 0 9 1 (.slice ab m cb) m xs) := ⟨h, hk0, hr⟩
  have HO : Hid (Out w C g [v0, v1, v2, .slice a0 n.length c0, v4, .slice a1 n.length c1, v6, v7, v8] fun q => (Value.slice ab m cb).ownBlock = some q) := ho
  unfold maxLen at hb2
  clear h hr ho hk0
  go_enter Try.func43, Try.ntmps43
  have HWD : Hid (Calls Try.prog 60 #[.int .i64 (k0 : Int)] w fun e w' => ∃ s : ByteArray, e = .returned (.string s) ∧ s.size ≤ 13 ∧ Below w.heap.size w w') := dlword_any k0 w (by omega)
  go_wp2_with fail
  refine HWD.out.mono ?_
  rintro e W0 ⟨z, rfl, -, bw⟩
  have HH2 : Hid (Bk B W0 C g [v0, v1, v2, .slice a0 n.length c0, v4, .slice a1 n.length c1, v6, v7, v8] l f n lh fh nh ∧ Out W0 C g [v0, v1, v2, .slice a0 n.length c0, v4, .slice a1 n.length c1, v6, v7, v8] (fun q => (Value.slice ab m cb).ownBlock = some q) ∧ W0.ownsRow 0 9 1 (.slice ab m cb) m xs ∧ Below w.heap.size w W0) := ⟨HH.out.1.kept bw, fun q hq => ⟨Nat.lt_of_lt_of_le (HO.out q hq).1 bw.size, (HO.out q hq).2⟩, Mg.row_kept HH.out.2.2 bw, bw⟩
  clear bw HWD r0
  go_wp2_with fail
  go_loopw [5] (fun i wr => ∃ k : Nat, k ≤ m ∧ i = .int .i64 (k : Int) ∧ Fd wr 9 1 (.slice ab m cb) m (kN.ok (.string z)) k ∧ Fr W0 wr (fun q => (Value.slice ab m cb).ownBlock = some q)) (fun i _ => m - (intOf i).toNat)
  case atStart => exact ⟨0, Nat.zero_le _, rfl, Fd.zero _ HH2.out.2.2.1, Fr.refl _ _⟩
  case round =>
    obtain ⟨k, hk, rfl, hfd, hfr⟩ := hrel
    have HF : Hid (Fd wr 9 1 (.slice ab m cb) m (kN.ok (.string z)) k ∧ Fr W0 wr (fun q => (Value.slice ab m cb).ownBlock = some q)) := ⟨hfd, hfr⟩
    clear hfd hfr
    by_cases hlt : k < m
    · obtain ⟨q, rfl, ⟨y, hy⟩, hfz, h1, h2⟩ := HF.out.1.put hlt 0 (by omega) (.string z) (fun x hx => by
        show (x.set 0 (Value.string z))[0]? = some _
        rw [List.getElem?_set_self (by omega)])
      simp only [Nat.mul_one, Nat.add_zero] at hy hfz h1 h2
      have HN : Hid (Fd (wr.setCell ⟨q, k, none⟩ (.string z)) 9 1 (.slice (some ⟨q, 0, none⟩) m cb) m (kN.ok (.string z)) (k + 1) ∧ Fr W0 (wr.setCell ⟨q, k, none⟩ (.string z)) (fun p => (Value.slice (some ⟨q, 0, none⟩) m cb).ownBlock = some p)) := ⟨h1, HF.out.2.trans h2 fun p _ e => by rw [e]; rfl⟩
      clear h1 h2
      go_wp2_with fail
      go_roundw
      case rel => exact ⟨k + 1, by omega, by go_num, HN.out⟩
      case measure => simp [intOf]; omega
    · obtain rfl : k = m := by omega
      obtain ⟨V, hV⟩ : ∃ V : List Value, V = [v0, v1, v2, .slice a0 n.length c0, v4, .slice a1 n.length c1, v6, v7, v8] := ⟨_, rfl⟩
      have hbk : Bk B wr C g V l f n lh fh nh := by
        rw [hV]
        refine HH2.out.1.blk fun q hq => HF.out.2.block q (HH2.out.1.lt hq).2 fun e => ?_
        rcases hq with e2 | e2
        · exact (HH2.out.2.1 q e).2.2 e2
        · exact e2 (HH2.out.2.1 q e).2.1
      have hsz0 := HH2.out.2.2.2.size
      have hsz := HF.out.2.size
      obtain ⟨w5, W5, hr5, s5, m5, f5, o5, a5, d5, e5⟩ := Bm.lit hbk.bm 3 (.slice a0 n.length c0) 32 (n.map (·.1)) (by rw [hV]; rfl) rfl 31 31 _ 24 infSS rfl Try.underlying31 (.slice ab k cb) rfl (by rw [List.length_map, ← HH.out.2.1]; omega) (by omega) (by omega)
      have hsz5 := f5.size
      obtain ⟨w6, W6, hr6, s6, m6, f6, o6, a6, d6, e6⟩ := Bm.lit m5 5 (.slice a1 n.length c1) 9 (n.map (·.2.2)) (by rw [hV]; rfl) rfl 32 32 _ 16 infS rfl Try.underlying32 (.string z) rfl (by rw [List.length_map, ← HH.out.2.1]; omega) (by omega) (by omega)
      have t0 := s5.cell 3 (.slice a0 n.length c0) (by rw [hV]; rfl)
      have t1 := s5.cell 5 (.slice a1 n.length c1) (by rw [hV]; rfl)
      have z0 := s5.free 3
      have t2 := s6.cell 5 (.slice a1 n.length c1) (by rw [hV]; rfl)
      have z1 := s6.free 5
      have r0 := hbk.bm.cell 3 (.slice a0 n.length c0) (by rw [hV]; rfl)
      have HE : Hid (∃ C' V' mk, Bk B (W6.setCell ⟨g, 5, none⟩ w6) C' g V' l f (n ++ [(.slice ab k cb, k, mk)]) lh fh nh ∧ St w (W6.setCell ⟨g, 5, none⟩ w6) C C' g V V' fun q => (Value.slice ab k cb).ownBlock = some q) := by
        have hD : ((bkD l f n lh fh nh).set 3 (32, n.map (·.1) ++ [Value.slice ab k cb])).set 5 (9, n.map (·.2.2) ++ [Value.string z]) = bkD l f (n ++ [(Value.slice ab k cb, k, Value.string z)]) lh fh nh := by
          unfold bkD
          rw [List.map_append, List.map_append]
          rfl
        have hf2 : Fr wr (W6.setCell ⟨g, 5, none⟩ w6) (Bo g V) := f5.trans f6 fun q hq e => by
          rcases o5 q e with e2 | e2
          · exact e2
          · omega
        obtain ⟨C', k1, k2⟩ := (by rw [hV]; exact HH2.out.1 : Bk B W0 C g V l f n lh fh nh).keepN (P0 := fun q => (Value.slice ab k cb).ownBlock = some q) (by rw [hV]; exact HH2.out.2.1) (b := .slice ab k cb) (mk := .string z) (m := k) (fun q e => e) hb hm (V' := (V.set 3 w5).set 5 w6) (w' := W6.setCell ⟨g, 5, none⟩ w6) (by rw [← hD]; exact m6) ((HF.out.2.mono fun q e => .inr e).trans hf2 fun q _ e => .inl e) (fun q hq => by
          rcases o6 q hq with e | e
          · rcases o5 q e with e2 | e2
            · exact .inl e2
            · exact .inr (by omega)
          · exact .inr (by omega)) (HF.out.1.blk fun q e => hf2.block q (by have := (HH2.out.2.1 q e).1; omega) fun e2 => (HH2.out.2.1 q e).2.2 (by rw [← hV]; exact e2)) ⟨z, rfl⟩
        exact ⟨C', _, _, k1, ((St.kept (P := fun _ => False) HH2.out.2.2.2).trans k2).mono fun q hq => hq.elim False.elim id⟩
      clear s5 s6 m5 m6 f5 f6 o5 o6 hbk hb hsz5
      have hz5 : (W5.setCell ⟨g, 3, none⟩ w5).heap.size = W5.heap.size := by simp
      rw [hz5] at hr6
      clear hz5
      rw [List.length_map] at e5 e6
      subst e5 e6
      go_wp2_with (at_builtin; first | refine wpList_appRun rfl (.tmp 26) (.tmp 28) 31 rfl rfl rfl hr5 ?_ | refine wpList_appRun rfl (.tmp 36) (.tmp 38) 32 rfl rfl rfl hr6 ?_)
      go_end0
      exact ⟨rfl, by rw [← hV]; exact HE.out⟩
end Go.Proofs.Ytjepeeopjjnglab
