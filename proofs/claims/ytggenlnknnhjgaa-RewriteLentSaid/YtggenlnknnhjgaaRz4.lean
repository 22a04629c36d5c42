/-
  The Marks of package rewrite's laws: what lies in them.
-/
import Derived.Test.YtggenlnknnhjgaaRz3
import Derived.Deep.RegionHeld3
namespace Go.Proofs.Ytggenlnknnhjgaa
open Go Go.RowKit Go.ChangeShapes
open Wb
open Cb
theorem row_low {B : Nat} {w : World} {t : TypeId} {s : Nat} {v : Value} {n : Nat} {xs : List Value} (h : w.ownsRow B t s v n xs) {B' : Nat} (hB : B' ≤ B) : w.ownsRow B' t s v n xs := by
  obtain ⟨h1, h2⟩ := h
  exact ⟨h1, h2.imp id fun ⟨g, cap, cur, e, h3, h4⟩ => ⟨g, cap, cur, e, Nat.le_trans hB h3, h4⟩⟩
theorem wpList_appRun {P : Program} {w W : World} {ops : Array Oper} {rest : List Oper} {o : Oper} {a : Act} {Q : Exit → Act → World → Prop} {v u y : Value} (hgd : o.guard = none) (s x : Operand) (t : TypeId) (ho : o.op = .call { callee := .builtin .append, args := #[s, x], argTypes := #[t, t] }) (hs : a.eval s = u) (hx : a.eval x = y) (hr : (Builtin.append_ #[t, t] o.type #[u, y]).run P w = .ok v W) (h : wpList P ops Q rest (a.put o.dst v) W) : wpList P ops Q (o :: rest) a w := by
  refine wpList_plain hgd fun _ hK' => ?_
  unfold Oper.wp
  simp [execOp, ho, resolve, invoke, builtin, hs, hx, hr, Result.andThen]
  exact hK' _ _ h
def kB : Kd := ⟨5, 1, fun m x => x[0]? = some m⟩
def kR : Kd := ⟨25, 12, fun m x => x[2]? = some m⟩
/-- what the fields hold -/
def mkD (l f : List En) (lh fh : List (Value × Nat)) : List (TypeId × List Value) := [(23, l.map (·.1)), (5, l.map (·.2.2)), (22, f.map (·.1)), (3, f.map (·.2.2)), (23, lh.map (·.1)), (22, fh.map (·.1))]
/-- the marks in memory -/
structure Bk (B : Nat) (w : World) (C : Nat → Option Cl) (g : Nat) (V : List Value) (l f : List En) (lh fh : List (Value × Nat)) : Prop where
  bm : Bm B 37 w g V (mkD l f lh fh)
  col : Col w C
  unc : ∀ q, Bo g V q → C q = none
  vl : Vs C kB l
  vf : Vs C kR f
  hl : Hs C kB l lh
  hf : Hs C kR f fh
  ml : ∀ x ∈ l, (∃ z, x.2.2 = .int .u8 z) ∧ x.2.1 ≤ 5000000
  mf : ∀ x ∈ f, (∃ s : Int, x.2.2 = .int .i64 s) ∧ x.2.1 ≤ 5000000
  low : ∀ q, C q ≠ none → B ≤ q
/-- what a call of the book does -/
structure St (w w' : World) (C C' : Nat → Option Cl) (g : Nat) (V V' : List Value) (P : Nat → Prop) : Prop where
  fr : Fr w w' fun q => Bo g V q ∨ C q ≠ none ∨ P q
  bo : ∀ q, Bo g V' q → Bo g V q ∨ w.heap.size ≤ q
  co : ∀ q, C' q ≠ none → C q ≠ none ∨ P q ∨ w.heap.size ≤ q
section
variable {B g : Nat} {w w' w1 w2 : World} {C C' C1 C2 : Nat → Option Cl} {V V' V1 V2 : List Value} {l f : List En} {lh fh : List (Value × Nat)} {P P2 : Nat → Prop}
theorem St.refl (w : World) (C : Nat → Option Cl) (g : Nat) (V : List Value) (P : Nat → Prop) : St w w C C g V V P := ⟨Fr.refl _ _, fun _ h => .inl h, fun _ h => .inl h⟩
theorem St.trans (h : St w w1 C C1 g V V1 P) (h2 : St w1 w2 C1 C2 g V1 V2 P2) : St w w2 C C2 g V V2 fun q => P q ∨ P2 q := by
  have hs := h.fr.size
  refine ⟨(h.fr.mono fun k hk => ?_).trans h2.fr fun k hk e => ?_, fun q hq => ?_, fun q hq => ?_⟩
  · rcases hk with e | e | e
    · exact .inl e
    · exact .inr (.inl e)
    · exact .inr (.inr (.inl e))
  · rcases e with e | e | e
    · rcases h.bo k e with e2 | e2
      · exact .inl e2
      · omega
    · rcases h.co k e with e2 | e2 | e2
      · exact .inr (.inl e2)
      · exact .inr (.inr (.inl e2))
      · omega
    · exact .inr (.inr (.inr e))
  · rcases h2.bo q hq with e | e
    · exact h.bo q e
    · exact .inr (by omega)
  · rcases h2.co q hq with e | e | e
    · rcases h.co q e with e2 | e2 | e2
      · exact .inl e2
      · exact .inr (.inl (.inl e2))
      · exact .inr (.inr e2)
    · exact .inr (.inl (.inr e))
    · exact .inr (.inr (by omega))
theorem St.mono (h : St w w1 C C1 g V V1 P) (hP : ∀ q, P q → P2 q) : St w w1 C C1 g V V1 P2 := ⟨h.fr.mono fun k hk => hk.imp id (Or.imp id (hP k)), h.bo, fun q hq => (h.co q hq).imp id (Or.imp (hP q) id)⟩
theorem St.kept (h : Below w.heap.size w w') : St w w' C C g V V P := ⟨Fr.kept h, fun _ hq => .inl hq, fun _ hq => .inl hq⟩
/-- blocks that the book does not know -/
def Out (w : World) (C : Nat → Option Cl) (g : Nat) (V : List Value) (E : Nat → Prop) : Prop := ∀ q, E q → q < w.heap.size ∧ C q = none ∧ ¬ Bo g V q
theorem St.same {E : Nat → Prop} (h : St w w' C C' g V V' P) (ho : Out w C g V E) (hd : ∀ q, E q → ¬ P q) : (∀ q, E q → w'.heap[q]? = w.heap[q]?) ∧ Out w' C' g V' E := by
  refine ⟨fun q hq => h.fr.block q (ho q hq).1 fun e => ?_, fun q hq => ⟨Nat.lt_of_lt_of_le (ho q hq).1 h.fr.size, Classical.not_not.1 fun e => ?_, fun e => ?_⟩⟩
  · rcases e with e | e | e
    · exact (ho q hq).2.2 e
    · exact e (ho q hq).2.1
    · exact hd q hq e
  · rcases h.co q e with e | e | e
    · exact e (ho q hq).2.1
    · exact hd q hq e
    · have := (ho q hq).1
      omega
  · rcases h.bo q e with e | e
    · exact (ho q hq).2.2 e
    · have := (ho q hq).1
      omega
theorem Bk.kept (h : Bk B w C g V l f lh fh) (hb : Below w.heap.size w w') : Bk B w' C g V l f lh fh := ⟨h.bm.kept hb, h.col.kept hb, h.unc, h.vl, h.vf, h.hl, h.hf, h.ml, h.mf, h.low⟩
theorem Bk.blk (h : Bk B w C g V l f lh fh) (hb : ∀ q, Bo g V q ∨ C q ≠ none → w'.heap[q]? = w.heap[q]?) : Bk B w' C g V l f lh fh := ⟨h.bm.blk fun q hq => hb q (.inl hq), h.col.blk fun q hq => hb q (.inr hq), h.unc, h.vl, h.vf, h.hl, h.hf, h.ml, h.mf, h.low⟩
theorem Bk.lt (h : Bk B w C g V l f lh fh) {q : Nat} (hq : Bo g V q ∨ C q ≠ none) : B ≤ q ∧ q < w.heap.size := by
  rcases hq with e | e
  · exact h.bm.lt e
  · exact ⟨h.low q e, h.col.lt e⟩
theorem St.below (h : St w w' C C' g V V' P) (hk : Bk B w C g V l f lh fh) (hP : ∀ q, P q → B ≤ q) (hB : B ≤ w.heap.size) : Below B w w' := h.fr.below hB fun k hk2 => by
  rcases hk2 with e | e | e
  · exact (hk.lt (.inl e)).1
  · exact (hk.lt (.inr e)).1
  · exact hP k e
end
/-- a row whose first elements are as told -/
structure Fd (w : World) (e : TypeId) (c : Nat) (v : Value) (n : Nat) (ok : List Value → Prop) (k : Nat) : Prop where
  ex : ∃ xs, w.ownsRow 0 e c v n xs ∧ ∀ j, j < k → ok ((xs.drop (j * c)).take c)
theorem Fd.zero {w : World} {B : Nat} {e : TypeId} {c n : Nat} {v : Value} {xs : List Value} (ok : List Value → Prop) (h : w.ownsRow B e c v n xs) : Fd w e c v n ok 0 := ⟨xs, row_low h (Nat.zero_le _), fun j hj => by omega⟩
/-- one element is written over -/
theorem fd_elem (xs : List Value) (c n k i : Nat) (u : Value) (ok : List Value → Prop) (hl : xs.length = n * c) (hk : k < n) (hi : i < c) (hok : ∀ x : List Value, x.length = c → ok (x.set i u)) (h : ∀ j, j < k → ok ((xs.drop (j * c)).take c)) : ∀ j, j < k + 1 → ok (((xs.set (k * c + i) u).drop (j * c)).take c) := fun j hj => by
  have hkn : (k + 1) * c ≤ n * c := Nat.mul_le_mul_right c hk
  rw [Nat.add_mul] at hkn
  by_cases hjk : j < k
  · have hjk2 : (j + 1) * c ≤ k * c := Nat.mul_le_mul_right c hjk
    rw [Nat.add_mul] at hjk2
    have e : ((xs.set (k * c + i) u).drop (j * c)).take c = (xs.drop (j * c)).take c := by
      rw [List.drop_set, if_neg (by omega), List.take_set_of_le (by omega)]
    rw [e]
    exact h j hjk
  · obtain rfl : j = k := by omega
    have e : ((xs.set (j * c + i) u).drop (j * c)).take c = ((xs.drop (j * c)).take c).set i u := by
      rw [List.drop_set, if_neg (by omega), show j * c + i - j * c = i by omega, List.take_set]
    rw [e]
    exact hok _ (by rw [List.length_take, List.length_drop]; omega)
theorem Fd.put {w : World} {e : TypeId} {c n k : Nat} {a : Option Addr} {cap : Nat} {ok : List Value → Prop} (h : Fd w e c (.slice a n cap) n ok k) (hk : k < n) (i : Nat) (hi : i < c) (u : Value) (hok : ∀ x : List Value, x.length = c → ok (x.set i u)) : ∃ b, a = some ⟨b, 0, none⟩ ∧ (∃ y, w.cell? ⟨b, k * c + i, none⟩ = some y) ∧ w.frozen? ⟨b, k * c + i, none⟩ = false ∧ Fd (w.setCell ⟨b, k * c + i, none⟩ u) e c (.slice a n cap) n ok (k + 1) ∧ Fr w (w.setCell ⟨b, k * c + i, none⟩ u) (· = b) := by
  obtain ⟨xs, hr, hx⟩ := h.ex
  have hkn : (k + 1) * c ≤ n * c := Nat.mul_le_mul_right c hk
  rw [Nat.add_mul] at hkn
  rcases hr.2 with ⟨e1, h0⟩ | ⟨b, cap', cur, e1, -⟩
  · omega
  · simp only [Value.slice.injEq] at e1
    obtain ⟨rfl, -, rfl⟩ := e1
    have hl := hr.1
    refine ⟨b, rfl, ⟨xs[k * c + i]'(by omega), ?_⟩, World.ownsRow.frozenAt hr (k * c + i), ⟨_, (World.ownsRow.stored hr (k * c + i) u).1, fd_elem xs c n k i u ok hl hk hi hok hx⟩, fr_set _ _ _ _⟩
    rw [hr.cellAt (k * c + i) (by omega)]
    exact List.getElem?_eq_getElem _
theorem Fd.blk {w w' : World} {e : TypeId} {c n k : Nat} {v : Value} {ok : List Value → Prop} (h : Fd w e c v n ok k) (hb : ∀ q, v.ownBlock = some q → w'.heap[q]? = w.heap[q]?) : Fd w' e c v n ok k := by
  obtain ⟨xs, hr, hx⟩ := h.ex
  exact ⟨xs, Mg.row_block hr hb, hx⟩
theorem infBS : (Try.prog.info? 23).map (fun i => (i.zero, i.size, i.bytes)) = some (some (.slice none 0 0), 1, 24) := by kernel_rfl
theorem infB : (Try.prog.info? 5).map (fun i => (i.zero, i.size, i.bytes)) = some (some (.int .u8 0), 1, 1) := by kernel_rfl
theorem infRS : (Try.prog.info? 22).map (fun i => (i.zero, i.size, i.bytes)) = some (some (.slice none 0 0), 1, 24) := by kernel_rfl
theorem infI : (Try.prog.info? 3).map (fun i => (i.zero, i.size, i.bytes)) = some (some (.int .i64 0), 1, 8) := by kernel_rfl
section
variable {B g : Nat} {w w' : World} {C C' : Nat → Option Cl} {V V' : List Value} {l f : List En} {lh fh : List (Value × Nat)}
theorem six {α : Type} : ∀ (V : List α), V.length = 6 → ∃ v0 v1 v2 v3 v4 v5, V = [v0, v1, v2, v3, v4, v5]
  | [v0, v1, v2, v3, v4, v5], _ => ⟨v0, v1, v2, v3, v4, v5, rfl⟩
theorem Bk.six (h : Bk B w C g V l f lh fh) : ∃ v0 v1 v2 v3 v4 v5, V = [v0, v1, v2, v3, v4, v5] := Go.Proofs.Ytggenlnknnhjgaa.six V h.bm.len
/-- append of what lies in a literal of one -/
theorem Bm.lit {tb : TypeId} {D : List (TypeId × List Value)} (h : Bm B tb w g V D) (i : Nat) (v : Value) (t : TypeId) (xs : List Value) (hv : V[i]? = some v) (hd : D[i]? = some (t, xs)) (st ty : TypeId) (z : Value) (by_ : Nat) (hinfo : (Try.prog.info? t).map (fun i => (i.zero, i.size, i.bytes)) = some (some z, 1, by_)) (hz : z.cells.size = 1) (ht : Try.prog.underlying st = some (.slice t)) (x : Value) (hx : x.oneCell' = true) (hmax : xs.length ≤ 100000000) (hby : by_ ≤ 1000) (hB : B ≤ w.heap.size) :
    ∃ v' W, (Builtin.append_ #[st, st] ty #[v, .slice (some ⟨w.heap.size, 0, none⟩) 1 1]).run Try.prog (w.alloc (.cells #[x] t)) = .ok v' W ∧ LB W g tb V ∧ Bm B tb (W.setCell ⟨g, i, none⟩ v') g (V.set i v') (D.set i (t, xs ++ [x])) ∧ Fr w (W.setCell ⟨g, i, none⟩ v') (Bo g V) ∧ (∀ q, Bo g (V.set i v') q → Bo g V q ∨ w.heap.size ≤ q) ∧ ∃ a c, v' = .slice a (xs.length + 1) c := by
  have b0 := up0 w (.cells #[x] t)
  obtain ⟨v', W, h1, h2, h4, h5, h6, h7⟩ := Bm.app (P := Try.prog) (h.kept b0) i v t xs hv hd st ty z by_ hinfo hz ht x hx w.heap.size 1 ((lb_new w [x] t).cell 0 x rfl) hmax hby (Nat.le_trans hB b0.size)
  refine ⟨v', W, h1, h2, h4, (Fr.kept b0).trans h5 fun k _ e => e, fun q hq => ?_, h7⟩
  have hs := b0.size
  rcases h6 q hq with e | e
  · exact .inl e
  · exact .inr (by omega)
/-- a list is kept: its block is marked -/
theorem Bk.keep (h : Bk B w C g V l f lh fh) {P0 : Nat → Prop} (ho : Out w C g V P0) {b mk : Value} {m : Nat} (hP : ∀ q, b.ownBlock = some q → P0 q) (hb : ∀ q, b.ownBlock = some q → B ≤ q) (hm : m ≤ 5000000) {w' : World} (hbm : Bm B 37 w' g V' (mkD (l ++ [(b, m, mk)]) f lh fh)) (hfr : Fr w w' fun q => Bo g V q ∨ b.ownBlock = some q) (hbo : ∀ q, Bo g V' q → Bo g V q ∨ w.heap.size ≤ q) (hfd : Fd w' 5 1 b m (kB.ok mk) m) (hmk : ∃ z, mk = .int .u8 z) : ∃ C', Bk B w' C' g V' (l ++ [(b, m, mk)]) f lh fh ∧ St w w' C C' g V V' fun q => b.ownBlock = some q := by
  have hcol : Col w' C := h.col.blk fun q hq => hfr.block q (h.col.lt hq) fun e => by
    rcases e with e | e
    · exact hq (h.unc q e)
    · exact hq (ho q (hP q e)).2.1
  obtain ⟨xs, hr, hx⟩ := hfd.ex
  obtain ⟨C', c1, c2, c3, c4⟩ := hcol.paint hr (by omega) (ok := kB.ok mk) hx fun q e => (ho q (hP q e)).2.1
  refine ⟨C', ⟨hbm, c1, fun q hq => Classical.not_not.1 fun e => ?_, (h.vl.ext c2).snoc c3, h.vf.ext c2, (h.hl.ext c2).more _, h.hf.ext c2, fun x hx => ?_, h.mf, fun q hq => ?_⟩, ⟨hfr.mono fun q hq => hq.imp id .inr, hbo, fun q hq => (c4 q hq).imp id .inl⟩⟩
  · rcases c4 q e with e2 | e2
    · rcases hbo q hq with e3 | e3
      · exact e2 (h.unc q e3)
      · have := h.col.lt e2
        omega
    · rcases hbo q hq with e3 | e3
      · exact (ho q (hP q e2)).2.2 e3
      · have := (ho q (hP q e2)).1
        omega
  · rcases List.mem_append.1 hx with e | e
    · exact h.ml x e
    · rw [List.mem_singleton.1 e]
      exact ⟨hmk, hm⟩
  · rcases c4 q hq with e | e
    · exact h.low q e
    · exact hb q e
/-- a list is kept: its block is marked -/
theorem Bk.keepF (h : Bk B w C g V l f lh fh) {P0 : Nat → Prop} (ho : Out w C g V P0) {b mk : Value} {m : Nat} (hP : ∀ q, b.ownBlock = some q → P0 q) (hb : ∀ q, b.ownBlock = some q → B ≤ q) (hm : m ≤ 5000000) {w' : World} (hbm : Bm B 37 w' g V' (mkD l (f ++ [(b, m, mk)]) lh fh)) (hfr : Fr w w' fun q => Bo g V q ∨ b.ownBlock = some q) (hbo : ∀ q, Bo g V' q → Bo g V q ∨ w.heap.size ≤ q) (hfd : Fd w' 25 12 b m (kR.ok mk) m) (hmk : ∃ s : Int, mk = .int .i64 s) : ∃ C', Bk B w' C' g V' l (f ++ [(b, m, mk)]) lh fh ∧ St w w' C C' g V V' fun q => b.ownBlock = some q := by
  have hcol : Col w' C := h.col.blk fun q hq => hfr.block q (h.col.lt hq) fun e => by
    rcases e with e | e
    · exact hq (h.unc q e)
    · exact hq (ho q (hP q e)).2.1
  obtain ⟨xs, hr, hx⟩ := hfd.ex
  obtain ⟨C', c1, c2, c3, c4⟩ := hcol.paint hr (by omega) (ok := kR.ok mk) hx fun q e => (ho q (hP q e)).2.1
  refine ⟨C', ⟨hbm, c1, fun q hq => Classical.not_not.1 fun e => ?_, h.vl.ext c2, (h.vf.ext c2).snoc c3, h.hl.ext c2, (h.hf.ext c2).more _, h.ml, fun x hx => ?_, fun q hq => ?_⟩, ⟨hfr.mono fun q hq => hq.imp id .inr, hbo, fun q hq => (c4 q hq).imp id .inl⟩⟩
  · rcases c4 q e with e2 | e2
    · rcases hbo q hq with e3 | e3
      · exact e2 (h.unc q e3)
      · have := h.col.lt e2
        omega
    · rcases hbo q hq with e3 | e3
      · exact (ho q (hP q e2)).2.2 e3
      · have := (ho q (hP q e2)).1
        omega
  · rcases List.mem_append.1 hx with e | e
    · exact h.mf x e
    · rw [List.mem_singleton.1 e]
      exact ⟨hmk, hm⟩
  · rcases c4 q hq with e | e
    · exact h.low q e
    · exact hb q e
/-- a list is lengthened by one -/
theorem Bk.more (h : Bk B w C g V l f lh fh) (hB : B ≤ w.heap.size) {e : TypeId} {c : Nat} {ok : List Value → Prop} {v : Value} {k : Nat} (hv : Vw C e c ok v k) (st ty : TypeId) (z : Value) (by_ : Nat) (hinfo : (Try.prog.info? e).map (fun i => (i.zero, i.size, i.bytes)) = some (some z, c, by_)) (hz : z.cells.size = c) (hc : 0 < c) (ht : Try.prog.underlying st = some (.slice e)) (x : List Value) (hxl : x.length = c) (hx : ok x) (hone : ∀ u ∈ x, u.oneCell' = true) (hmax : k ≤ 100000000) (hby : by_ ≤ 1000) :
    ∃ v' W C', (Builtin.append_ #[st, st] ty #[v, .slice (some ⟨w.heap.size, 0, none⟩) 1 1]).run Try.prog (w.alloc (.cells x.toArray e)) = .ok v' W ∧ Bk B W C' g V l f lh fh ∧ St w W C C' g V V (fun _ => False) ∧ Vw C' e c ok v' (k + 1) ∧ ∃ a c, v' = .slice a (k + 1) c := by
  have b0 := up0 w (.cells x.toArray e)
  have h0 := h.kept b0
  obtain ⟨v', W, C', hr, ha⟩ := h0.col.app (P := Try.prog) hv st ty z by_ hinfo hz hc ht w.heap.size 1 x hxl hx hone (fun j u hj => (lb_new w x e).cell j u hj) hmax hby
  have hs0 := b0.size
  have hunc : ∀ q, Bo g V q → C' q = none := fun q hq => Classical.not_not.1 fun e => by
    rcases ha.new q e with e2 | e2
    · exact e2 (h.unc q hq)
    · have := (h.bm.lt hq).2
      omega
  obtain ⟨a9, c9, e9, -⟩ := ha.vw.sh ha.col
  refine ⟨v', W, C', hr, ⟨h0.bm.blk fun q hq => ha.block q (h0.bm.lt hq).2 (h.unc q hq), ha.col, hunc, h.vl.ext ha.ext, h.vf.ext ha.ext, h.hl.ext ha.ext, h.hf.ext ha.ext, h.ml, h.mf, fun q hq => ?_⟩, ⟨(Fr.kept b0).trans (ha.fr.mono fun q e => .inr (.inl e)) fun q _ e => e, fun q hq => .inl hq, fun q hq => ?_⟩, ha.vw, a9, c9, e9⟩
  · rcases ha.new q hq with e2 | e2
    · exact h.low q e2
    · omega
  · rcases ha.new q hq with e2 | e2
    · exact .inl e2
    · exact .inr (.inr (by omega))
/-- the longer one is kept -/
theorem Bk.long_l (h : Bk B w C g V l f lh fh) (hB : B ≤ w.heap.size) {x : En} {y : Value × Nat} (hx : l[lh.length]? = some x) (hy : Vw C kB.e kB.c (kB.ok x.2.2) y.1 y.2) (v : Value) (hv : V[4]? = some v) (hone : y.1.oneCell' = true) (hmax : l.length ≤ 10000000) :
    ∃ v' W, (Builtin.append_ #[28, 28] 28 #[v, .slice (some ⟨w.heap.size, 0, none⟩) 1 1]).run Try.prog (w.alloc (.cells #[y.1] 23)) = .ok v' W ∧ LB W g 37 V ∧ Bk B (W.setCell ⟨g, 4, none⟩ v') C g (V.set 4 v') l f (lh ++ [y]) fh ∧ St w (W.setCell ⟨g, 4, none⟩ v') C C g V (V.set 4 v') (fun _ => False) ∧ ∃ a c, v' = .slice a (lh.length + 1) c := by
  have hlen := h.hl.1
  obtain ⟨v', W, k1, k2, k3, k4, k5, k6⟩ := Bm.lit h.bm 4 v 23 (lh.map (·.1)) hv rfl 28 28 _ 24 infBS rfl Try.underlying28 y.1 hone (by rw [List.length_map]; omega) (by omega) hB
  rw [List.length_map] at k6
  have hD : (mkD l f lh fh).set 4 (23, lh.map (·.1) ++ [y.1]) = mkD l f (lh ++ [y]) fh := by
    unfold mkD
    rw [List.map_append]
    rfl
  rw [hD] at k3
  refine ⟨v', W, k1, k2, ⟨k3, h.col.blk fun q hq => k4.block q (h.col.lt hq) fun e => hq (h.unc q e), fun q hq => Classical.not_not.1 fun e => ?_, h.vl, h.vf, h.hl.snoc hx hy, h.hf, h.ml, h.mf, h.low⟩, ⟨k4.mono fun q e => .inl e, k5, fun q hq => .inl hq⟩, k6⟩
  rcases k5 q hq with e2 | e2
  · exact e (h.unc q e2)
  · have := h.col.lt e
    omega
/-- the longer one is kept -/
theorem Bk.long_f (h : Bk B w C g V l f lh fh) (hB : B ≤ w.heap.size) {x : En} {y : Value × Nat} (hx : f[fh.length]? = some x) (hy : Vw C kR.e kR.c (kR.ok x.2.2) y.1 y.2) (v : Value) (hv : V[5]? = some v) (hone : y.1.oneCell' = true) (hmax : f.length ≤ 10000000) :
    ∃ v' W, (Builtin.append_ #[34, 34] 34 #[v, .slice (some ⟨w.heap.size, 0, none⟩) 1 1]).run Try.prog (w.alloc (.cells #[y.1] 22)) = .ok v' W ∧ LB W g 37 V ∧ Bk B (W.setCell ⟨g, 5, none⟩ v') C g (V.set 5 v') l f lh (fh ++ [y]) ∧ St w (W.setCell ⟨g, 5, none⟩ v') C C g V (V.set 5 v') (fun _ => False) ∧ ∃ a c, v' = .slice a (fh.length + 1) c := by
  have hlen := h.hf.1
  obtain ⟨v', W, k1, k2, k3, k4, k5, k6⟩ := Bm.lit h.bm 5 v 22 (fh.map (·.1)) hv rfl 34 34 _ 24 infRS rfl Try.underlying34 y.1 hone (by rw [List.length_map]; omega) (by omega) hB
  rw [List.length_map] at k6
  have hD : (mkD l f lh fh).set 5 (22, fh.map (·.1) ++ [y.1]) = mkD l f lh (fh ++ [y]) := by
    unfold mkD
    rw [List.map_append]
    rfl
  rw [hD] at k3
  refine ⟨v', W, k1, k2, ⟨k3, h.col.blk fun q hq => k4.block q (h.col.lt hq) fun e => hq (h.unc q e), fun q hq => Classical.not_not.1 fun e => ?_, h.vl, h.vf, h.hl, h.hf.snoc hx hy, h.ml, h.mf, h.low⟩, ⟨k4.mono fun q e => .inl e, k5, fun q hq => .inl hq⟩, k6⟩
  rcases k5 q hq with e2 | e2
  · exact e (h.unc q e2)
  · have := h.col.lt e
    omega
/-- new marks -/
theorem Bk.zero (w : World) (B : Nat) (hB : B ≤ w.heap.size) : Bk B (w.alloc (.cells #[.slice none 0 0, .slice none 0 0, .slice none 0 0, .slice none 0 0, .slice none 0 0, .slice none 0 0] 37)) (fun _ => none) w.heap.size [.slice none 0 0, .slice none 0 0, .slice none 0 0, .slice none 0 0, .slice none 0 0, .slice none 0 0] [] [] [] [] := by
  have hv : ∀ (i : Nat) (v : Value), ([.slice none 0 0, .slice none 0 0, .slice none 0 0, .slice none 0 0, .slice none 0 0, .slice none 0 0] : List Value)[i]? = some v → v = .slice none 0 0 := fun i v hi => by
    have := List.mem_of_getElem? hi
    simpa using this
  refine ⟨⟨lb_new w _ _, fun i v d hvi hd => ?_, rfl, fun i j u v hu _ _ q e => ?_, hB, fun d hd => ?_⟩, Col.none _, fun q _ => rfl, Vs.nil _ _, Vs.nil _ _, Hs.nil _ _ _, Hs.nil _ _ _, (fun x hx => nomatch hx), (fun x hx => nomatch hx), fun q hq => absurd rfl hq⟩
  · rw [hv i v hvi]
    have hd0 : d.2 = [] := by
      have := List.mem_of_getElem? hd
      simp [mkD] at this
      rcases this with e | e | e | e | e | e <;> rw [e]
    rw [hd0]
    exact World.ownsRow_nil _ _ _ _
  · rw [hv i u hu] at e
    cases e
  · simp [mkD] at hd
    rcases hd with e | e | e | e | e | e <;> rw [e] <;> decide
end
end Go.Proofs.Ytggenlnknnhjgaa
