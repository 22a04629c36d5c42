/-
  annalsref5: Decode.
-/
import Derived.Test.YtneiokjpbfgioaaIxm
import Derived.Test.YtneiokjpbfgioaaIxp
import Derived.Laws.Bits64b
namespace Go.Proofs.Ytneiokjpbfgioaa
open Go Go.RowKit Go.ChangeShapes
open Wb

/-- what the reference's Decode holds: the reader, and the pairs so far -/
structure RD (w : World) (bv : Value) (ps : List (Int × Int)) (q er : Nat) (o : Value) (W : World) : Prop where
  rj : RJ w bv w.heap.size q er W
  row : W.ownsRow (w.heap.size + 1) 32 2 o ps.length (ps.flatMap enP)
section
variable {w : World} {bv : Value} {ps : List (Int × Int)} {q er : Nat} {o : Value} {W W' : World}
theorem RD.on {q' er' : Nat} (h : RD w bv ps q er o W) (h2 : RJ w bv w.heap.size q' er' W') (hg : W.grownBy W' (some w.heap.size)) : RD w bv ps q' er' o W' := by
  refine ⟨h2, h.row.kept hg ?_⟩
  cases hx : o.ownBlock with
  | none => exact .inl rfl
  | some k =>
    refine .inr fun e => ?_
    have h1 := (h.row.lt k hx).1
    have h3 := Option.some.inj e
    omega
theorem RD.set (h : RD w bv ps q er o W) (e : Nat) : RD w bv ps q e o (W.setCell ⟨w.heap.size, 2, none⟩ (.int .i64 (e : Int))) :=
  h.on ⟨h.rj.box.set 2 _, h.rj.bel.setCell (p := ⟨w.heap.size, 2, none⟩) h.rj.ge _, h.rj.ge⟩ ⟨rfl, rfl, rfl, by simp [World.setCell], fun k hk hne => set_other _ _ _ _ fun e => hne (by rw [e])⟩
theorem RD.pair (h : RD w bv ps q er o W) (x y : Int) : ∀ W1, W1 = W.alloc (.cells #[.int .i64 x, .int .i64 y] 32) → W1.ownsRow (w.heap.size + 1) 32 2 o ps.length (ps.flatMap enP) ∧ W1.rangeAt W.heap.size 0 (enP (x, y)) ∧ w.heap.size + 1 ≤ W1.heap.size ∧ RJ w bv w.heap.size q er W1 := fun W1 e => by
  subst e
  have hL := lb_new W (enP (x, y)) 32
  have h8 := h.rj.box.lt
  refine ⟨h.row.alloc _, hL.range, by rw [heap_one]; omega, ⟨h.rj.box.kept (up0 _ _), up h.rj.bel _, h.rj.ge⟩⟩
theorem RD.app (h : RD w bv ps q er o W) (x y : Int) (W1 : World) (e : W1 = W.alloc (.cells #[.int .i64 x, .int .i64 y] 32)) (v' : Value) (hr : W'.ownsRow (w.heap.size + 1) 32 2 v' (ps ++ [(x, y)]).length ((ps ++ [(x, y)]).flatMap enP)) (hg : W1.grownBy W' o.ownBlock) : RD w bv (ps ++ [(x, y)]) q er v' W' := by
  have h1 := h.pair x y W1 e
  have hne : ∀ k, o.ownBlock = some k → w.heap.size + 1 ≤ k := fun k hk => (h.row.lt k hk).1
  refine ⟨⟨(hg.block _ h1.2.2.2.box.lt fun e => by have := hne _ e.symm; omega).trans h1.2.2.2.box, h1.2.2.2.bel.grown hg (by omega) (fun k hk => by have := hne k hk; omega), h.rj.ge⟩, hr⟩
end
namespace Ix
theorem rnm_cases (l : List Nat) (q : Nat) (hq : q ≤ l.length) : (∃ er, er ≠ 0 ∧ nm l q = (0, q, er) ∧ rnm l q = (0, 0, er)) ∨ ∃ v q', q < q' ∧ q' ≤ l.length ∧ nm l q = (v, q', 0) ∧ rnm l q = (v, q', 0) := by
  rcases nm_ru l q hq with ⟨er, h0, -, e, -⟩ | ⟨v, q', h1, h2, e, -, -⟩
  · refine .inl ⟨er, h0, e, ?_⟩
    unfold rnm
    rw [e, if_neg h0]
  · refine .inr ⟨v, q', h1, h2, e, ?_⟩
    unfold rnm
    rw [e, if_pos rfl]
theorem and_most (g : Nat) (hg : g < 18446744073709551616) : bits .and .u64 (g : Int) 9223372036854775807 = ((g % 9223372036854775808 : Nat) : Int) := by
  have h := bits_and_u64_nat g 9223372036854775807 hg (by omega)
  rw [show g &&& 9223372036854775807 = g % 9223372036854775808 from Nat.and_two_pow_sub_one_eq_mod g 63] at h
  exact h
theorem most_in (g : Nat) (hg : g ≤ 9223372036854775807) : IntKind.i64.wrap (bits .and .u64 (g : Int) 9223372036854775807) = (g : Int) := by
  rw [and_most g (by omega), Nat.mod_eq_of_lt (by omega)]
  exact IntWalk.i64_in _ (by omega)
theorem prs_end (kvs : Gm) (k : Int) (l : List Int) : prs (kvs ++ [(k, l)]) = prs kvs ++ l.map fun v => (k, v) := by
  unfold prs
  rw [List.flatMap_append]
  simp
end Ix
theorem rixnum_rd (w : World) (bv : Value) (l : List Nat) (ps : List (Int × Int)) (q : Nat) (o : Value) (W : World) (hb : Bs w bv l) (hl : l.length ≤ 140737488355328) (hq : q ≤ l.length) (h : RD w bv ps q 0 o W) :
    Calls Try.prog 34 #[.pointer (some ⟨w.heap.size, 0, none⟩)] W fun e W' => e = .returned (.int .u64 ((Ix.rnm l q).1 : Int)) ∧ RD w bv ps (Ix.rnm l q).2.1 (Ix.rnm l q).2.2 o W' :=
  (rixnum_any w bv l w.heap.size q W hb hl hq h.rj).mono fun _ _ ⟨h1, h2, h3⟩ => ⟨h1, h.on h2 h3⟩
/-- one more pair -/
def RdPost (l : List Nat) (w : World) (e : Ending) (w' : World) : Prop := ∃ v, e = .returned (.tuple #[v, .int .i64 ((Ix.decodeP l).1 : Int)]) ∧ ((Ix.decodeP l).1 = 0 → Pr w' v (prs (Ix.decodeP l).2)) ∧ Below w.heap.size w w'
/-- the inner loop's state -/
def InS (w : World) (bv : Value) (l : List Nat) (kvs : Ix.Gm) (key m : Nat) (B : Nat × Nat × List Nat) (o vv kv : Value) (wr : World) : Prop :=
  ∃ k : Nat, kv = .int .u64 (k : Int) ∧ k ≤ m ∧
    ((∃ (q off : Nat) (acc : List Nat), vv = .int .i64 (off : Int) ∧ Ix.offP l (m - k) (decide (k = 0)) q off acc = B ∧ RD w bv (prs kvs ++ (Ix.nums acc).map fun x => ((key : Int), x)) q 0 o wr ∧ off ≤ 9223372036854775807 ∧ q ≤ l.length ∧ (prs kvs).length + acc.length ≤ q ∧ (k = 0 → off = 0)) ∨
    ∃ (er q : Nat) (ps : List (Int × Int)) (off : Int), er ≠ 0 ∧ B.1 = er ∧ vv = .int .i64 off ∧ RD w bv ps q er o wr)
/-- the outer loop's state -/
def OuS (w : World) (bv : Value) (l : List Nat) (cnt : Nat) (A : Nat × Ix.Gm) (kv o iv : Value) (wr : World) : Prop :=
  ∃ i : Nat, iv = .int .u64 (i : Int) ∧ i ≤ cnt ∧
    ((∃ (q key : Nat) (kvs : Ix.Gm), kv = .int .i64 (key : Int) ∧ Ix.decP l (cnt - i) q key kvs = A ∧ RD w bv (prs kvs) q 0 o wr ∧ key ≤ 9223372036854775807 ∧ q ≤ l.length ∧ (prs kvs).length ≤ q) ∨
    ∃ (er q : Nat) (ps : List (Int × Int)) (key : Int), er ≠ 0 ∧ A = (er, []) ∧ kv = .int .i64 key ∧ RD w bv ps q er o wr)
end Go.Proofs.Ytneiokjpbfgioaa
