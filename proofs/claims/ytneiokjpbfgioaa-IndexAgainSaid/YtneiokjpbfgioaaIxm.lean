/-
  annalsref5's reader: number, above.
-/
import Derived.Test.YtneiokjpbfgioaaIxh
import Derived.Test.YtneiokjpbfgioaaRef3
namespace Go.Proofs.Ytneiokjpbfgioaa
open Go Go.RowKit Go.ChangeShapes
open Wb

/-- the reference's reader in memory -/
structure RJ (w0 : World) (bv : Value) (gr p er : Nat) (W : World) : Prop where
  box : LB W gr 82 [bv, .int .i64 (p : Int), .int .i64 (er : Int)]
  bel : Below w0.heap.size w0 W
  ge : w0.heap.size ≤ gr
namespace Ix
/-- what its number answers, and where it stands behind -/
def rnm (l : List Nat) (p : Nat) : Nat × Nat × Nat := if (nm l p).2.2 = 0 then nm l p else (0, 0, (nm l p).2.2)
end Ix
set_option maxRecDepth 100000 in
theorem rixnum_bad (w0 : World) (bv : Value) (gr p er : Nat) (W : World) (h : RJ w0 bv gr p er W) (he : er ≠ 0) :
    Calls Try.prog 34 #[.pointer (some ⟨gr, 0, none⟩)] W fun e W' => e = .returned (.int .u64 0) ∧ W' = W := by
  have x2 := h.box.cell 2 _ rfl
  have hd : ((er : Int) != 0) = true := by simp; exact he
  clear h he
  go_enter Try.func34, Try.ntmps34
  go_wp2_with fail
  go_returns
  exact ⟨rfl, rfl⟩
set_option maxRecDepth 100000 in
set_option maxHeartbeats 2000000 in
theorem rixnum_any (w0 : World) (bv : Value) (l : List Nat) (gr p : Nat) (W : World) (hb : Bs w0 bv l) (hl : l.length ≤ 140737488355328) (hp : p ≤ l.length) (h : RJ w0 bv gr p 0 W) :
    Calls Try.prog 34 #[.pointer (some ⟨gr, 0, none⟩)] W fun e W' => e = .returned (.int .u64 ((Ix.rnm l p).1 : Int)) ∧ RJ w0 bv gr (Ix.rnm l p).2.1 (Ix.rnm l p).2.2 W' ∧ W.grownBy W' (some gr) := by
  have HRU : Hid (∀ t, Calls Try.prog 45 #[bv, .int .i64 (p : Int)] (W.drewN t) fun e w' => e = .returned (.tuple #[.int .u64 ((Wn.ru l p).1 : Int), .int .i64 (Wn.ru l p).2.1, .int .i64 ((Wn.ru l p).2.2 : Int)]) ∧ w' = W.drewN t) := fun t => (rru_any bv l p (W.drewN t) (hb.kept (bel_drewI h.bel t)) hl).mono fun e w' ⟨h1, h2⟩ => ⟨h1, h2.symm⟩
  have x0 := h.box.cell 0 _ rfl
  have x1 := h.box.cell 1 _ rfl
  have x2 : W.cell? ⟨gr, 2, none⟩ = some (.int .i64 0) := h.box.cell 2 _ rfl
  have f1 := h.box.free 1
  have f2 := h.box.free 2
  obtain ⟨ao, cap, rfl, -⟩ := hb.shape
  have HN : Hid (∀ (t : Nat) (q e : Nat), RJ w0 (.slice ao l.length cap) gr q e (((W.drewN t).setCell ⟨gr, 1, none⟩ (.int .i64 (q : Int))).setCell ⟨gr, 2, none⟩ (.int .i64 (e : Int))) ∧ W.grownBy (((W.drewN t).setCell ⟨gr, 1, none⟩ (.int .i64 (q : Int))).setCell ⟨gr, 2, none⟩ (.int .i64 (e : Int))) (some gr)) := fun t q e => by
    have hL : LB (W.drewN t) gr 82 [.slice ao l.length cap, .int .i64 (p : Int), .int .i64 ((0 : Nat) : Int)] := h.box
    have hB := ((bel_drewI h.bel t).setCell (p := ⟨gr, 1, none⟩) h.ge (.int .i64 (q : Int))).setCell (p := ⟨gr, 2, none⟩) h.ge (.int .i64 (e : Int))
    exact ⟨⟨(hL.set 1 _).set 2 _, hB, h.ge⟩, ⟨rfl, rfl, rfl, by simp [World.setCell, World.drewN], fun k hk hne => (set_other _ _ _ _ fun e => hne (by rw [e])).trans (set_other _ _ _ _ fun e => hne (by rw [e]))⟩⟩
  clear h hb
  rcases Ix.nm_ru l p hp with ⟨er, he0, -, e1, e2⟩ | ⟨v, q, -, -, e1, e2, -⟩
  · rw [e2] at HRU
    simp only at HRU
    have HE : Hid (Ix.rnm l p = (0, 0, er)) := by
      show _ = _
      unfold Ix.rnm
      rw [e1, if_neg he0]
    clear e1 e2 he0
    go_enter Try.func34, Try.ntmps34
    go_wp2_with fail
    go_quiet (first | (go_at_call 45; refine Calls.quiet_of_same (HRU.out _)))
    go_wp2_with fail
    go_returns
    rw [HE.out]
    exact ⟨rfl, (HN.out _ 0 er).1, (HN.out _ 0 er).2⟩
  · rw [e2] at HRU
    simp only at HRU
    have HE : Hid (Ix.rnm l p = (v, q, 0)) := by
      show _ = _
      unfold Ix.rnm
      rw [e1, if_pos rfl]
    clear e1 e2
    go_enter Try.func34, Try.ntmps34
    go_wp2_with fail
    go_quiet (first | (go_at_call 45; refine Calls.quiet_of_same (HRU.out _)))
    go_wp2_with fail
    go_returns
    rw [HE.out]
    exact ⟨rfl, (HN.out _ q 0).1, (HN.out _ q 0).2⟩
set_option maxRecDepth 100000 in
theorem rixabove_bad (w0 : World) (bv : Value) (gr p er : Nat) (before e : Int) (gap : Nat) (W : World) (h : RJ w0 bv gr p er W) (he : er ≠ 0) :
    Calls Try.prog 35 #[.pointer (some ⟨gr, 0, none⟩), .int .i64 before, .int .u64 (gap : Int), .int .i64 e] W fun e W' => e = .returned (.int .i64 0) ∧ W' = W := by
  have x2 := h.box.cell 2 _ rfl
  have hd : ((er : Int) != 0) = true := by simp; exact he
  clear h he
  go_enter Try.func35, Try.ntmps35
  go_wp2_with fail
  go_returns
  exact ⟨rfl, rfl⟩
set_option maxRecDepth 100000 in
set_option maxHeartbeats 1000000 in
theorem rixabove_no (w0 : World) (bv : Value) (gr p : Nat) (before gap e : Nat) (W : World) (h : RJ w0 bv gr p 0 W) (hb : before ≤ 9223372036854775807) (hg : gap < 18446744073709551616) (hn : gap = 0 ∨ 9223372036854775807 - before < gap) :
    Calls Try.prog 35 #[.pointer (some ⟨gr, 0, none⟩), .int .i64 (before : Int), .int .u64 (gap : Int), .int .i64 (e : Int)] W fun e' W' => e' = .returned (.int .i64 0) ∧ RJ w0 bv gr p e W' ∧ W.grownBy W' (some gr) := by
  have x2 : W.cell? ⟨gr, 2, none⟩ = some (.int .i64 0) := h.box.cell 2 _ rfl
  have f2 := h.box.free 2
  have HN : Hid (RJ w0 bv gr p e (W.setCell ⟨gr, 2, none⟩ (.int .i64 (e : Int))) ∧ W.grownBy (W.setCell ⟨gr, 2, none⟩ (.int .i64 (e : Int))) (some gr)) := ⟨⟨h.box.set 2 _, h.bel.setCell (p := ⟨gr, 2, none⟩) h.ge _, h.ge⟩, ⟨rfl, rfl, rfl, by simp [World.setCell], fun k hk hne => set_other _ _ _ _ fun e => hne (by rw [e])⟩⟩
  have hw1 : IntKind.i64.wrap (9223372036854775807 - (before : Int)) = 9223372036854775807 - (before : Int) := IntWalk.i64_in _ (by omega)
  have hw2 : IntKind.u64.wrap (9223372036854775807 - (before : Int)) = 9223372036854775807 - (before : Int) := IntWalk.u64_in _ (by omega)
  clear h
  by_cases h0 : gap = 0
  · subst h0
    clear hn
    go_enter Try.func35, Try.ntmps35
    go_wp2_with fail
    go_returns
    exact ⟨rfl, HN.out.1, HN.out.2⟩
  · have hd0 : ((gap : Int) == 0) = false := by simp; exact h0
    have hd1 : (9223372036854775807 - (before : Int) < (gap : Int)) = True := by
      simp only [eq_iff_iff, iff_true]
      omega
    clear hn h0
    go_enter Try.func35, Try.ntmps35
    go_wp2_with fail
    go_returns
    exact ⟨rfl, HN.out.1, HN.out.2⟩
set_option maxRecDepth 100000 in
set_option maxHeartbeats 1000000 in
theorem rixabove_yes (w0 : World) (bv : Value) (gr p : Nat) (before gap : Nat) (e : Int) (W : World) (h : RJ w0 bv gr p 0 W) (hg : gap ≠ 0) (hn : before + gap ≤ 9223372036854775807) :
    Calls Try.prog 35 #[.pointer (some ⟨gr, 0, none⟩), .int .i64 (before : Int), .int .u64 (gap : Int), .int .i64 e] W fun e' W' => e' = .returned (.int .i64 ((before + gap : Nat) : Int)) ∧ W' = W := by
  have x2 : W.cell? ⟨gr, 2, none⟩ = some (.int .i64 0) := h.box.cell 2 _ rfl
  have hw1 : IntKind.i64.wrap (9223372036854775807 - (before : Int)) = 9223372036854775807 - (before : Int) := IntWalk.i64_in _ (by omega)
  have hw2 : IntKind.u64.wrap (9223372036854775807 - (before : Int)) = 9223372036854775807 - (before : Int) := IntWalk.u64_in _ (by omega)
  have hw3 : IntKind.i64.wrap (gap : Int) = (gap : Int) := IntWalk.i64_in _ (by omega)
  have hw4 : IntKind.i64.wrap ((before : Int) + (gap : Int)) = ((before + gap : Nat) : Int) := by
    rw [IntWalk.i64_in _ (by omega)]
    omega
  have hd0 : ((gap : Int) == 0) = false := by simp; exact hg
  have hd1 : (9223372036854775807 - (before : Int) < (gap : Int)) = False := by
    simp only [eq_iff_iff, iff_false]
    omega
  clear h
  go_enter Try.func35, Try.ntmps35
  go_wp2_with fail
  go_returns
  exact ⟨rfl, rfl⟩
end Go.Proofs.Ytneiokjpbfgioaa
