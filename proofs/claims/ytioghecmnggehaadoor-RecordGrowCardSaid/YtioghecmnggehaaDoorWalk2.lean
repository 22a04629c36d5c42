/-
  wire: readSum, own, bodySize, Uint.
-/
import Derived.Test.YtioghecmnggehaaDoorWalk1
import Derived.Laws.BitsAllLaws
namespace Go.Proofs.YtioghecmnggehaaDoor
open Go Go.RowKit
open Wb

theorem or_add (k a b : Nat) (ha : a < 2 ^ k) : a ||| (b * 2 ^ k) = a + b * 2 ^ k := by
  rw [Nat.mul_comm, Nat.or_comm, ← Nat.two_pow_add_eq_or_of_lt ha, Nat.add_comm]
theorem or4 (a b c d : Nat) (g0 : a < 256) (g1 : b < 256) (g2 : c < 256) (g3 : d < 256) :
    bits BinOp.or IntKind.u32 (bits BinOp.or IntKind.u32 (bits BinOp.or IntKind.u32 (a : Int) ((b : Int) * 256)) ((c : Int) * 65536)) ((d : Int) * 16777216) = ((a + 256 * b + 65536 * c + 16777216 * d : Nat) : Int) := by
  rw [show ((b : Int) * 256) = ((b * 2 ^ 8 : Nat) : Int) by omega, u32_or_nat a (b * 2 ^ 8) (by omega) (by omega), or_add 8 a b g0,
    show ((c : Int) * 65536) = ((c * 2 ^ 16 : Nat) : Int) by omega, u32_or_nat _ (c * 2 ^ 16) (by omega) (by omega), or_add 16 (a + b * 2 ^ 8) c (by omega),
    show ((d : Int) * 16777216) = ((d * 2 ^ 24 : Nat) : Int) by omega, u32_or_nat _ (d * 2 ^ 24) (by omega) (by omega), or_add 24 (a + b * 2 ^ 8 + c * 2 ^ 16) d (by omega)]
  omega

set_option maxHeartbeats 400000 in
theorem own_any (v : Value) (l : List Nat) (w : World) (h : Bs w v l) (hlen : l.length ≤ 140737488355328) :
    Calls Tryd.prog 48 #[v] w fun e w' => ∃ v', e = .returned v' ∧ Own w.heap.size w' v' l ∧ Below w.heap.size w w' := by
  obtain ⟨i0, hi, hz0, hz1, hz2⟩ := info_parts info5
  have hsz : (Tryd.prog.info? 5).map (·.size) = some 1 := by rw [hi]; simp [hz1]
  obtain ⟨ao, cap, rfl, hl, hm, hn, hc⟩ := h.shape
  go_enter Tryd.func48, Tryd.ntmps48
  go_wp2_with (at_make; refine wpList_make_full _ rfl _ _ 22 rfl w.heap.size 5 i0 (.int .u8 0) 1 Tryd.underlying22 hi hz0 hz1 _ _ _ _ l.length rfl rfl rfl rfl (by rw [hz2]; omega) (by unfold maxLen; omega) (Nat.le_refl _) ?_)
  intro w1 hown hgr
  have hb1 : Below w.heap.size w w1 := (Below.refl _ w).grown hgr (Nat.le_refl _) (fun k hk => by cases hk)
  have h1 := h.kept hb1
  obtain ⟨cur, hcur, hcsz⟩ : ∃ cur : Array Value, w1.heap[w.heap.size]? = some (.cells cur 5 (0, 0)) ∧ cur.size = l.length := by
    rcases hown.2 with ⟨h1, _⟩ | ⟨g, c2, cur, hv, _, hg, _, _, hcs, htk⟩
    · cases h1
    · simp only [Value.slice.injEq, Option.some.injEq, Addr.mk.injEq, and_true, true_and] at hv
      obtain ⟨rfl, rfl⟩ := hv
      exact ⟨cur, hg, by omega⟩
  have fin : ∃ n w2, (Builtin.copy_ #[22, 22] 3 #[.slice (some ⟨w.heap.size, 0, none⟩) l.length l.length, .slice ao l.length cap]).run Tryd.prog w1 = .ok (goInt n) w2 ∧ Own w.heap.size w2 (.slice (some ⟨w.heap.size, 0, none⟩) l.length l.length) l ∧ Below w.heap.size w w2 := by
    by_cases he : l = []
    · subst he
      refine ⟨0, w1, run_copy_none (P := Tryd.prog) w1 22 22 3 5 _ _ _ _ _ _ Tryd.underlying22 hsz rfl, ⟨?_, ok_nil⟩, hb1⟩
      exact ⟨rfl, .inr ⟨_, 0, cur, rfl, Nat.le_refl _, hcur, Nat.le_refl _, Nat.zero_le _, by simpa using hcsz, by simp [bv]⟩⟩
    · obtain ⟨b, off, rfl, hcell⟩ := hc he
      have hbb : b < w.heap.size := World.block_lt_of_cell? _ _ (hcell 0 (List.length_pos_iff.2 he))
      have hrun := run_copy_row (P := Tryd.prog) w1 22 22 3 5 w.heap.size 0 l.length l.length ⟨b, off, none⟩ l.length cap cur 5 (bv l) Tryd.underlying22 hsz hcur (by rw [bv_length]; exact (Nat.min_self _).symm) (by
        intro j u hj
        have hjl : j < l.length := by have := (List.getElem?_eq_some_iff.1 hj).1; rwa [bv_length] at this
        rw [bv_get l j hjl] at hj
        rw [Addr.add_lit, hb1.cell (p := ⟨b, off + j, none⟩) hbb, hcell j hjl]
        exact hj) (by rw [bv_length]; omega) (bv_one l)
      refine ⟨_, _, hrun, ⟨⟨by rw [bv_length, Nat.mul_one], .inr ⟨_, l.length, _, rfl, Nat.le_refl _, setRow_heap w1 _ _ _ _ _ hcur, Nat.le_refl _, by unfold maxLen; omega, ?_, ?_⟩⟩, h.good⟩, below_setRow hb1 (Nat.le_refl _) _⟩
      · simp [bv_length, hcsz]
      · simp [bv_length]
  obtain ⟨n, w2, hrun, R1, R2⟩ := fin
  clear hcur hown hgr hc hcsz
  go_wp2
  go_ret
  exact ⟨_, rfl, R1, R2⟩

end Go.Proofs.YtioghecmnggehaaDoor
