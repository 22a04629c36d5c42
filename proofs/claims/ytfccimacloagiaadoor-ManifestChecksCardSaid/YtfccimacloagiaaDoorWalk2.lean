/-
  wire: readSum, own, bodySize, Uint.
-/
import Derived.Test.YtfccimacloagiaaDoorWalk1
import Derived.Laws.BitsAllLaws
namespace Go.Proofs.YtfccimacloagiaaDoor
open Go Go.RowKit
open Wb

theorem or_add (k a b : Nat) (ha : a < 2 ^ k) : a ||| (b * 2 ^ k) = a + b * 2 ^ k := by
  rw [Nat.mul_comm, Nat.or_comm, ← Nat.two_pow_add_eq_or_of_lt ha, Nat.add_comm]
theorem or4 (a b c d : Nat) (g0 : a < 256) (g1 : b < 256) (g2 : c < 256) (g3 : d < 256) :
    bits BinOp.or IntKind.u32 (bits BinOp.or IntKind.u32 (bits BinOp.or IntKind.u32 (a : Int) ((b : Int) * 256)) ((c : Int) * 65536)) ((d : Int) * 16777216) = ((a + 256 * b + 65536 * c + 16777216 * d : Nat) : Int) := by
  rw [show ((b : Int) * 256) = ((b * 2 ^ 8 : Nat) : Int) by omega, u32_or_nat a (b * 2 ^ 8) (by omega) (by omega), or_add 8 a b g0,
    show ((c : Int) * 65536) = ((c * 2 ^ 16 : Nat) : Int) by omega, u32_or_nat _ (c * 2 ^ 16) (by omega) (by omega), or_add 16 (a + b * 2 ^ 8) c (by omega),
    show ((d : Int) * 16777216) = ((d * 2 ^ 24 : Nat) : Int) by omega, u32_or_nat _ (d * 2 ^ 24) (by omega) (by omega), or_add 24 (a + b * 2 ^ 8 + c * 2 ^ 16) d (by omega)]
  omega

set_option maxHeartbeats 400000 in
theorem readSum_any (v : Value) (a b c d : Nat) (r : List Nat) (w : World) (h : Bs w v (a :: b :: c :: d :: r)) :
    Calls Tryd.prog 49 #[v] w fun e w' => e = .returned (.int .u32 ((a + 256 * b + 65536 * c + 16777216 * d : Nat) : Int)) ∧ ∃ n, w' = w.drewN n := by
  have hg := h.good
  rcases h.cases with ⟨hnil, _⟩ | ⟨_, b', off, cap, rfl, hl, hm, hcell⟩
  · simp at hnil
  have c0 := hcell 0 (by simp)
  have c1 := hcell 1 (by simp)
  have c2 := hcell 2 (by simp)
  have c3 := hcell 3 (by simp)
  have g0 : a < 256 := hg a (by simp)
  have g1 : b < 256 := hg b (by simp)
  have g2 : c < 256 := hg c (by simp)
  have g3 : d < 256 := hg d (by simp)
  simp only [List.getElem_cons_zero, List.getElem_cons_succ, Nat.add_zero] at c0 c1 c2 c3
  have hlen : (4 : Int) ≤ ((a :: b :: c :: d :: r).length : Int) := by simp; omega
  clear hcell hg h
  generalize (a :: b :: c :: d :: r).length = n at *
  go_enter Tryd.func49, Tryd.ntmps49
  go_wp2
  go_quiet (fail)
  go_wp2
  go_ret
  refine ⟨?_, _, rfl⟩
  have e1 : bits BinOp.or IntKind.u32 (bits BinOp.or IntKind.u32 (bits BinOp.or IntKind.u32 (a : Int) ((b : Int) * 256)) ((c : Int) * 65536)) ((d : Int) * 16777216) = ((a + 256 * b + 65536 * c + 16777216 * d : Nat) : Int) := or4 a b c d g0 g1 g2 g3
  exact congrArg (fun x => Ending.returned (Value.int .u32 x)) e1

set_option maxHeartbeats 400000 in
theorem own_any (v : Value) (l : List Nat) (w : World) (h : Bs w v l) (hlen : l.length ≤ 140737488355328) :
    Calls Tryd.prog 50 #[v] w fun e w' => ∃ v', e = .returned v' ∧ Own w.heap.size w' v' l ∧ Below w.heap.size w w' := by
  obtain ⟨i0, hi, hz0, hz1, hz2⟩ := info_parts info5
  have hsz : (Tryd.prog.info? 5).map (·.size) = some 1 := by rw [hi]; simp [hz1]
  obtain ⟨ao, cap, rfl, hl, hm, hn, hc⟩ := h.shape
  go_enter Tryd.func50, Tryd.ntmps50
  go_wp2_with (at_make; refine wpList_make_full _ rfl _ _ 25 rfl w.heap.size 5 i0 (.int .u8 0) 1 Tryd.underlying25 hi hz0 hz1 _ _ _ _ l.length rfl rfl rfl rfl (by rw [hz2]; omega) (by unfold maxLen; omega) (Nat.le_refl _) ?_)
  intro w1 hown hgr
  have hb1 : Below w.heap.size w w1 := (Below.refl _ w).grown hgr (Nat.le_refl _) (fun k hk => by cases hk)
  have h1 := h.kept hb1
  obtain ⟨cur, hcur, hcsz⟩ : ∃ cur : Array Value, w1.heap[w.heap.size]? = some (.cells cur 5 (0, 0)) ∧ cur.size = l.length := by
    rcases hown.2 with ⟨h1, _⟩ | ⟨g, c2, cur, hv, _, hg, _, _, hcs, htk⟩
    · cases h1
    · simp only [Value.slice.injEq, Option.some.injEq, Addr.mk.injEq, and_true, true_and] at hv
      obtain ⟨rfl, rfl⟩ := hv
      exact ⟨cur, hg, by omega⟩
  have fin : ∃ n w2, (Builtin.copy_ #[25, 25] 3 #[.slice (some ⟨w.heap.size, 0, none⟩) l.length l.length, .slice ao l.length cap]).run Tryd.prog w1 = .ok (goInt n) w2 ∧ Own w.heap.size w2 (.slice (some ⟨w.heap.size, 0, none⟩) l.length l.length) l ∧ Below w.heap.size w w2 := by
    by_cases he : l = []
    · subst he
      refine ⟨0, w1, run_copy_none (P := Tryd.prog) w1 25 25 3 5 _ _ _ _ _ _ Tryd.underlying25 hsz rfl, ⟨?_, ok_nil⟩, hb1⟩
      exact ⟨rfl, .inr ⟨_, 0, cur, rfl, Nat.le_refl _, hcur, Nat.le_refl _, Nat.zero_le _, by simpa using hcsz, by simp [bv]⟩⟩
    · obtain ⟨b, off, rfl, hcell⟩ := hc he
      have hbb : b < w.heap.size := World.block_lt_of_cell? _ _ (hcell 0 (List.length_pos_iff.2 he))
      have hrun := run_copy_row (P := Tryd.prog) w1 25 25 3 5 w.heap.size 0 l.length l.length ⟨b, off, none⟩ l.length cap cur 5 (bv l) Tryd.underlying25 hsz hcur (by rw [bv_length]; exact (Nat.min_self _).symm) (by
        intro j u hj
        have hjl : j < l.length := by have := (List.getElem?_eq_some_iff.1 hj).1; rwa [bv_length] at this
        rw [bv_get l j hjl] at hj
        rw [Addr.add_lit, hb1.cell (p := ⟨b, off + j, none⟩) hbb, hcell j hjl]
        exact hj) (by rw [bv_length]; omega) (bv_one l)
      refine ⟨_, _, hrun, ⟨⟨by rw [bv_length, Nat.mul_one], .inr ⟨_, l.length, _, rfl, Nat.le_refl _, setRow_heap w1 _ _ _ _ _ hcur, Nat.le_refl _, by unfold maxLen; omega, ?_, ?_⟩⟩, h.good⟩, below_setRow hb1 (Nat.le_refl _) _⟩
      · simp [bv_length, hcsz]
      · simp [bv_length]
  obtain ⟨n, w2, hrun, R1, R2⟩ := fin
  clear hcur hown hgr hc hcsz
  go_wp2
  go_ret
  exact ⟨_, rfl, R1, R2⟩

set_option maxHeartbeats 400000 in
theorem bodySize_any (pv : Value) (ls : List (List Nat)) (w : World) (hp : Ps w pv ls) :
    Calls Tryd.prog 45 #[pv] w fun e w' => e = .returned (.tuple #[.int .i64 (if ls.flatten.length ≤ 1048576 then (ls.flatten.length : Int) else 0), .int .i64 (if 1048576 < ls.flatten.length then 13 else if ls.flatten.length = 0 then 14 else 0)]) ∧ w = w' := by
  obtain ⟨ao, cap, rfl, hmx, hc⟩ := hp.shape
  unfold maxLen at hmx
  clear hp
  obtain ⟨R, hR⟩ : ∃ R : Value, R = .tuple #[.int .i64 (if ls.flatten.length ≤ 1048576 then (ls.flatten.length : Int) else 0), .int .i64 (if 1048576 < ls.flatten.length then 13 else if ls.flatten.length = 0 then 14 else 0)] := ⟨_, rfl⟩
  rw [← hR]
  have HR : Hid (R = .tuple #[.int .i64 (if ls.flatten.length ≤ 1048576 then (ls.flatten.length : Int) else 0), .int .i64 (if 1048576 < ls.flatten.length then 13 else if ls.flatten.length = 0 then 14 else 0)]) := hR
  clear hR
  go_enter Tryd.func45, Tryd.ntmps45
  go_wp2
  go_loop [4, 9] (fun n i => ∃ k : Nat, k ≤ ls.length ∧ i = .int .i64 k ∧ ∃ m : Nat, m = (ls.take k).flatten.length ∧ m ≤ 1048576 ∧ n = .int .i64 (m : Int)) (fun _ i => ls.length - (intOf i).toNat)
  case atStart => exact ⟨0, Nat.zero_le _, rfl, 0, rfl, by decide, rfl⟩
  case round =>
    obtain ⟨k, hk, rfl, m, hm, hm1, rfl⟩ := hrel
    have HM : Hid (m = (ls.take k).flatten.length) := hm
    clear hm
    by_cases hlt : k < ls.length
    · obtain ⟨b, off, rfl, hcell⟩ := hc (List.ne_nil_of_length_pos (by omega))
      obtain ⟨vk, hck, hbk⟩ := hcell k hlt
      obtain ⟨aok, capk, rfl, hlk, hmk, hx1, hx2⟩ := hbk.shape
      clear hx1 hx2
      unfold maxLen at hmk
      have HN : Hid ((ls.take (k + 1)).flatten.length = m + ls[k].length) := by
        show _ = _
        rw [HM.out, List.take_succ_eq_append_getElem hlt, List.flatten_append]
        simp
      have hle : (ls.take (k + 1)).flatten.length ≤ ls.flatten.length := by
        have h1 := congrArg (fun x => (List.flatten x).length) (List.take_append_drop (k + 1) ls)
        simp only [List.flatten_append, List.length_append] at h1
        omega
      have HLE : Hid ((ls.take (k + 1)).flatten.length ≤ ls.flatten.length) := hle
      clear hle hc hcell hbk
      by_cases hover : 1048576 - m < ls[k].length
      · have HV : Hid (R = .tuple #[.int .i64 0, .int .i64 13]) := by
          have h1 := HN.out
          have h2 := HLE.out
          show _ = _
          rw [HR.out, if_neg (by omega), if_pos (by omega)]
        generalize ls[k].length = q at *
        go_wp2
        go_ret2
        exact ⟨by rw [HV.out]; rfl, rfl⟩
      · generalize ls[k].length = q at *
        go_wp2
        go_round
        case rel => exact ⟨k + 1, by omega, by go_num, m + q, HN.out.symm, by omega, by go_num⟩
        case measure => simp [intOf]; omega
    · have HF : Hid (m = ls.flatten.length) := by
        show _ = _
        rw [HM.out, List.take_of_length_le (by omega)]
      by_cases h0 : m = 0
      · have HV : Hid (R = .tuple #[.int .i64 0, .int .i64 14]) := by
          have h1 := HF.out
          show _ = _
          rw [HR.out, if_pos (by omega), if_neg (by omega), if_pos (by omega), ← h1, h0]
          rfl
        subst h0
        go_wp2
        go_ret2
        exact ⟨by rw [HV.out]; rfl, rfl⟩
      · have HV : Hid (R = .tuple #[.int .i64 (m : Int), .int .i64 0]) := by
          have h1 := HF.out
          show _ = _
          rw [HR.out, if_pos (by omega), if_neg (by omega), if_neg (by omega), ← h1]
        have d0 : ((m : Int) == 0) = false := beq_eq_false_iff_ne.2 (by omega)
        go_wp2
        go_ret2
        exact ⟨by rw [HV.out]; rfl, rfl⟩
end Go.Proofs.YtfccimacloagiaaDoor
