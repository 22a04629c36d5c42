import Derived.OpenShut
import Derived.Test.YtfkpdmmgjgchjaaDoorQW1
/-
  The document's answer: annalsref1's Uint, Part, Join, Bytes, Sum.
-/
namespace Go.Proofs.YtfkpdmmgjgchjaaDoor
open Go Go.RowKit
open Wb

set_option maxHeartbeats 800000 in
theorem ruint_any (v : Nat) (w : World) (hv : v < 18446744073709551616) :
    Calls Tryd.prog 60 #[.int .u64 (v : Int)] w fun e w' => ∃ v', e = .returned v' ∧ Own w.heap.size w' v' (Wn.uint v) ∧ Below w.heap.size w w' := by
  have hin := info5
  have hv2 : (v : Int) < 18446744073709551616 := by omega
  go_enter Tryd.func60, Tryd.ntmps60
  go_wp2
  go_loopw [0, 3] (fun x o wr => ∃ (u : Nat) (pre : List Nat), u < 18446744073709551616 ∧ x = .int .u64 (u : Int) ∧ pre ++ Wn.uint u = Wn.uint v ∧ Own w.heap.size wr o pre ∧ Below w.heap.size w wr) (fun x _ _ => (intOf x).toNat)
  case atStart => exact ⟨v, [], hv, rfl, rfl, Own.nil _ _, Below.refl _ _⟩
  case round =>
    obtain ⟨u, pre, hu, rfl, hpre, hown, hbel⟩ := hrel
    have HP : Hid (pre ++ Wn.uint u = Wn.uint v) := hpre
    clear hpre
    have hu2 : (u : Int) < 18446744073709551616 := by omega
    have hsz := hbel.size
    have hL : pre.length ≤ 10 := by
      have h1 := congrArg List.length HP.out
      have h2 := Wn.uint_len10 v hv
      simp at h1
      omega
    have HO : Hid (∀ o, Own w.heap.size (wr.alloc o) u3 pre) := fun o => hown.alloc o
    by_cases hbig : 128 ≤ u
    · have HN : Hid ((pre ++ [128 + u % 128]) ++ Wn.uint (u / 128) = Wn.uint v) := by
        show _ = _
        rw [← HP.out, Wn.uint_big u hbig]
        simp
      have hbig2 : (127 : Int) < (u : Int) := by omega
      go_wp2_with (at_builtin; refine wpList_append _ rfl (.tmp 6) (.tmp 11) 22 rfl w.heap.size hin Tryd.underlying22 _ pre rfl (HO.out _) _ [128 + u % 128] rfl (Bs.one _ (128 + u % 128) (by omega) _ (by omega)) (by simp; omega) (by simp; omega) ?_)
      intro v' w' ho' hb' _
      have R : Hid (Own w.heap.size w' v' (pre ++ [128 + u % 128]) ∧ Below w.heap.size w w') := ⟨ho', (hbel.alloc hsz _).trans hb'⟩
      clear ho' hb' hown HO
      go_wp2
      go_roundw
      case rel => exact ⟨u / 128, pre ++ [128 + u % 128], by omega, by go_num, HN.out, R.out.1, R.out.2⟩
      case measure => simp [intOf]; omega
    · have hsm : u < 128 := by omega
      have HN : Hid (pre ++ [u] = Wn.uint v) := by
        show _ = _
        rw [← HP.out, Wn.uint_small u hsm]
      have hsm2 : ¬ (127 : Int) < (u : Int) := by omega
      go_wp2_with (at_builtin; refine wpList_append _ rfl (.tmp 15) (.tmp 18) 22 rfl w.heap.size hin Tryd.underlying22 _ pre rfl (HO.out _) _ [u] rfl (Bs.one _ u (by omega) _ (by omega)) (by simp; omega) (by simp; omega) ?_)
      intro v' w' ho' hb' _
      have R : Hid (Own w.heap.size w' v' (Wn.uint v) ∧ Below w.heap.size w w') := ⟨by rw [← HN.out]; exact ho', (hbel.alloc hsz _).trans hb'⟩
      clear ho' hb' hown HO
      go_wp2
      go_ret
      exact ⟨_, rfl, R.out.1, R.out.2⟩

theorem rseg_snoc (l : List Nat) (lo k : Nat) (h1 : lo ≤ k) (h2 : k < l.length) : (l.take (k + 1)).drop lo = (l.take k).drop lo ++ [l[k]] := by
  rw [List.take_succ_eq_append_getElem h2, List.drop_append_of_le_length (by simp; omega)]

set_option maxHeartbeats 400000 in
theorem rpart_any (v : Value) (l : List Nat) (lo hi : Nat) (w : World) (h : Bs w v l) (hlen : l.length ≤ 140737488355328) (h1 : lo ≤ hi) (h2 : hi ≤ l.length) :
    Calls Tryd.prog 19 #[v, .int .i64 (lo : Int), .int .i64 (hi : Int)] w fun e w' => ∃ v', e = .returned v' ∧ Own w.heap.size w' v' ((l.take hi).drop lo) ∧ Below w.heap.size w w' := by
  have hin := info5
  have hg := h.good
  obtain ⟨ao, cap, rfl, hl, hm, hn, hc⟩ := h.shape
  unfold maxLen at hm
  go_enter Tryd.func19, Tryd.ntmps19
  go_wp2
  go_loopw [7, 8] (fun v i wr => ∃ k : Nat, lo ≤ k ∧ k ≤ hi ∧ i = .int .i64 (k : Int) ∧ Own w.heap.size wr v ((l.take k).drop lo) ∧ Below w.heap.size w wr) (fun _ i _ => hi - (intOf i).toNat)
  case atStart => exact ⟨lo, Nat.le_refl _, h1, rfl, by rw [List.drop_eq_nil_of_le (by simp; omega)]; exact Own.nil _ _, Below.refl _ _⟩
  case round =>
    obtain ⟨k, hk1, hk2, rfl, hown, hbel⟩ := hrel
    by_cases hlt : k < hi
    · have hkl : k < l.length := by omega
      obtain ⟨b, off, rfl, hcell⟩ := hc (List.ne_nil_of_length_pos (by omega))
      have hck := (hbel.cell (p := ⟨b, off + k, none⟩) (World.block_lt_of_cell? _ _ (hcell k hkl))).trans (hcell k hkl)
      have h256 := ok_get hg k hkl
      have HS : Hid ((l.take (k + 1)).drop lo = (l.take k).drop lo ++ [l[k]]) := rseg_snoc l lo k hk1 hkl
      have hL : ((l.take k).drop lo).length ≤ k := by simp; omega
      have HO : Hid (∀ o, Own w.heap.size (wr.alloc o) u7 ((l.take k).drop lo)) := fun o => hown.alloc o
      have hsz := hbel.size
      clear hc hcell hn
      generalize l[k] = c at *
      generalize (l.take k).drop lo = m at *
      go_wp2_with (at_builtin; refine wpList_append _ rfl (.tmp 15) (.tmp 20) 22 rfl w.heap.size hin Tryd.underlying22 _ m rfl (HO.out _) _ [c] rfl (Bs.one _ c h256 _ rfl) (by simp; omega) (by simp; omega) ?_)
      intro v' w' ho' hb' _
      have R : Own w.heap.size w' v' ((l.take (k + 1)).drop lo) ∧ Below w.heap.size w w' := ⟨by rw [HS.out]; exact ho', (hbel.alloc hsz _).trans hb'⟩
      clear ho' hb' hown HO HS
      go_wp2
      go_roundw
      case rel => exact ⟨k + 1, by omega, by omega, by go_num, R.1, R.2⟩
      case measure => simp [intOf]; omega
    · obtain rfl : k = hi := by omega
      go_wp2
      go_ret
      exact ⟨_, rfl, hown, hbel⟩

theorem rstep_num (r : Nat) (hr : r < 4294967296) : bits .xor .u32 ((r : Int) / 2) 3988292384 = ((r / 2 ^^^ 3988292384 : Nat) : Int) := by
  rw [show ((r : Int) / 2) = ((r / 2 : Nat) : Int) by omega]
  exact u32_xor_nat (r / 2) 3988292384 (by omega) (by decide)
def stp : Nat → Nat → Nat
  | 0, r => r
  | k + 1, r => Wm.step (stp k r)
theorem stp8 (r c : Nat) : stp 8 (r ^^^ c) = Wm.feed r c := rfl
theorem stp_lt : ∀ k r, r < 4294967296 → stp k r < 4294967296
  | 0, _, h => h
  | k + 1, r, h => Wm.step_lt _ (stp_lt k r h)

end Go.Proofs.YtfkpdmmgjgchjaaDoor

/-
  The document's answer: annalsref1's Bytes, Int; the law package's 'started'.
-/
namespace Go.Proofs.YtfkpdmmgjgchjaaDoor
open Go Go.RowKit
open Wb

set_option maxHeartbeats 400000 in
theorem rbytes_any (v : Value) (l : List Nat) (w : World) (h : Bs w v l) (hlen : l.length ≤ 140737488355000) :
    Calls Tryd.prog 59 #[v] w fun e w' => ∃ v', e = .returned v' ∧ Own w.heap.size w' v' (Wn.uint l.length ++ l) ∧ Below w.heap.size w w' := by
  have hin := info5
  have hob := h
  obtain ⟨ao, cap, rfl, hl, hmx, _, _⟩ := h.shape
  go_enter Tryd.func59, Tryd.ntmps59
  go_wp2_with fail
  refine (ruint_any l.length _ (by omega)).mono ?_
  rintro e w1 ⟨v1, rfl, ho, b1⟩
  have hul := Wn.uint_len10 l.length (by omega)
  generalize eU : Wn.uint l.length = U at ho hul
  have EU : Hid (Wn.uint l.length = U) := eU
  clear eU
  obtain ⟨ao1, cap1, rfl, _⟩ := ho.bs.shape
  have h1 := hob.kept b1
  have hsz := b1.size
  clear hob h
  go_wp2_with (at_builtin; refine wpList_append _ rfl (.tmp 8) (.tmp 9) 22 rfl w.heap.size hin Tryd.underlying22 _ U rfl ho _ l rfl h1 (by omega) hsz ?_)
  intro v2 w2 ho2 b2 _
  have R : Hid (Own w.heap.size w2 v2 (Wn.uint l.length ++ l) ∧ Below w.heap.size w w2) := ⟨by rw [EU.out]; exact ho2, b1.trans b2⟩
  clear ho2 b2 b1 ho h1
  go_wp2
  go_ret
  exact ⟨_, rfl, R.out.1, R.out.2⟩

set_option maxHeartbeats 400000 in
theorem rint_any (v : Int) (w : World) (h0 : -9223372036854775808 ≤ v) (h1 : v ≤ 9223372036854775807) :
    Calls Tryd.prog 58 #[.int .i64 v] w fun e w' => ∃ v', e = .returned v' ∧ Own w.heap.size w' v' (Wn.uint (zz v)) ∧ Below w.heap.size w w' := by
  have hl := zz_lt v h0 h1
  by_cases hv : 0 ≤ v
  · obtain ⟨n, rfl⟩ := Int.eq_ofNat_of_zero_le hv
    have HZ : Hid (zz (n : Int) = n * 2) := by
      show _ = _
      unfold zz
      rw [if_pos hv]
      omega
    have hn2 : n * 2 < 18446744073709551616 := by omega
    have hR := ruint_any (n * 2) w hn2
    rw [show ((n * 2 : Nat) : Int) = (n : Int) * 2 by omega] at hR
    have HR : Hid (Calls Tryd.prog 60 #[.int .u64 ((n : Int) * 2)] w fun e w' => ∃ v', e = .returned v' ∧ Own w.heap.size w' v' (Wn.uint (n * 2)) ∧ Below w.heap.size w w') := hR
    clear hl hR
    go_enter Tryd.func58, Tryd.ntmps58
    go_wp2_with fail
    refine HR.out.mono ?_
    rintro e w1 ⟨v1, rfl, ho, b1⟩
    have R : Hid (Own w.heap.size w1 v1 (Wn.uint (zz (n : Int)))) := by
      show Own _ _ _ _
      rw [HZ.out]
      exact ho
    obtain ⟨ao, cap, rfl, _⟩ := ho.bs.shape
    clear ho
    go_wp2
    go_ret
    exact ⟨_, rfl, R.out, b1⟩
  · have hZ : (zz v : Int) = -(v + 1) * 2 + 1 := by
      unfold zz
      rw [if_neg hv]
      omega
    have hR := ruint_any (zz v) w hl
    rw [hZ] at hR
    have HR : Hid (Calls Tryd.prog 60 #[.int .u64 (-(v + 1) * 2 + 1)] w fun e w' => ∃ v', e = .returned v' ∧ Own w.heap.size w' v' (Wn.uint (zz v)) ∧ Below w.heap.size w w') := hR
    have a1 : v + 1 ≤ 0 := by omega
    have a2 : -9223372036854775808 < v + 1 := by omega
    clear hl hR hZ
    generalize Wn.uint (zz v) = U at *
    generalize hy : v + 1 = y at *
    have d1 : decide (0 ≤ v) = false := decide_eq_false hv
    go_enter Tryd.func58, Tryd.ntmps58
    go_wp2_with fail
    refine HR.out.mono ?_
    rintro e w1 ⟨v1, rfl, ho, b1⟩
    obtain ⟨ao, cap, rfl, _⟩ := ho.bs.shape
    go_wp2
    go_ret
    exact ⟨_, rfl, ho, b1⟩

end Go.Proofs.YtfkpdmmgjgchjaaDoor

/-
  The document's way of reading a number (from its last byte backwards), against the reading from its first on.
-/
namespace Go.Proofs.YtfkpdmmgjgchjaaDoor
namespace Wn

/-- the number that these bytes hold, lowest first -/
def val : List Nat → Nat
  | [] => 0
  | c :: r => c % 128 + 128 * val r
theorem val_snoc (l : List Nat) (c : Nat) : val (l ++ [c]) = val l + c % 128 * 2 ^ (7 * l.length) := by
  induction l with
  | nil => simp [val]
  | cons a r ih =>
    show a % 128 + 128 * val (r ++ [c]) = a % 128 + 128 * val r + c % 128 * 2 ^ (7 * (r.length + 1))
    rw [ih, pow_step, Nat.mul_add]
    have : c % 128 * (128 * 2 ^ (7 * r.length)) = 128 * (c % 128 * 2 ^ (7 * r.length)) := Nat.mul_left_comm _ _ _
    omega

theorem rd_pre : ∀ (n : Nat) (d : List Nat) (i acc : Nat), n ≤ d.length → i + n ≤ 9 → (∀ j (_ : j < n) (h2 : j < d.length), 128 ≤ d[j]) → rd d i acc = rd (d.drop n) (i + n) (acc + val (d.take n) * 2 ^ (7 * i))
  | 0, d, i, acc, _, _, _ => by simp [val]
  | n + 1, [], i, acc, h, _, _ => by simp at h
  | n + 1, c :: r, i, acc, h, hi, hb => by
    have hc : 128 ≤ c := hb 0 (by omega) (by simp)
    have hne : ¬ (i = 9 ∧ 1 < c) := by omega
    rw [rd, if_neg hne, if_pos hc, rd_pre n r (i + 1) _ (by simpa using h) (by omega) (fun j hj h2 => by
      have := hb (j + 1) (by omega) (by simpa using h2)
      simpa using this)]
    rw [List.drop_succ_cons, List.take_succ_cons, val, pow_step, show i + 1 + n = i + (n + 1) by omega, Nat.add_mul, Nat.add_assoc]
    have : val (r.take n) * (128 * 2 ^ (7 * i)) = 128 * val (r.take n) * 2 ^ (7 * i) := by rw [Nat.mul_left_comm, Nat.mul_assoc]
    rw [this]

/-- how the reading ends, behind n bytes that go on -/
theorem rd_short (d : List Nat) (n : Nat) (hn : n = d.length) (h9 : n ≤ 9) (hb : ∀ j (_ : j < n) (h2 : j < d.length), 128 ≤ d[j]) : rd d 0 0 = (0, 0, 10) := by
  rw [rd_pre n d 0 0 (by omega) (by omega) hb, hn, List.drop_length]
  rfl
theorem rd_lastb (d : List Nat) (n : Nat) (hn : n < d.length) (h9 : n ≤ 9) (hb : ∀ j (_ : j < n) (h2 : j < d.length), 128 ≤ d[j]) (hl : n = 9 ∨ d[n] < 128) :
    rd d 0 0 = if n = 9 ∧ 1 < d[n] then (0, 0, 12) else if d[n] = 0 ∧ 0 < n then (0, 0, 11) else (val (d.take (n + 1)), n + 1, 0) := by
  rw [rd_pre n d 0 0 (by omega) (by omega) hb, List.drop_eq_getElem_cons hn, rd, Nat.zero_add, Nat.zero_add, Nat.mul_zero, Nat.pow_zero, Nat.mul_one]
  by_cases h1 : n = 9 ∧ 1 < d[n]
  · rw [if_pos h1, if_pos h1]
  · have h2 : ¬ 128 ≤ d[n] := by omega
    rw [if_neg h1, if_neg h1, if_neg h2]
    by_cases h3 : d[n] = 0 ∧ 0 < n
    · rw [if_pos h3, if_pos h3]
    · rw [if_neg h3, if_neg h3, List.take_succ_eq_append_getElem hn, val_snoc, List.length_take, Nat.min_eq_left (by omega)]
end Wn
end Go.Proofs.YtfkpdmmgjgchjaaDoor

/-
  The document's answer: annalsref1's ReadUint.
-/
namespace Go.Proofs.YtfkpdmmgjgchjaaDoor
open Go Go.RowKit
open Wb

theorem getElem_drop' (l : List Nat) (q j : Nat) (h : j < (l.drop q).length) : (l.drop q)[j] = l[q + j]'(by rw [List.length_drop] at h; omega) := by simp
theorem val_lt : ∀ (l : List Nat) , Wn.val l < 2 ^ (7 * l.length)
  | [] => by simp [Wn.val]
  | c :: r => by
    have := val_lt r
    have h2 : c % 128 < 128 := Nat.mod_lt _ (by decide)
    show c % 128 + 128 * Wn.val r < 2 ^ (7 * (r.length + 1))
    rw [Wn.pow_step]
    omega
theorem val_drop_le : ∀ (l : List Nat) (m : Nat), Wn.val (l.drop m) ≤ Wn.val l
  | l, 0 => by simp
  | [], m + 1 => by simp
  | c :: r, m + 1 => by
    have := val_drop_le r m
    show Wn.val (r.drop m) ≤ c % 128 + 128 * Wn.val r
    omega
theorem val_step (l : List Nat) (m : Nat) (h : m < l.length) : Wn.val (l.drop m) = Wn.val (l.drop (m + 1)) * 128 + l[m] % 128 := by
  rw [List.drop_eq_getElem_cons h]
  show l[m] % 128 + 128 * Wn.val (l.drop (m + 1)) = _
  omega
theorem val_fits (l : List Nat) (n : Nat) (hn : n < l.length) (h9 : n ≤ 9) (hl : n = 9 → l[n] ≤ 1) : Wn.val (l.take (n + 1)) < 18446744073709551616 := by
  by_cases h : n = 9
  · rw [List.take_succ_eq_append_getElem hn, Wn.val_snoc]
    have h1 := val_lt (l.take n)
    have hlen : (l.take n).length = n := by rw [List.length_take]; omega
    rw [hlen] at h1 ⊢
    have h2 := hl h
    subst h
    have h3 : l[9] % 128 ≤ 1 := Nat.le_trans (Nat.mod_le _ _) h2
    have h4 : l[9] % 128 * 2 ^ (7 * 9) ≤ 1 * 2 ^ (7 * 9) := Nat.mul_le_mul_right _ h3
    have e : (2 : Nat) ^ (7 * 9) = 9223372036854775808 := by decide
    omega
  · have h1 := val_lt (l.take (n + 1))
    have hlen : (l.take (n + 1)).length = n + 1 := by rw [List.length_take]; omega
    rw [hlen] at h1
    have h2 : (2 : Nat) ^ (7 * (n + 1)) ≤ 2 ^ 63 := Nat.pow_le_pow_right (by decide) (by omega)
    have e : (2 : Nat) ^ 63 = 9223372036854775808 := by decide
    omega
theorem ru_at (l : List Nat) (q : Nat) (hq : q ≤ l.length) : Wn.ru l (q : Int) = ((Wn.rd (l.drop q) 0 0).1, (if (Wn.rd (l.drop q) 0 0).2.2 = 0 then (q : Int) + ((Wn.rd (l.drop q) 0 0).2.1 : Int) else 0), (Wn.rd (l.drop q) 0 0).2.2) := by
  unfold Wn.ru
  rw [if_neg (by omega), Int.toNat_natCast]

set_option maxRecDepth 20000 in
set_option maxHeartbeats 2000000 in
theorem rru_any (v : Value) (l : List Nat) (p : Int) (w : World) (h : Bs w v l) (hlen : l.length ≤ 140737488355328) :
    Calls Tryd.prog 63 #[v, .int .i64 p] w fun e w' => e = .returned (tup3 (Wn.ru l p).1 (Wn.ru l p).2.1 (Wn.ru l p).2.2) ∧ w = w' := by
  have hg := h.good
  obtain ⟨ao, cap, rfl, hl, hm, hn, hc⟩ := h.shape
  by_cases ho : p < 0 ∨ (l.length : Int) < p
  · rw [Wn.ru_out l p ho]
    unfold tup3
    clear hc hn
    rcases ho with ho | ho
    · go_enter Tryd.func63, Tryd.ntmps63
      go_wp2
      go_ret3
      exact ⟨rfl, rfl⟩
    · have hp0 : ¬ p < 0 := by omega
      go_enter Tryd.func63, Tryd.ntmps63
      go_wp2
      go_ret3
      exact ⟨rfl, rfl⟩
  · obtain ⟨q, rfl⟩ := Int.eq_ofNat_of_zero_le (show 0 ≤ p by omega)
    have hq : q ≤ l.length := by omega
    clear ho
    obtain ⟨V, hV⟩ : ∃ V, V = (Wn.ru l (q : Int)).1 := ⟨_, rfl⟩
    obtain ⟨E, hE⟩ : ∃ E, E = (Wn.ru l (q : Int)).2.1 := ⟨_, rfl⟩
    obtain ⟨N, hN⟩ : ∃ N, N = (Wn.ru l (q : Int)).2.2 := ⟨_, rfl⟩
    rw [← hV, ← hE, ← hN]
    have HS : Hid (V = (Wn.ru l (q : Int)).1 ∧ E = (Wn.ru l (q : Int)).2.1 ∧ N = (Wn.ru l (q : Int)).2.2) := ⟨hV, hE, hN⟩
    clear hV hE hN
    unfold tup3
    go_enter Tryd.func63, Tryd.ntmps63
    go_wp2
    go_loop [7] (fun x => ∃ n : Nat, n ≤ 9 ∧ q + n ≤ l.length ∧ x = .int .i64 (n : Int) ∧ ∀ j (_ : j < n) (h2 : q + j < l.length), 128 ≤ l[q + j]) (fun x => 9 - (intOf x).toNat)
    case atStart => exact ⟨0, by omega, by omega, rfl, fun j hj => absurd hj (Nat.not_lt_zero _)⟩
    case round =>
      obtain ⟨n, hn9, hql, rfl, hbig⟩ := hrel
      have HB : Hid (∀ j (_ : j < n) (h2 : q + j < l.length), 128 ≤ l[q + j]) := hbig
      clear hbig
      by_cases he : q + n = l.length
      · have HR : Hid (V = 0 ∧ E = 0 ∧ N = 10) := by
          have h1 := Wn.rd_short (l.drop q) n (by rw [List.length_drop]; omega) hn9 (fun j hj h2 => by rw [getElem_drop']; exact HB.out j hj _)
          have h3 := HS.out
          rw [ru_at l q hq, h1] at h3
          exact ⟨h3.1, h3.2.1, h3.2.2⟩
        obtain ⟨rfl, rfl, rfl⟩ := HR.out
        clear HS HB hc HR
        by_cases h9 : n = 9
        · subst h9
          go_wp2
          go_ret3
          exact ⟨rfl, rfl⟩
        · go_wp2
          go_ret3
          exact ⟨rfl, rfl⟩
      · have hlt : q + n < l.length := by omega
        obtain ⟨b, off, rfl, hcell⟩ := hc (List.ne_nil_of_length_pos (by omega))
        have hck := hcell (q + n) hlt
        have h256 := ok_get hg (q + n) hlt
        have HC : Hid (∀ j (h : j < l.length), w.cell? ⟨b, off + j, none⟩ = some (.int .u8 (l[j] : Int)) ∧ l[j] < 256) := fun j h => ⟨hcell j h, ok_get hg j h⟩
        clear hc hcell hg h
        by_cases hgo : n < 9 ∧ 128 ≤ l[q + n]
        · have HB2 : Hid (∀ j (_ : j < n + 1) (h2 : q + j < l.length), 128 ≤ l[q + j]) := fun j hj h2 => by
            rcases Nat.lt_succ_iff_lt_or_eq.1 hj with h | h
            · exact HB.out j h h2
            · subst h
              exact hgo.2
          obtain ⟨hg9, hgc⟩ := hgo
          clear HB HS HC
          generalize l[q + n] = c at *
          go_wp2
          go_round
          case rel => exact ⟨n + 1, by omega, by omega, by go_num, HB2.out⟩
          case measure => simp [intOf]; omega
        · have HL : Hid (Wn.rd (l.drop q) 0 0 = if n = 9 ∧ 1 < l[q + n] then (0, 0, 12) else if l[q + n] = 0 ∧ 0 < n then (0, 0, 11) else (Wn.val ((l.drop q).take (n + 1)), n + 1, 0)) := by
            have h1 := Wn.rd_lastb (l.drop q) n (by rw [List.length_drop]; omega) hn9 (fun j hj h2 => by rw [getElem_drop']; exact HB.out j hj _) (by rw [getElem_drop']; omega)
            rw [getElem_drop'] at h1
            exact h1
          clear HB
          have hlast : n = 9 ∨ l[q + n] < 128 := by omega
          by_cases hA : n = 9 ∧ 1 < l[q + n]
          · have HR : Hid (V = 0 ∧ E = 0 ∧ N = 12) := by
              have h3 := HS.out
              rw [ru_at l q hq, HL.out, if_pos hA] at h3
              exact ⟨h3.1, h3.2.1, h3.2.2⟩
            obtain ⟨rfl, rfl, rfl⟩ := HR.out
            obtain ⟨rfl, hA2⟩ := hA
            clear HS HL HC HR hgo hlast
            generalize l[q + 9] = c at *
            go_wp2
            go_ret3
            exact ⟨rfl, rfl⟩
          · by_cases hB : l[q + n] = 0 ∧ 0 < n
            · have HR : Hid (V = 0 ∧ E = 0 ∧ N = 11) := by
                have h3 := HS.out
                rw [ru_at l q hq, HL.out, if_neg hA, if_pos hB] at h3
                exact ⟨h3.1, h3.2.1, h3.2.2⟩
              obtain ⟨rfl, rfl, rfl⟩ := HR.out
              obtain ⟨hB1, hB2⟩ := hB
              clear HS HL HC HR hgo hlast hA
              generalize l[q + n] = c at *
              subst hB1
              by_cases h9 : n = 9
              · subst h9
                go_wp2
                go_ret3
                exact ⟨rfl, rfl⟩
              · go_wp2
                go_ret3
                exact ⟨rfl, rfl⟩
            · obtain ⟨T, hT⟩ : ∃ T, T = (l.drop q).take (n + 1) := ⟨_, rfl⟩
              have HR : Hid (V = Wn.val T ∧ E = (q : Int) + ((n + 1 : Nat) : Int) ∧ N = 0) := by
                have h3 := HS.out
                rw [ru_at l q hq, HL.out, if_neg hA, if_neg hB] at h3
                rw [hT]
                exact ⟨h3.1, h3.2.1, h3.2.2⟩
              have HV : Hid (V = Wn.val T) := HR.out.1
              have hE2 : E = (q : Int) + (n : Int) + 1 := by have := HR.out.2.1; omega
              obtain rfl := HR.out.2.2
              subst hE2
              have HT : Hid (T.length = n + 1 ∧ ∀ m (h1 : m < T.length) (h2 : q + m < l.length), T[m] = l[q + m]) := by
                subst hT
                refine ⟨by rw [List.length_take, List.length_drop]; omega, fun m h1 h2 => ?_⟩
                simp
              have HF : Hid (Wn.val T < 18446744073709551616) := by
                rw [hT]
                exact val_fits (l.drop q) n (by rw [List.length_drop]; omega) hn9 (fun e => by rw [getElem_drop']; omega)
              have HZ : Hid (Wn.val (T.drop (n + 1)) = 0) := by
                show _ = _
                rw [List.drop_eq_nil_of_le (by rw [HT.out.1]; exact Nat.le_refl _)]
                rfl
              clear HS HL HR hgo hT
              have hcz : ¬ (l[q + n] = 0 ∧ 0 < n) := hB
              have hcA : ¬ (n = 9 ∧ 1 < l[q + n]) := hA
              clear hA hB
              generalize l[q + n] = c at *
              by_cases h9 : n = 9
              · subst h9
                have hc1 : ¬ (1 : Int) < (c : Int) := by omega
                have hc0 : ¬ c = 0 := by omega
                clear hcz hcA hlast
                go_wp2
                go_loop [9, 10] (fun x i => ∃ m : Nat, m ≤ 9 + 1 ∧ i = .int .i64 ((m : Int) - 1) ∧ x = .int .u64 ((Wn.val (T.drop m) : Nat) : Int)) (fun _ i => (intOf i + 1).toNat)
                case atStart => exact ⟨9 + 1, Nat.le_refl _, by go_num, by rw [HZ.out]; rfl⟩
                case round =>
                  obtain ⟨m, hmn, rfl, rfl⟩ := hrel
                  by_cases hm0 : m = 0
                  · subst hm0
                    have HV0 : Hid (Wn.val (T.drop 0) = V) := by show _ = _; rw [List.drop_zero]; exact HV.out.symm
                    generalize Wn.val (T.drop 0) = X at *
                    obtain rfl : X = V := HV0.out
                    go_wp2
                    go_ret3
                    exact ⟨rfl, rfl⟩
                  · obtain ⟨k, rfl⟩ : ∃ k, m = k + 1 := ⟨m - 1, by omega⟩
                    obtain ⟨hck2, hc256⟩ := HC.out (q + k) (by omega)
                    have HST : Hid (Wn.val (T.drop k) = Wn.val (T.drop (k + 1)) * 128 + l[q + k]'(by omega) % 128) := by
                      have h1 := val_step T k (by rw [HT.out.1]; omega)
                      rw [HT.out.2 k _ _] at h1
                      exact h1
                    have hbd : Wn.val (T.drop (k + 1)) * 128 + l[q + k]'(by omega) % 128 < 18446744073709551616 := by
                      rw [← HST.out]
                      exact Nat.lt_of_le_of_lt (val_drop_le T k) HF.out
                    generalize l[q + k]'(by omega) = c2 at *
                    generalize Wn.val (T.drop (k + 1)) = X at *
                    have hX : X * 128 < 18446744073709551616 := by omega
                    go_wp2
                    go_round
                    case rel => exact ⟨k, by omega, by go_num, by rw [HST.out]; go_num⟩
                    case measure => simp [intOf] <;> omega
              · have hc128 : c < 128 := by omega
                by_cases hn0 : n = 0
                · subst hn0
                  clear hcz hcA hlast h9
                  simp only [Nat.add_zero] at hck
                  go_wp2
                  go_loop [9, 10] (fun x i => ∃ m : Nat, m ≤ 0 + 1 ∧ i = .int .i64 ((m : Int) - 1) ∧ x = .int .u64 ((Wn.val (T.drop m) : Nat) : Int)) (fun _ i => (intOf i + 1).toNat)
                  case atStart => exact ⟨0 + 1, Nat.le_refl _, by go_num, by rw [HZ.out]; rfl⟩
                  case round =>
                    obtain ⟨m, hmn, rfl, rfl⟩ := hrel
                    by_cases hm0 : m = 0
                    · subst hm0
                      have HV0 : Hid (Wn.val (T.drop 0) = V) := by show _ = _; rw [List.drop_zero]; exact HV.out.symm
                      generalize Wn.val (T.drop 0) = X at *
                      obtain rfl : X = V := HV0.out
                      go_wp2
                      go_ret3
                      exact ⟨rfl, rfl⟩
                    · obtain ⟨k, rfl⟩ : ∃ k, m = k + 1 := ⟨m - 1, by omega⟩
                      obtain ⟨hck2, hc256⟩ := HC.out (q + k) (by omega)
                      have HST : Hid (Wn.val (T.drop k) = Wn.val (T.drop (k + 1)) * 128 + l[q + k]'(by omega) % 128) := by
                        have h1 := val_step T k (by rw [HT.out.1]; omega)
                        rw [HT.out.2 k _ _] at h1
                        exact h1
                      have hbd : Wn.val (T.drop (k + 1)) * 128 + l[q + k]'(by omega) % 128 < 18446744073709551616 := by
                        rw [← HST.out]
                        exact Nat.lt_of_le_of_lt (val_drop_le T k) HF.out
                      generalize l[q + k]'(by omega) = c2 at *
                      generalize Wn.val (T.drop (k + 1)) = X at *
                      have hX : X * 128 < 18446744073709551616 := by omega
                      go_wp2
                      go_round
                      case rel => exact ⟨k, by omega, by go_num, by rw [HST.out]; go_num⟩
                      case measure => simp [intOf] <;> omega
                · have hc0 : ¬ c = 0 := by omega
                  clear hcz hcA hlast
                  go_wp2
                  go_loop [9, 10] (fun x i => ∃ m : Nat, m ≤ n + 1 ∧ i = .int .i64 ((m : Int) - 1) ∧ x = .int .u64 ((Wn.val (T.drop m) : Nat) : Int)) (fun _ i => (intOf i + 1).toNat)
                  case atStart => exact ⟨n + 1, Nat.le_refl _, by go_num, by rw [HZ.out]; rfl⟩
                  case round =>
                    obtain ⟨m, hmn, rfl, rfl⟩ := hrel
                    by_cases hm0 : m = 0
                    · subst hm0
                      have HV0 : Hid (Wn.val (T.drop 0) = V) := by show _ = _; rw [List.drop_zero]; exact HV.out.symm
                      generalize Wn.val (T.drop 0) = X at *
                      obtain rfl : X = V := HV0.out
                      go_wp2
                      go_ret3
                      exact ⟨rfl, rfl⟩
                    · obtain ⟨k, rfl⟩ : ∃ k, m = k + 1 := ⟨m - 1, by omega⟩
                      obtain ⟨hck2, hc256⟩ := HC.out (q + k) (by omega)
                      have HST : Hid (Wn.val (T.drop k) = Wn.val (T.drop (k + 1)) * 128 + l[q + k]'(by omega) % 128) := by
                        have h1 := val_step T k (by rw [HT.out.1]; omega)
                        rw [HT.out.2 k _ _] at h1
                        exact h1
                      have hbd : Wn.val (T.drop (k + 1)) * 128 + l[q + k]'(by omega) % 128 < 18446744073709551616 := by
                        rw [← HST.out]
                        exact Nat.lt_of_le_of_lt (val_drop_le T k) HF.out
                      generalize l[q + k]'(by omega) = c2 at *
                      generalize Wn.val (T.drop (k + 1)) = X at *
                      have hX : X * 128 < 18446744073709551616 := by omega
                      go_wp2
                      go_round
                      case rel => exact ⟨k, by omega, by go_num, by rw [HST.out]; go_num⟩
                      case measure => simp [intOf] <;> omega
end Go.Proofs.YtfkpdmmgjgchjaaDoor

/-
  The reference's ReadInt; the law package's 'numbers' at each kind.
-/
namespace Go.Proofs.YtfkpdmmgjgchjaaDoor
open Go Go.RowKit Go.ChangeShapes Go.WideShapes
open Wb

theorem uz_ref (x : Nat) : uz x = if x % 2 = 1 then -((x / 2 : Nat) : Int) - 1 else ((x / 2 : Nat) : Int) := by
  unfold uz
  by_cases h : x % 2 = 1
  · rw [if_pos h, if_neg (by omega)]
  · rw [if_neg h, if_pos (by omega)]
set_option maxHeartbeats 400000 in
theorem rri_any (v : Value) (l : List Nat) (p : Int) (w : World) (h : Bs w v l) (hlen : l.length ≤ 140737488355328) :
    Calls Tryd.prog 78 #[v, .int .i64 p] w fun e w' => e = .returned (.tuple #[.int .i64 (ri l p).1, .int .i64 (ri l p).2.1, .int .i64 ((ri l p).2.2 : Int)]) ∧ w = w' := by
  have hru := rru_any v l p w h hlen
  unfold tup3 at hru
  rcases Wn.ru_cases l p with ⟨e, he, he2, hr⟩ | ⟨q, x, n, rfl, hq, hn, hrd, hr⟩
  · have hri : ri l p = (0, 0, e) := by unfold ri; rw [hr]; simp [he]
    rw [hri]
    rw [hr] at hru
    have HRU : Hid (Calls Tryd.prog 63 #[v, .int .i64 p] w fun e' w' => e' = .returned (.tuple #[.int .u64 ((0 : Nat) : Int), .int .i64 0, .int .i64 (e : Int)]) ∧ w = w') := hru
    have d0 : ((e : Int) != 0) = true := by rw [bne_iff_ne]; omega
    clear hru hr hri
    go_enter Tryd.func78, Tryd.ntmps78
    go_wp2_with fail
    refine HRU.out.mono ?_
    rintro e w1 ⟨rfl, rfl⟩
    go_wp2
    go_ret3
    exact ⟨rfl, rfl⟩
  · have hri : ri l (q : Int) = (uz x, ((q + n : Nat) : Int), 0) := by unfold ri; rw [hr]; simp
    rw [hri]
    rw [hr] at hru
    have hx := (rd_back0 _ _ _ (ok_drop h.good q) hrd).2.2
    have HU : Hid (uz x = if x % 2 = 1 then -((x / 2 : Nat) : Int) - 1 else ((x / 2 : Nat) : Int)) := uz_ref x
    have HRU : Hid (Calls Tryd.prog 63 #[v, .int .i64 (q : Int)] w fun e' w' => e' = .returned (.tuple #[.int .u64 (x : Int), .int .i64 ((q + n : Nat) : Int), .int .i64 ((0 : Nat) : Int)]) ∧ w = w') := hru
    clear hru hr hri
    generalize uz x = z at *
    generalize q + n = t at *
    by_cases hodd : x % 2 = 1
    · have HZ : Hid (z = -((x / 2 : Nat) : Int) - 1) := by show _ = _; rw [HU.out, if_pos hodd]
      go_enter Tryd.func78, Tryd.ntmps78
      go_wp2_with fail
      refine HRU.out.mono ?_
      rintro e w1 ⟨rfl, rfl⟩
      go_wp2
      go_ret3
      rw [HZ.out]
      exact ⟨rfl, rfl⟩
    · have HZ : Hid (z = ((x / 2 : Nat) : Int)) := by show _ = _; rw [HU.out, if_neg hodd]
      go_enter Tryd.func78, Tryd.ntmps78
      go_wp2_with fail
      refine HRU.out.mono ?_
      rintro e w1 ⟨rfl, rfl⟩
      go_wp2
      go_ret3
      rw [HZ.out]
      exact ⟨rfl, rfl⟩

theorem ru_small (l : List Nat) (p : Int) : (Wn.ru l p).2.2 ≤ 12 := by
  rcases Wn.ru_cases l p with ⟨e, _, he, hr⟩ | ⟨q, x, n, rfl, hq, hn, hrd, hr⟩
  · rw [hr]; exact he
  · rw [hr]; simp
theorem ri_small (l : List Nat) (p : Int) : (ri l p).2.2 ≤ 12 := by
  have := ru_small l p
  unfold ri
  split
  · exact this
  · simp
end Go.Proofs.YtfkpdmmgjgchjaaDoor

/-
  The reference's ReadBytes; the law package's 'stretches' at Bytes and ReadBytes.
-/
namespace Go.Proofs.YtfkpdmmgjgchjaaDoor
open Go Go.RowKit Go.ChangeShapes Go.WideShapes
open Wb

set_option maxHeartbeats 1000000 in
theorem rrb_any (v : Value) (l : List Nat) (p m : Int) (w : World) (h : Bs w v l) (hlen : l.length ≤ 140737488355328) (hm : m ≤ 9223372036854775807) :
    Calls Tryd.prog 80 #[v, .int .i64 p, .int .i64 m] w fun e w' => ∃ v', e = .returned (.tuple #[v', .int .i64 (rb l p m).2.1, .int .i64 ((rb l p m).2.2 : Int)]) ∧ Own w.heap.size w' v' (rb l p m).1 ∧ Below w.heap.size w w' := by
  have hru := rru_any v l p w h hlen
  unfold tup3 at hru
  obtain ⟨ao, cap, rfl, hl, hmx, _⟩ := h.shape
  unfold maxLen at hmx
  by_cases hout : p < 0 ∨ (l.length : Int) < p
  · have hr := Wn.ru_out l p hout
    have hrb : rb l p m = ([], 0, 1) := by unfold rb; rw [hr]; split <;> simp
    rw [hrb]
    clear hru hr hrb h
    by_cases hp0 : p < 0
    · clear hout
      go_enter Tryd.func80, Tryd.ntmps80
      go_wp2
      go_ret3
      exact ⟨_, rfl, Own.nil _ _, Below.refl _ _⟩
    · have hp1 : (l.length : Int) < p := by omega
      clear hout
      go_enter Tryd.func80, Tryd.ntmps80
      go_wp2
      go_ret3
      exact ⟨_, rfl, Own.nil _ _, Below.refl _ _⟩
  · have hp0 : ¬ p < 0 := by omega
    have hp1 : ¬ (l.length : Int) < p := by omega
    clear hout
    by_cases hneg : m < 0
    · rw [rb_arg l p m hneg]
      clear hru h
      go_enter Tryd.func80, Tryd.ntmps80
      go_wp2
      go_ret3
      exact ⟨_, rfl, Own.nil _ _, Below.refl _ _⟩
    obtain ⟨M, rfl⟩ := Int.eq_ofNat_of_zero_le (show 0 ≤ m by omega)
    rcases Wn.ru_cases l p with ⟨e, he, he2, hr⟩ | ⟨q, x, n, rfl, hq, hn, hrd, hr⟩
    · have hrb : rb l p (M : Int) = ([], 0, e) := by unfold rb; rw [if_neg hneg, hr]; simp [he]
      rw [hrb]
      rw [hr] at hru
      have HRU : Hid (Calls Tryd.prog 63 #[.slice ao l.length cap, .int .i64 p] w fun e' w' => e' = .returned (.tuple #[.int .u64 ((0 : Nat) : Int), .int .i64 0, .int .i64 (e : Int)]) ∧ w = w') := hru
      have d0 : ((e : Int) != 0) = true := by rw [bne_iff_ne]; omega
      clear hru hr hrb h
      go_enter Tryd.func80, Tryd.ntmps80
      go_wp2_with fail
      refine HRU.out.mono ?_
      rintro e w1 ⟨rfl, rfl⟩
      clear HRU
      go_wp2
      go_ret3
      exact ⟨_, rfl, Own.nil _ _, Below.refl _ _⟩
    · have hx := (rd_back0 _ _ _ (ok_drop h.good q) hrd).2.2
      rw [hr] at hru
      have hrbe : rb l (q : Int) (M : Int) = if (M : Int) < (x : Int) then ([], 0, 13) else if (l.length : Int) - ((q + n : Nat) : Int) < (x : Int) then ([], 0, 10) else ((l.take (q + n + x)).drop (q + n), ((q + n : Nat) : Int) + (x : Int), 0) := by
        unfold rb
        rw [if_neg hneg, hr]
        simp only [ne_eq, not_true_eq_false, if_false, Int.toNat_natCast]
      generalize hq' : q + n = t at *
      have hqt : q < t := by omega
      have HRU : Hid (Calls Tryd.prog 63 #[.slice ao l.length cap, .int .i64 (q : Int)] w fun e' w' => e' = .returned (.tuple #[.int .u64 (x : Int), .int .i64 (t : Int), .int .i64 ((0 : Nat) : Int)]) ∧ w = w') := hru
      clear hru hr hrd hq' hn
      by_cases c1 : (M : Int) < (x : Int)
      · rw [hrbe, if_pos c1]
        clear hrbe h
        go_enter Tryd.func80, Tryd.ntmps80
        go_wp2_with fail
        refine HRU.out.mono ?_
        rintro e w1 ⟨rfl, rfl⟩
        clear HRU
        go_wp2
        go_ret3
        exact ⟨_, rfl, Own.nil _ _, Below.refl _ _⟩
      rw [if_neg c1] at hrbe
      by_cases c2 : (l.length : Int) - (t : Int) < (x : Int)
      · rw [hrbe, if_pos c2]
        clear hrbe h
        go_enter Tryd.func80, Tryd.ntmps80
        go_wp2_with fail
        refine HRU.out.mono ?_
        rintro e w1 ⟨rfl, rfl⟩
        clear HRU
        go_wp2
        go_ret3
        exact ⟨_, rfl, Own.nil _ _, Below.refl _ _⟩
      rw [hrbe, if_neg c2]
      clear hrbe
      have HP : Hid (∀ z : Int, z = ((t + x : Nat) : Int) → Calls Tryd.prog 19 #[.slice ao l.length cap, .int .i64 (t : Int), .int .i64 z] w fun e w' => ∃ v', e = .returned v' ∧ Own w.heap.size w' v' ((l.take (t + x)).drop t) ∧ Below w.heap.size w w') := by
        rintro z rfl
        exact rpart_any _ l t (t + x) w h hlen (by omega) (by omega)
      generalize (l.take (t + x)).drop t = Y at *
      clear h
      go_enter Tryd.func80, Tryd.ntmps80
      go_wp2_with fail
      refine HRU.out.mono ?_
      rintro e w1 ⟨rfl, rfl⟩
      clear HRU
      go_wp2_with fail
      refine (HP.out _ (by omega)).mono ?_
      rintro e w9 ⟨v9, rfl, ho9, b9⟩
      obtain ⟨ao9, cap9, rfl, _⟩ := ho9.bs.shape
      go_wp2
      go_ret3
      exact ⟨_, rfl, ho9, b9⟩

theorem rb_small (l : List Nat) (p m : Int) : (rb l p m).2.2 ≤ 13 := by
  have := ru_small l p
  unfold rb
  repeat' split
  all_goals simp
  omega
end Go.Proofs.YtfkpdmmgjgchjaaDoor
