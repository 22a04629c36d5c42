import Derived.Test.YtenhaogheilmoaaDoorQW1
import Derived.Test.YtenhaogheilmoaaDoorQW2
/-
  The document's answer: annalsref1's Uint, Part, Join, Bytes, Sum.
-/
namespace Go.Proofs.YtenhaogheilmoaaDoor
open Go Go.RowKit
open Wb

set_option maxHeartbeats 800000 in
theorem ruint_any (v : Nat) (w : World) (hv : v < 18446744073709551616) :
    Calls Tryd.prog 39 #[.int .u64 (v : Int)] w fun e w' => ∃ v', e = .returned v' ∧ Own w.heap.size w' v' (Wn.uint v) ∧ Below w.heap.size w w' := by
  have hin := info5
  have hv2 : (v : Int) < 18446744073709551616 := by omega
  go_enter Tryd.func39, Tryd.ntmps39
  go_wp2
  go_loopw [0, 3] (fun x o wr => ∃ (u : Nat) (pre : List Nat), u < 18446744073709551616 ∧ x = .int .u64 (u : Int) ∧ pre ++ Wn.uint u = Wn.uint v ∧ Own w.heap.size wr o pre ∧ Below w.heap.size w wr) (fun x _ _ => (intOf x).toNat)
  case atStart => exact ⟨v, [], hv, rfl, rfl, Own.nil _ _, Below.refl _ _⟩
  case round =>
    obtain ⟨u, pre, hu, rfl, hpre, hown, hbel⟩ := hrel
    have HP : Hid (pre ++ Wn.uint u = Wn.uint v) := hpre
    clear hpre
    have hu2 : (u : Int) < 18446744073709551616 := by omega
    have hsz := hbel.size
    have hL : pre.length ≤ 10 := by
      have h1 := congrArg List.length HP.out
      have h2 := Wn.uint_len10 v hv
      simp at h1
      omega
    have HO : Hid (∀ o, Own w.heap.size (wr.alloc o) u3 pre) := fun o => hown.alloc o
    by_cases hbig : 128 ≤ u
    · have HN : Hid ((pre ++ [128 + u % 128]) ++ Wn.uint (u / 128) = Wn.uint v) := by
        show _ = _
        rw [← HP.out, Wn.uint_big u hbig]
        simp
      have hbig2 : (127 : Int) < (u : Int) := by omega
      go_wp2_with (at_builtin; refine wpList_append _ rfl (.tmp 6) (.tmp 11) 25 rfl w.heap.size hin Tryd.underlying25 _ pre rfl (HO.out _) _ [128 + u % 128] rfl (Bs.one _ (128 + u % 128) (by omega) _ (by omega)) (by simp; omega) (by simp; omega) ?_)
      intro v' w' ho' hb' _
      have R : Hid (Own w.heap.size w' v' (pre ++ [128 + u % 128]) ∧ Below w.heap.size w w') := ⟨ho', (hbel.alloc hsz _).trans hb'⟩
      clear ho' hb' hown HO
      go_wp2
      go_roundw
      case rel => exact ⟨u / 128, pre ++ [128 + u % 128], by omega, by go_num, HN.out, R.out.1, R.out.2⟩
      case measure => simp [intOf]; omega
    · have hsm : u < 128 := by omega
      have HN : Hid (pre ++ [u] = Wn.uint v) := by
        show _ = _
        rw [← HP.out, Wn.uint_small u hsm]
      have hsm2 : ¬ (127 : Int) < (u : Int) := by omega
      go_wp2_with (at_builtin; refine wpList_append _ rfl (.tmp 15) (.tmp 18) 25 rfl w.heap.size hin Tryd.underlying25 _ pre rfl (HO.out _) _ [u] rfl (Bs.one _ u (by omega) _ (by omega)) (by simp; omega) (by simp; omega) ?_)
      intro v' w' ho' hb' _
      have R : Hid (Own w.heap.size w' v' (Wn.uint v) ∧ Below w.heap.size w w') := ⟨by rw [← HN.out]; exact ho', (hbel.alloc hsz _).trans hb'⟩
      clear ho' hb' hown HO
      go_wp2
      go_ret
      exact ⟨_, rfl, R.out.1, R.out.2⟩

theorem rseg_snoc (l : List Nat) (lo k : Nat) (h1 : lo ≤ k) (h2 : k < l.length) : (l.take (k + 1)).drop lo = (l.take k).drop lo ++ [l[k]] := by
  rw [List.take_succ_eq_append_getElem h2, List.drop_append_of_le_length (by simp; omega)]

set_option maxHeartbeats 400000 in
theorem rpart_any (v : Value) (l : List Nat) (lo hi : Nat) (w : World) (h : Bs w v l) (hlen : l.length ≤ 140737488355328) (h1 : lo ≤ hi) (h2 : hi ≤ l.length) :
    Calls Tryd.prog 48 #[v, .int .i64 (lo : Int), .int .i64 (hi : Int)] w fun e w' => ∃ v', e = .returned v' ∧ Own w.heap.size w' v' ((l.take hi).drop lo) ∧ Below w.heap.size w w' := by
  have hin := info5
  have hg := h.good
  obtain ⟨ao, cap, rfl, hl, hm, hn, hc⟩ := h.shape
  unfold maxLen at hm
  go_enter Tryd.func48, Tryd.ntmps48
  go_wp2
  go_loopw [7, 8] (fun v i wr => ∃ k : Nat, lo ≤ k ∧ k ≤ hi ∧ i = .int .i64 (k : Int) ∧ Own w.heap.size wr v ((l.take k).drop lo) ∧ Below w.heap.size w wr) (fun _ i _ => hi - (intOf i).toNat)
  case atStart => exact ⟨lo, Nat.le_refl _, h1, rfl, by rw [List.drop_eq_nil_of_le (by simp; omega)]; exact Own.nil _ _, Below.refl _ _⟩
  case round =>
    obtain ⟨k, hk1, hk2, rfl, hown, hbel⟩ := hrel
    by_cases hlt : k < hi
    · have hkl : k < l.length := by omega
      obtain ⟨b, off, rfl, hcell⟩ := hc (List.ne_nil_of_length_pos (by omega))
      have hck := (hbel.cell (p := ⟨b, off + k, none⟩) (World.block_lt_of_cell? _ _ (hcell k hkl))).trans (hcell k hkl)
      have h256 := ok_get hg k hkl
      have HS : Hid ((l.take (k + 1)).drop lo = (l.take k).drop lo ++ [l[k]]) := rseg_snoc l lo k hk1 hkl
      have hL : ((l.take k).drop lo).length ≤ k := by simp; omega
      have HO : Hid (∀ o, Own w.heap.size (wr.alloc o) u7 ((l.take k).drop lo)) := fun o => hown.alloc o
      have hsz := hbel.size
      clear hc hcell hn
      generalize l[k] = c at *
      generalize (l.take k).drop lo = m at *
      go_wp2_with (at_builtin; refine wpList_append _ rfl (.tmp 15) (.tmp 20) 25 rfl w.heap.size hin Tryd.underlying25 _ m rfl (HO.out _) _ [c] rfl (Bs.one _ c h256 _ rfl) (by simp; omega) (by simp; omega) ?_)
      intro v' w' ho' hb' _
      have R : Own w.heap.size w' v' ((l.take (k + 1)).drop lo) ∧ Below w.heap.size w w' := ⟨by rw [HS.out]; exact ho', (hbel.alloc hsz _).trans hb'⟩
      clear ho' hb' hown HO HS
      go_wp2
      go_roundw
      case rel => exact ⟨k + 1, by omega, by omega, by go_num, R.1, R.2⟩
      case measure => simp [intOf]; omega
    · obtain rfl : k = hi := by omega
      go_wp2
      go_ret
      exact ⟨_, rfl, hown, hbel⟩

theorem rstep_num (r : Nat) (hr : r < 4294967296) : bits .xor .u32 ((r : Int) / 2) 3988292384 = ((r / 2 ^^^ 3988292384 : Nat) : Int) := by
  rw [show ((r : Int) / 2) = ((r / 2 : Nat) : Int) by omega]
  exact u32_xor_nat (r / 2) 3988292384 (by omega) (by decide)
def stp : Nat → Nat → Nat
  | 0, r => r
  | k + 1, r => Wm.step (stp k r)
theorem stp8 (r c : Nat) : stp 8 (r ^^^ c) = Wm.feed r c := rfl
theorem stp_lt : ∀ k r, r < 4294967296 → stp k r < 4294967296
  | 0, _, h => h
  | k + 1, r, h => Wm.step_lt _ (stp_lt k r h)

set_option maxHeartbeats 800000 in
theorem rsum_any (v : Value) (l : List Nat) (w : World) (h : Bs w v l) :
    Calls Tryd.prog 45 #[v] w fun e w' => e = .returned (.int .u32 (Wm.crc l : Nat)) ∧ w = w' := by
  have hg := h.good
  obtain ⟨ao, cap, rfl, hl, hm, hn, hc⟩ := h.shape
  unfold maxLen at hm
  go_enter Tryd.func45, Tryd.ntmps45
  go_wp2
  go_loop [3, 4] (fun r i => ∃ k R : Nat, k ≤ l.length ∧ i = .int .i64 (k : Int) ∧ R < 4294967296 ∧ R = Wm.reg 4294967295 (l.take k) ∧ r = .int .u32 (R : Int)) (fun _ i => l.length - (intOf i).toNat)
  case atStart => exact ⟨0, 4294967295, Nat.zero_le _, rfl, by decide, rfl, rfl⟩
  case round =>
    obtain ⟨k, R, hk, rfl, hR, hRe, rfl⟩ := hrel
    have HR : Hid (R = Wm.reg 4294967295 (l.take k)) := hRe
    clear hRe
    by_cases hlt : k < l.length
    · obtain ⟨b, off, rfl, hcell⟩ := hc (List.ne_nil_of_length_pos (by omega))
      have hck := hcell k hlt
      have h256 := ok_get hg k hlt
      have HN : Hid (∀ Z, Z = stp 8 (R ^^^ l[k]) → Z = Wm.reg 4294967295 (l.take (k + 1))) := by
        intro Z hZ
        rw [hZ, stp8, HR.out, List.take_succ_eq_append_getElem hlt, Wm.reg_snoc]
      clear hc hcell hg
      generalize l[k] = c at *
      have hX := Wm.xor_lt R c hR (by omega)
      have n1 := num_x R c hR h256
      generalize R ^^^ c = X at *
      go_wp2
      go_loop [3, 5] (fun r i => ∃ j S : Nat, j ≤ 8 ∧ i = .int .i64 (j : Int) ∧ S < 4294967296 ∧ S = stp j X ∧ r = .int .u32 (S : Int)) (fun _ i => 8 - (intOf i).toNat)
      case atStart => exact ⟨0, X, by omega, rfl, hX, rfl, rfl⟩
      case round =>
        obtain ⟨j, S, hj, rfl, hS, hSe, rfl⟩ := hrel
        have HS : Hid (S = stp j X) := hSe
        clear hSe
        by_cases hj8 : j < 8
        · have hlt2 := Wm.step_lt S hS
          by_cases hodd : S % 2 = 1
          · have d1 : ((S : Int) % 2 == 1) = true := beq_iff_eq.2 (by omega)
            have n2 := rstep_num S hS
            have HE : Hid (S / 2 ^^^ 3988292384 = stp (j + 1) X) := by
              show _ = Wm.step (stp j X)
              rw [← HS.out]
              unfold Wm.step
              rw [if_pos hodd]
              rfl
            have hlt3 : S / 2 ^^^ 3988292384 < 4294967296 := Wm.xor_lt _ _ (by omega) (by decide)
            generalize S / 2 ^^^ 3988292384 = S2 at *
            clear hodd hlt2
            go_wp2
            go_round
            case rel => exact ⟨j + 1, S2, by omega, by go_num, hlt3, HE.out, rfl⟩
            case measure => simp [intOf]; omega
          · have d1 : ((S : Int) % 2 == 1) = false := beq_eq_false_iff_ne.2 (by omega)
            have HE : Hid (S / 2 = stp (j + 1) X) := by
              show _ = Wm.step (stp j X)
              rw [← HS.out]
              unfold Wm.step
              rw [if_neg hodd]
            clear hodd hlt2
            go_wp2
            go_round
            case rel => exact ⟨j + 1, S / 2, by omega, by go_num, by omega, HE.out, by go_num⟩
            case measure => simp [intOf]; omega
        · obtain rfl : j = 8 := by omega
          have HZ := HN.out S HS.out
          have HZ' : Hid (S = Wm.reg 4294967295 (l.take (k + 1))) := HZ
          clear HZ
          go_wp2
          go_round
          case rel => exact ⟨k + 1, S, by omega, by go_num, hS, HZ'.out, rfl⟩
          case measure => simp [intOf]; omega
    · have HE : Hid ((4294967295 : Int) - (R : Int) = ((Wm.crc l : Nat) : Int)) := by
        have e1 : Wm.crc l = 4294967295 ^^^ R := by
          rw [HR.out, List.take_of_length_le (by omega)]
          rfl
        have e2 : 4294967295 ^^^ R = 4294967295 - R := by
          apply Nat.eq_of_testBit_eq
          intro i
          rw [show (4294967295 : Nat) = 2 ^ 32 - 1 from rfl, Nat.testBit_xor, Nat.testBit_two_pow_sub_one, show 2 ^ 32 - 1 - R = 2 ^ 32 - (R + 1) by omega, Nat.testBit_two_pow_sub_succ hR]
          by_cases hi : i < 32
          · simp [hi]
          · have : R.testBit i = false := Nat.testBit_lt_two_pow (Nat.lt_of_lt_of_le hR (Nat.pow_le_pow_right (n := 2) (by decide) (show 32 ≤ i by omega)))
            simp [hi, this]
        show _ = _
        rw [e1, e2]
        omega
      go_wp2
      go_ret
      exact ⟨congrArg (fun x => Ending.returned (Value.int .u32 x)) HE.out, rfl⟩
end Go.Proofs.YtenhaogheilmoaaDoor

/-
  The document's answer: annalsref1's Bytes, Int; the law package's 'started'.
-/
namespace Go.Proofs.YtenhaogheilmoaaDoor
open Go Go.RowKit
open Wb

set_option maxHeartbeats 400000 in
theorem rbytes_any (v : Value) (l : List Nat) (w : World) (h : Bs w v l) (hlen : l.length ≤ 140737488355000) :
    Calls Tryd.prog 44 #[v] w fun e w' => ∃ v', e = .returned v' ∧ Own w.heap.size w' v' (Wn.uint l.length ++ l) ∧ Below w.heap.size w w' := by
  have hin := info5
  have hob := h
  obtain ⟨ao, cap, rfl, hl, hmx, _, _⟩ := h.shape
  go_enter Tryd.func44, Tryd.ntmps44
  go_wp2_with fail
  refine (ruint_any l.length _ (by omega)).mono ?_
  rintro e w1 ⟨v1, rfl, ho, b1⟩
  have hul := Wn.uint_len10 l.length (by omega)
  generalize eU : Wn.uint l.length = U at ho hul
  have EU : Hid (Wn.uint l.length = U) := eU
  clear eU
  obtain ⟨ao1, cap1, rfl, _⟩ := ho.bs.shape
  have h1 := hob.kept b1
  have hsz := b1.size
  clear hob h
  go_wp2_with (at_builtin; refine wpList_append _ rfl (.tmp 8) (.tmp 9) 25 rfl w.heap.size hin Tryd.underlying25 _ U rfl ho _ l rfl h1 (by omega) hsz ?_)
  intro v2 w2 ho2 b2 _
  have R : Hid (Own w.heap.size w2 v2 (Wn.uint l.length ++ l) ∧ Below w.heap.size w w2) := ⟨by rw [EU.out]; exact ho2, b1.trans b2⟩
  clear ho2 b2 b1 ho h1
  go_wp2
  go_ret
  exact ⟨_, rfl, R.out.1, R.out.2⟩

set_option maxHeartbeats 400000 in
theorem rint_any (v : Int) (w : World) (h0 : -9223372036854775808 ≤ v) (h1 : v ≤ 9223372036854775807) :
    Calls Tryd.prog 65 #[.int .i64 v] w fun e w' => ∃ v', e = .returned v' ∧ Own w.heap.size w' v' (Wn.uint (zz v)) ∧ Below w.heap.size w w' := by
  have hl := zz_lt v h0 h1
  by_cases hv : 0 ≤ v
  · obtain ⟨n, rfl⟩ := Int.eq_ofNat_of_zero_le hv
    have HZ : Hid (zz (n : Int) = n * 2) := by
      show _ = _
      unfold zz
      rw [if_pos hv]
      omega
    have hn2 : n * 2 < 18446744073709551616 := by omega
    have hR := ruint_any (n * 2) w hn2
    rw [show ((n * 2 : Nat) : Int) = (n : Int) * 2 by omega] at hR
    have HR : Hid (Calls Tryd.prog 39 #[.int .u64 ((n : Int) * 2)] w fun e w' => ∃ v', e = .returned v' ∧ Own w.heap.size w' v' (Wn.uint (n * 2)) ∧ Below w.heap.size w w') := hR
    clear hl hR
    go_enter Tryd.func65, Tryd.ntmps65
    go_wp2_with fail
    refine HR.out.mono ?_
    rintro e w1 ⟨v1, rfl, ho, b1⟩
    have R : Hid (Own w.heap.size w1 v1 (Wn.uint (zz (n : Int)))) := by
      show Own _ _ _ _
      rw [HZ.out]
      exact ho
    obtain ⟨ao, cap, rfl, _⟩ := ho.bs.shape
    clear ho
    go_wp2
    go_ret
    exact ⟨_, rfl, R.out, b1⟩
  · have hZ : (zz v : Int) = -(v + 1) * 2 + 1 := by
      unfold zz
      rw [if_neg hv]
      omega
    have hR := ruint_any (zz v) w hl
    rw [hZ] at hR
    have HR : Hid (Calls Tryd.prog 39 #[.int .u64 (-(v + 1) * 2 + 1)] w fun e w' => ∃ v', e = .returned v' ∧ Own w.heap.size w' v' (Wn.uint (zz v)) ∧ Below w.heap.size w w') := hR
    have a1 : v + 1 ≤ 0 := by omega
    have a2 : -9223372036854775808 < v + 1 := by omega
    clear hl hR hZ
    generalize Wn.uint (zz v) = U at *
    generalize hy : v + 1 = y at *
    have d1 : decide (0 ≤ v) = false := decide_eq_false hv
    go_enter Tryd.func65, Tryd.ntmps65
    go_wp2_with fail
    refine HR.out.mono ?_
    rintro e w1 ⟨v1, rfl, ho, b1⟩
    obtain ⟨ao, cap, rfl, _⟩ := ho.bs.shape
    go_wp2
    go_ret
    exact ⟨_, rfl, ho, b1⟩

end Go.Proofs.YtenhaogheilmoaaDoor

/-
  The reference's Frame.
-/
namespace Go.Proofs.YtenhaogheilmoaaDoor
open Go Go.RowKit Go.ChangeShapes Go.WideShapes
open Wb

theorem le4_take (S k : Nat) (hk : k < 4) : (le4 S).take (k + 1) = (le4 S).take k ++ [S / 256 ^ k % 256] := by
  match k, hk with
  | 0, _ => simp [le4]
  | 1, _ => simp [le4]
  | 2, _ => simp [le4]
  | 3, _ => simp [le4]

theorem rframe_bad (v : Value) (l : List Nat) (w : World) (h : Bs w v l) (er : Int) (he : (l.length = 0 ∧ er = 14) ∨ (1048576 < l.length ∧ er = 13)) :
    Calls Tryd.prog 23 #[v] w fun e w' => e = .returned (.tuple #[.slice none 0 0, .int .i64 er]) ∧ w = w' := by
  obtain ⟨ao, cap, rfl, _⟩ := h.shape
  clear h
  rcases he with ⟨h0, rfl⟩ | ⟨h1, rfl⟩
  · go_enter Tryd.func23, Tryd.ntmps23
    go_wp2
    go_ret2
    exact ⟨rfl, rfl⟩
  · have h0 : ¬ l.length = 0 := by omega
    go_enter Tryd.func23, Tryd.ntmps23
    go_wp2
    go_ret2
    exact ⟨rfl, rfl⟩
set_option maxRecDepth 100000 in
set_option maxHeartbeats 1000000 in
theorem rframe_ok (v : Value) (l : List Nat) (w : World) (h : Bs w v l) (h0 : 0 < l.length) (h1 : l.length ≤ 1048576) :
    Calls Tryd.prog 23 #[v] w fun e w' => ∃ v', e = .returned (.tuple #[v', .int .i64 0]) ∧ Own w.heap.size w' v' (fr l) ∧ Below w.heap.size w w' := by
  have hin := info5
  have hob := h
  obtain ⟨ao, cap, rfl, hl, hmx, _, _⟩ := h.shape
  clear h
  obtain ⟨L, hL⟩ : ∃ L, Wn.uint l.length ++ l = L := ⟨_, rfl⟩
  have HL : Hid (Wn.uint l.length ++ l = L) := hL
  have hLl : L.length ≤ 1048600 := by
    rw [← hL, List.length_append]
    have := Wn.uint_len10 l.length (by omega)
    omega
  obtain ⟨S, hS⟩ : ∃ S, Wm.crc L = S := ⟨_, rfl⟩
  have HSS : Hid (Wm.crc L = S) := hS
  have hSl : S < 4294967296 := by rw [← hS, ← hL]; exact Wm.crc_lt _ (ok_append (uint_okW _) hob.good)
  have HF : Hid (fr l = L ++ le4 S ++ [165]) := by show _ = _; rw [← hS, ← hL]; rfl
  clear hL hS
  generalize fr l = F at *
  go_enter Tryd.func23, Tryd.ntmps23
  have hz : ¬ l.length = 0 := by omega
  go_wp2_with fail
  refine (rbytes_any _ l _ hob (by omega)).mono ?_
  rw [HL.out]
  rintro e w1 ⟨v1, rfl, ho1, b1⟩
  obtain ⟨ao1, cap1, rfl, _⟩ := ho1.bs.shape
  clear hob
  go_wp2_with fail
  refine (rsum_any _ L _ ho1.bs).mono ?_
  rw [HSS.out]
  rintro e w2 ⟨rfl, rfl⟩
  go_wp2
  go_loopw [4, 5, 6] (fun o s i wr => ∃ k : Nat, k ≤ 4 ∧ i = .int .i64 (k : Int) ∧ s = .int .u32 ((S / 256 ^ k : Nat) : Int) ∧ Own w.heap.size wr o (L ++ (le4 S).take k) ∧ Below w.heap.size w wr) (fun _ _ i _ => 4 - (intOf i).toNat)
  case atStart => exact ⟨0, by omega, rfl, by simp, by simpa using ho1, b1⟩
  case round =>
    obtain ⟨k, hk, rfl, rfl, hown, hbel⟩ := hrel
    by_cases hlt : k < 4
    · have HO : Hid (∀ o, Own w.heap.size (wr.alloc o) u4 (L ++ (le4 S).take k)) := fun o => hown.alloc o
      have hLm : (L ++ (le4 S).take k).length ≤ 1048700 := by rw [List.length_append, List.length_take]; omega
      have HS : Hid (L ++ (le4 S).take (k + 1) = (L ++ (le4 S).take k) ++ [S / 256 ^ k % 256]) := by
        show _ = _
        rw [le4_take S k hlt, List.append_assoc]
      have HD : Hid (S / 256 ^ (k + 1) = S / 256 ^ k / 256) := by
        show _ = _
        rw [Nat.pow_succ, Nat.div_div_eq_div_mul]
      have hsz := hbel.size
      have hSk : S / 256 ^ k < 4294967296 := Nat.lt_of_le_of_lt (Nat.div_le_self _ _) hSl
      clear hown ho1
      generalize L ++ (le4 S).take k = m at *
      generalize S / 256 ^ k = T at *
      go_wp2_with (at_builtin; refine wpList_append _ rfl (.tmp 21) (.tmp 25) 25 rfl w.heap.size hin Tryd.underlying25 _ m rfl (HO.out _) _ [T % 256] rfl (Bs.one _ (T % 256) (by omega) _ (by omega)) (by simp; omega) (by simp; omega) ?_)
      intro v' w' ho' hb' _
      have R : Hid (Own w.heap.size w' v' (L ++ (le4 S).take (k + 1)) ∧ Below w.heap.size w w') := ⟨by rw [HS.out]; exact ho', (hbel.alloc hsz _).trans hb'⟩
      clear ho' hb' HO HS hbel
      go_wp2
      go_roundw
      case rel => exact ⟨k + 1, by omega, by go_num, by rw [HD.out]; go_num, R.out.1, R.out.2⟩
      case measure => simp [intOf]; omega
    · obtain rfl : k = 4 := by omega
      have e4 : (le4 S).take 4 = le4 S := rfl
      rw [e4] at hown
      have HO : Hid (∀ o, Own w.heap.size (wr.alloc o) u4 (L ++ le4 S)) := fun o => hown.alloc o
      have hLm : (L ++ le4 S).length ≤ 1048700 := by rw [List.length_append]; show L.length + 4 ≤ _; omega
      have hsz := hbel.size
      clear hown ho1 e4
      generalize L ++ le4 S = m at *
      go_wp2_with (at_builtin; refine wpList_append _ rfl (.tmp 29) (.tmp 30) 25 rfl w.heap.size hin Tryd.underlying25 _ m rfl (HO.out _) _ [165] rfl (Bs.one _ 165 (by decide) _ rfl) (by simp; omega) (by simp; omega) ?_)
      intro v' w' ho' hb' _
      have R : Hid (Own w.heap.size w' v' F ∧ Below w.heap.size w w') := ⟨by rw [HF.out]; exact ho', (hbel.alloc hsz _).trans hb'⟩
      clear ho' hb' HO hbel
      go_wp2
      go_ret2
      exact ⟨_, rfl, R.out.1, R.out.2⟩

end Go.Proofs.YtenhaogheilmoaaDoor
