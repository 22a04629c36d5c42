import Derived.Test.YtpikdngccgdhiaaDoorQW1
import Derived.Test.YtpikdngccgdhiaaDoorQW2
/-
  The document's answer: annalsref1's Uint, Part, Join, Bytes, Sum.
-/
namespace Go.Proofs.YtpikdngccgdhiaaDoor
open Go Go.RowKit
open Wb

set_option maxHeartbeats 800000 in
theorem ruint_any (v : Nat) (w : World) (hv : v < 18446744073709551616) :
    Calls Tryd.prog 34 #[.int .u64 (v : Int)] w fun e w' => ∃ v', e = .returned v' ∧ Own w.heap.size w' v' (Wn.uint v) ∧ Below w.heap.size w w' := by
  have hin := info5
  have hv2 : (v : Int) < 18446744073709551616 := by omega
  go_enter Tryd.func34, Tryd.ntmps34
  go_wp2
  go_loopw [0, 3] (fun x o wr => ∃ (u : Nat) (pre : List Nat), u < 18446744073709551616 ∧ x = .int .u64 (u : Int) ∧ pre ++ Wn.uint u = Wn.uint v ∧ Own w.heap.size wr o pre ∧ Below w.heap.size w wr) (fun x _ _ => (intOf x).toNat)
  case atStart => exact ⟨v, [], hv, rfl, rfl, Own.nil _ _, Below.refl _ _⟩
  case round =>
    obtain ⟨u, pre, hu, rfl, hpre, hown, hbel⟩ := hrel
    have HP : Hid (pre ++ Wn.uint u = Wn.uint v) := hpre
    clear hpre
    have hu2 : (u : Int) < 18446744073709551616 := by omega
    have hsz := hbel.size
    have hL : pre.length ≤ 10 := by
      have h1 := congrArg List.length HP.out
      have h2 := Wn.uint_len10 v hv
      simp at h1
      omega
    have HO : Hid (∀ o, Own w.heap.size (wr.alloc o) u3 pre) := fun o => hown.alloc o
    by_cases hbig : 128 ≤ u
    · have HN : Hid ((pre ++ [128 + u % 128]) ++ Wn.uint (u / 128) = Wn.uint v) := by
        show _ = _
        rw [← HP.out, Wn.uint_big u hbig]
        simp
      have hbig2 : (127 : Int) < (u : Int) := by omega
      go_wp2_with (at_builtin; refine wpList_append _ rfl (.tmp 6) (.tmp 11) 25 rfl w.heap.size hin Tryd.underlying25 _ pre rfl (HO.out _) _ [128 + u % 128] rfl (Bs.one _ (128 + u % 128) (by omega) _ (by omega)) (by simp; omega) (by simp; omega) ?_)
      intro v' w' ho' hb' _
      have R : Hid (Own w.heap.size w' v' (pre ++ [128 + u % 128]) ∧ Below w.heap.size w w') := ⟨ho', (hbel.alloc hsz _).trans hb'⟩
      clear ho' hb' hown HO
      go_wp2
      go_roundw
      case rel => exact ⟨u / 128, pre ++ [128 + u % 128], by omega, by go_num, HN.out, R.out.1, R.out.2⟩
      case measure => simp [intOf]; omega
    · have hsm : u < 128 := by omega
      have HN : Hid (pre ++ [u] = Wn.uint v) := by
        show _ = _
        rw [← HP.out, Wn.uint_small u hsm]
      have hsm2 : ¬ (127 : Int) < (u : Int) := by omega
      go_wp2_with (at_builtin; refine wpList_append _ rfl (.tmp 15) (.tmp 18) 25 rfl w.heap.size hin Tryd.underlying25 _ pre rfl (HO.out _) _ [u] rfl (Bs.one _ u (by omega) _ (by omega)) (by simp; omega) (by simp; omega) ?_)
      intro v' w' ho' hb' _
      have R : Hid (Own w.heap.size w' v' (Wn.uint v) ∧ Below w.heap.size w w') := ⟨by rw [← HN.out]; exact ho', (hbel.alloc hsz _).trans hb'⟩
      clear ho' hb' hown HO
      go_wp2
      go_ret
      exact ⟨_, rfl, R.out.1, R.out.2⟩

theorem rseg_snoc (l : List Nat) (lo k : Nat) (h1 : lo ≤ k) (h2 : k < l.length) : (l.take (k + 1)).drop lo = (l.take k).drop lo ++ [l[k]] := by
  rw [List.take_succ_eq_append_getElem h2, List.drop_append_of_le_length (by simp; omega)]

set_option maxHeartbeats 400000 in
theorem rpart_any (v : Value) (l : List Nat) (lo hi : Nat) (w : World) (h : Bs w v l) (hlen : l.length ≤ 140737488355328) (h1 : lo ≤ hi) (h2 : hi ≤ l.length) :
    Calls Tryd.prog 55 #[v, .int .i64 (lo : Int), .int .i64 (hi : Int)] w fun e w' => ∃ v', e = .returned v' ∧ Own w.heap.size w' v' ((l.take hi).drop lo) ∧ Below w.heap.size w w' := by
  have hin := info5
  have hg := h.good
  obtain ⟨ao, cap, rfl, hl, hm, hn, hc⟩ := h.shape
  unfold maxLen at hm
  go_enter Tryd.func55, Tryd.ntmps55
  go_wp2
  go_loopw [7, 8] (fun v i wr => ∃ k : Nat, lo ≤ k ∧ k ≤ hi ∧ i = .int .i64 (k : Int) ∧ Own w.heap.size wr v ((l.take k).drop lo) ∧ Below w.heap.size w wr) (fun _ i _ => hi - (intOf i).toNat)
  case atStart => exact ⟨lo, Nat.le_refl _, h1, rfl, by rw [List.drop_eq_nil_of_le (by simp; omega)]; exact Own.nil _ _, Below.refl _ _⟩
  case round =>
    obtain ⟨k, hk1, hk2, rfl, hown, hbel⟩ := hrel
    by_cases hlt : k < hi
    · have hkl : k < l.length := by omega
      obtain ⟨b, off, rfl, hcell⟩ := hc (List.ne_nil_of_length_pos (by omega))
      have hck := (hbel.cell (p := ⟨b, off + k, none⟩) (World.block_lt_of_cell? _ _ (hcell k hkl))).trans (hcell k hkl)
      have h256 := ok_get hg k hkl
      have HS : Hid ((l.take (k + 1)).drop lo = (l.take k).drop lo ++ [l[k]]) := rseg_snoc l lo k hk1 hkl
      have hL : ((l.take k).drop lo).length ≤ k := by simp; omega
      have HO : Hid (∀ o, Own w.heap.size (wr.alloc o) u7 ((l.take k).drop lo)) := fun o => hown.alloc o
      have hsz := hbel.size
      clear hc hcell hn
      generalize l[k] = c at *
      generalize (l.take k).drop lo = m at *
      go_wp2_with (at_builtin; refine wpList_append _ rfl (.tmp 15) (.tmp 20) 25 rfl w.heap.size hin Tryd.underlying25 _ m rfl (HO.out _) _ [c] rfl (Bs.one _ c h256 _ rfl) (by simp; omega) (by simp; omega) ?_)
      intro v' w' ho' hb' _
      have R : Own w.heap.size w' v' ((l.take (k + 1)).drop lo) ∧ Below w.heap.size w w' := ⟨by rw [HS.out]; exact ho', (hbel.alloc hsz _).trans hb'⟩
      clear ho' hb' hown HO HS
      go_wp2
      go_roundw
      case rel => exact ⟨k + 1, by omega, by omega, by go_num, R.1, R.2⟩
      case measure => simp [intOf]; omega
    · obtain rfl : k = hi := by omega
      go_wp2
      go_ret
      exact ⟨_, rfl, hown, hbel⟩

theorem rstep_num (r : Nat) (hr : r < 4294967296) : bits .xor .u32 ((r : Int) / 2) 3988292384 = ((r / 2 ^^^ 3988292384 : Nat) : Int) := by
  rw [show ((r : Int) / 2) = ((r / 2 : Nat) : Int) by omega]
  exact u32_xor_nat (r / 2) 3988292384 (by omega) (by decide)
def stp : Nat → Nat → Nat
  | 0, r => r
  | k + 1, r => Wm.step (stp k r)
theorem stp8 (r c : Nat) : stp 8 (r ^^^ c) = Wm.feed r c := rfl
theorem stp_lt : ∀ k r, r < 4294967296 → stp k r < 4294967296
  | 0, _, h => h
  | k + 1, r, h => Wm.step_lt _ (stp_lt k r h)

set_option maxHeartbeats 800000 in
theorem rsum_any (v : Value) (l : List Nat) (w : World) (h : Bs w v l) :
    Calls Tryd.prog 53 #[v] w fun e w' => e = .returned (.int .u32 (Wm.crc l : Nat)) ∧ w = w' := by
  have hg := h.good
  obtain ⟨ao, cap, rfl, hl, hm, hn, hc⟩ := h.shape
  unfold maxLen at hm
  go_enter Tryd.func53, Tryd.ntmps53
  go_wp2
  go_loop [3, 4] (fun r i => ∃ k R : Nat, k ≤ l.length ∧ i = .int .i64 (k : Int) ∧ R < 4294967296 ∧ R = Wm.reg 4294967295 (l.take k) ∧ r = .int .u32 (R : Int)) (fun _ i => l.length - (intOf i).toNat)
  case atStart => exact ⟨0, 4294967295, Nat.zero_le _, rfl, by decide, rfl, rfl⟩
  case round =>
    obtain ⟨k, R, hk, rfl, hR, hRe, rfl⟩ := hrel
    have HR : Hid (R = Wm.reg 4294967295 (l.take k)) := hRe
    clear hRe
    by_cases hlt : k < l.length
    · obtain ⟨b, off, rfl, hcell⟩ := hc (List.ne_nil_of_length_pos (by omega))
      have hck := hcell k hlt
      have h256 := ok_get hg k hlt
      have HN : Hid (∀ Z, Z = stp 8 (R ^^^ l[k]) → Z = Wm.reg 4294967295 (l.take (k + 1))) := by
        intro Z hZ
        rw [hZ, stp8, HR.out, List.take_succ_eq_append_getElem hlt, Wm.reg_snoc]
      clear hc hcell hg
      generalize l[k] = c at *
      have hX := Wm.xor_lt R c hR (by omega)
      have n1 := num_x R c hR h256
      generalize R ^^^ c = X at *
      go_wp2
      go_loop [3, 5] (fun r i => ∃ j S : Nat, j ≤ 8 ∧ i = .int .i64 (j : Int) ∧ S < 4294967296 ∧ S = stp j X ∧ r = .int .u32 (S : Int)) (fun _ i => 8 - (intOf i).toNat)
      case atStart => exact ⟨0, X, by omega, rfl, hX, rfl, rfl⟩
      case round =>
        obtain ⟨j, S, hj, rfl, hS, hSe, rfl⟩ := hrel
        have HS : Hid (S = stp j X) := hSe
        clear hSe
        by_cases hj8 : j < 8
        · have hlt2 := Wm.step_lt S hS
          by_cases hodd : S % 2 = 1
          · have d1 : ((S : Int) % 2 == 1) = true := beq_iff_eq.2 (by omega)
            have n2 := rstep_num S hS
            have HE : Hid (S / 2 ^^^ 3988292384 = stp (j + 1) X) := by
              show _ = Wm.step (stp j X)
              rw [← HS.out]
              unfold Wm.step
              rw [if_pos hodd]
              rfl
            have hlt3 : S / 2 ^^^ 3988292384 < 4294967296 := Wm.xor_lt _ _ (by omega) (by decide)
            generalize S / 2 ^^^ 3988292384 = S2 at *
            clear hodd hlt2
            go_wp2
            go_round
            case rel => exact ⟨j + 1, S2, by omega, by go_num, hlt3, HE.out, rfl⟩
            case measure => simp [intOf]; omega
          · have d1 : ((S : Int) % 2 == 1) = false := beq_eq_false_iff_ne.2 (by omega)
            have HE : Hid (S / 2 = stp (j + 1) X) := by
              show _ = Wm.step (stp j X)
              rw [← HS.out]
              unfold Wm.step
              rw [if_neg hodd]
            clear hodd hlt2
            go_wp2
            go_round
            case rel => exact ⟨j + 1, S / 2, by omega, by go_num, by omega, HE.out, by go_num⟩
            case measure => simp [intOf]; omega
        · obtain rfl : j = 8 := by omega
          have HZ := HN.out S HS.out
          have HZ' : Hid (S = Wm.reg 4294967295 (l.take (k + 1))) := HZ
          clear HZ
          go_wp2
          go_round
          case rel => exact ⟨k + 1, S, by omega, by go_num, hS, HZ'.out, rfl⟩
          case measure => simp [intOf]; omega
    · have HE : Hid ((4294967295 : Int) - (R : Int) = ((Wm.crc l : Nat) : Int)) := by
        have e1 : Wm.crc l = 4294967295 ^^^ R := by
          rw [HR.out, List.take_of_length_le (by omega)]
          rfl
        have e2 : 4294967295 ^^^ R = 4294967295 - R := by
          apply Nat.eq_of_testBit_eq
          intro i
          rw [show (4294967295 : Nat) = 2 ^ 32 - 1 from rfl, Nat.testBit_xor, Nat.testBit_two_pow_sub_one, show 2 ^ 32 - 1 - R = 2 ^ 32 - (R + 1) by omega, Nat.testBit_two_pow_sub_succ hR]
          by_cases hi : i < 32
          · simp [hi]
          · have : R.testBit i = false := Nat.testBit_lt_two_pow (Nat.lt_of_lt_of_le hR (Nat.pow_le_pow_right (n := 2) (by decide) (show 32 ≤ i by omega)))
            simp [hi, this]
        show _ = _
        rw [e1, e2]
        omega
      go_wp2
      go_ret
      exact ⟨congrArg (fun x => Ending.returned (Value.int .u32 x)) HE.out, rfl⟩
end Go.Proofs.YtpikdngccgdhiaaDoor

/-
  The document's answer: annalsref1's Bytes, Int; the law package's 'started'.
-/
namespace Go.Proofs.YtpikdngccgdhiaaDoor
open Go Go.RowKit
open Wb

set_option maxHeartbeats 400000 in
theorem rbytes_any (v : Value) (l : List Nat) (w : World) (h : Bs w v l) (hlen : l.length ≤ 140737488355000) :
    Calls Tryd.prog 52 #[v] w fun e w' => ∃ v', e = .returned v' ∧ Own w.heap.size w' v' (Wn.uint l.length ++ l) ∧ Below w.heap.size w w' := by
  have hin := info5
  have hob := h
  obtain ⟨ao, cap, rfl, hl, hmx, _, _⟩ := h.shape
  go_enter Tryd.func52, Tryd.ntmps52
  go_wp2_with fail
  refine (ruint_any l.length _ (by omega)).mono ?_
  rintro e w1 ⟨v1, rfl, ho, b1⟩
  have hul := Wn.uint_len10 l.length (by omega)
  generalize eU : Wn.uint l.length = U at ho hul
  have EU : Hid (Wn.uint l.length = U) := eU
  clear eU
  obtain ⟨ao1, cap1, rfl, _⟩ := ho.bs.shape
  have h1 := hob.kept b1
  have hsz := b1.size
  clear hob h
  go_wp2_with (at_builtin; refine wpList_append _ rfl (.tmp 8) (.tmp 9) 25 rfl w.heap.size hin Tryd.underlying25 _ U rfl ho _ l rfl h1 (by omega) hsz ?_)
  intro v2 w2 ho2 b2 _
  have R : Hid (Own w.heap.size w2 v2 (Wn.uint l.length ++ l) ∧ Below w.heap.size w w2) := ⟨by rw [EU.out]; exact ho2, b1.trans b2⟩
  clear ho2 b2 b1 ho h1
  go_wp2
  go_ret
  exact ⟨_, rfl, R.out.1, R.out.2⟩

end Go.Proofs.YtpikdngccgdhiaaDoor

/-
  The reference's Frame.
-/
namespace Go.Proofs.YtpikdngccgdhiaaDoor
open Go Go.RowKit Go.ChangeShapes Go.WideShapes
open Wb

theorem le4_take (S k : Nat) (hk : k < 4) : (le4 S).take (k + 1) = (le4 S).take k ++ [S / 256 ^ k % 256] := by
  match k, hk with
  | 0, _ => simp [le4]
  | 1, _ => simp [le4]
  | 2, _ => simp [le4]
  | 3, _ => simp [le4]

theorem rframe_bad (v : Value) (l : List Nat) (w : World) (h : Bs w v l) (er : Int) (he : (l.length = 0 ∧ er = 14) ∨ (1048576 < l.length ∧ er = 13)) :
    Calls Tryd.prog 35 #[v] w fun e w' => e = .returned (.tuple #[.slice none 0 0, .int .i64 er]) ∧ w = w' := by
  obtain ⟨ao, cap, rfl, _⟩ := h.shape
  clear h
  rcases he with ⟨h0, rfl⟩ | ⟨h1, rfl⟩
  · go_enter Tryd.func35, Tryd.ntmps35
    go_wp2
    go_ret2
    exact ⟨rfl, rfl⟩
  · have h0 : ¬ l.length = 0 := by omega
    go_enter Tryd.func35, Tryd.ntmps35
    go_wp2
    go_ret2
    exact ⟨rfl, rfl⟩
set_option maxRecDepth 100000 in
set_option maxHeartbeats 1000000 in
theorem rframe_ok (v : Value) (l : List Nat) (w : World) (h : Bs w v l) (h0 : 0 < l.length) (h1 : l.length ≤ 1048576) :
    Calls Tryd.prog 35 #[v] w fun e w' => ∃ v', e = .returned (.tuple #[v', .int .i64 0]) ∧ Own w.heap.size w' v' (fr l) ∧ Below w.heap.size w w' := by
  have hin := info5
  have hob := h
  obtain ⟨ao, cap, rfl, hl, hmx, _, _⟩ := h.shape
  clear h
  obtain ⟨L, hL⟩ : ∃ L, Wn.uint l.length ++ l = L := ⟨_, rfl⟩
  have HL : Hid (Wn.uint l.length ++ l = L) := hL
  have hLl : L.length ≤ 1048600 := by
    rw [← hL, List.length_append]
    have := Wn.uint_len10 l.length (by omega)
    omega
  obtain ⟨S, hS⟩ : ∃ S, Wm.crc L = S := ⟨_, rfl⟩
  have HSS : Hid (Wm.crc L = S) := hS
  have hSl : S < 4294967296 := by rw [← hS, ← hL]; exact Wm.crc_lt _ (ok_append (uint_okW _) hob.good)
  have HF : Hid (fr l = L ++ le4 S ++ [165]) := by show _ = _; rw [← hS, ← hL]; rfl
  clear hL hS
  generalize fr l = F at *
  go_enter Tryd.func35, Tryd.ntmps35
  have hz : ¬ l.length = 0 := by omega
  go_wp2_with fail
  refine (rbytes_any _ l _ hob (by omega)).mono ?_
  rw [HL.out]
  rintro e w1 ⟨v1, rfl, ho1, b1⟩
  obtain ⟨ao1, cap1, rfl, _⟩ := ho1.bs.shape
  clear hob
  go_wp2_with fail
  refine (rsum_any _ L _ ho1.bs).mono ?_
  rw [HSS.out]
  rintro e w2 ⟨rfl, rfl⟩
  go_wp2
  go_loopw [4, 5, 6] (fun o s i wr => ∃ k : Nat, k ≤ 4 ∧ i = .int .i64 (k : Int) ∧ s = .int .u32 ((S / 256 ^ k : Nat) : Int) ∧ Own w.heap.size wr o (L ++ (le4 S).take k) ∧ Below w.heap.size w wr) (fun _ _ i _ => 4 - (intOf i).toNat)
  case atStart => exact ⟨0, by omega, rfl, by simp, by simpa using ho1, b1⟩
  case round =>
    obtain ⟨k, hk, rfl, rfl, hown, hbel⟩ := hrel
    by_cases hlt : k < 4
    · have HO : Hid (∀ o, Own w.heap.size (wr.alloc o) u4 (L ++ (le4 S).take k)) := fun o => hown.alloc o
      have hLm : (L ++ (le4 S).take k).length ≤ 1048700 := by rw [List.length_append, List.length_take]; omega
      have HS : Hid (L ++ (le4 S).take (k + 1) = (L ++ (le4 S).take k) ++ [S / 256 ^ k % 256]) := by
        show _ = _
        rw [le4_take S k hlt, List.append_assoc]
      have HD : Hid (S / 256 ^ (k + 1) = S / 256 ^ k / 256) := by
        show _ = _
        rw [Nat.pow_succ, Nat.div_div_eq_div_mul]
      have hsz := hbel.size
      have hSk : S / 256 ^ k < 4294967296 := Nat.lt_of_le_of_lt (Nat.div_le_self _ _) hSl
      clear hown ho1
      generalize L ++ (le4 S).take k = m at *
      generalize S / 256 ^ k = T at *
      go_wp2_with (at_builtin; refine wpList_append _ rfl (.tmp 21) (.tmp 25) 25 rfl w.heap.size hin Tryd.underlying25 _ m rfl (HO.out _) _ [T % 256] rfl (Bs.one _ (T % 256) (by omega) _ (by omega)) (by simp; omega) (by simp; omega) ?_)
      intro v' w' ho' hb' _
      have R : Hid (Own w.heap.size w' v' (L ++ (le4 S).take (k + 1)) ∧ Below w.heap.size w w') := ⟨by rw [HS.out]; exact ho', (hbel.alloc hsz _).trans hb'⟩
      clear ho' hb' HO HS hbel
      go_wp2
      go_roundw
      case rel => exact ⟨k + 1, by omega, by go_num, by rw [HD.out]; go_num, R.out.1, R.out.2⟩
      case measure => simp [intOf]; omega
    · obtain rfl : k = 4 := by omega
      have e4 : (le4 S).take 4 = le4 S := rfl
      rw [e4] at hown
      have HO : Hid (∀ o, Own w.heap.size (wr.alloc o) u4 (L ++ le4 S)) := fun o => hown.alloc o
      have hLm : (L ++ le4 S).length ≤ 1048700 := by rw [List.length_append]; show L.length + 4 ≤ _; omega
      have hsz := hbel.size
      clear hown ho1 e4
      generalize L ++ le4 S = m at *
      go_wp2_with (at_builtin; refine wpList_append _ rfl (.tmp 29) (.tmp 30) 25 rfl w.heap.size hin Tryd.underlying25 _ m rfl (HO.out _) _ [165] rfl (Bs.one _ 165 (by decide) _ rfl) (by simp; omega) (by simp; omega) ?_)
      intro v' w' ho' hb' _
      have R : Hid (Own w.heap.size w' v' F ∧ Below w.heap.size w w') := ⟨by rw [HF.out]; exact ho', (hbel.alloc hsz _).trans hb'⟩
      clear ho' hb' HO hbel
      go_wp2
      go_ret2
      exact ⟨_, rfl, R.out.1, R.out.2⟩

end Go.Proofs.YtpikdngccgdhiaaDoor

/-
  The document's way of reading a number (from its last byte backwards), against the reading from its first on.
-/
namespace Go.Proofs.YtpikdngccgdhiaaDoor
namespace Wn

/-- the number that these bytes hold, lowest first -/
def val : List Nat → Nat
  | [] => 0
  | c :: r => c % 128 + 128 * val r
theorem val_snoc (l : List Nat) (c : Nat) : val (l ++ [c]) = val l + c % 128 * 2 ^ (7 * l.length) := by
  induction l with
  | nil => simp [val]
  | cons a r ih =>
    show a % 128 + 128 * val (r ++ [c]) = a % 128 + 128 * val r + c % 128 * 2 ^ (7 * (r.length + 1))
    rw [ih, pow_step, Nat.mul_add]
    have : c % 128 * (128 * 2 ^ (7 * r.length)) = 128 * (c % 128 * 2 ^ (7 * r.length)) := Nat.mul_left_comm _ _ _
    omega

theorem rd_pre : ∀ (n : Nat) (d : List Nat) (i acc : Nat), n ≤ d.length → i + n ≤ 9 → (∀ j (_ : j < n) (h2 : j < d.length), 128 ≤ d[j]) → rd d i acc = rd (d.drop n) (i + n) (acc + val (d.take n) * 2 ^ (7 * i))
  | 0, d, i, acc, _, _, _ => by simp [val]
  | n + 1, [], i, acc, h, _, _ => by simp at h
  | n + 1, c :: r, i, acc, h, hi, hb => by
    have hc : 128 ≤ c := hb 0 (by omega) (by simp)
    have hne : ¬ (i = 9 ∧ 1 < c) := by omega
    rw [rd, if_neg hne, if_pos hc, rd_pre n r (i + 1) _ (by simpa using h) (by omega) (fun j hj h2 => by
      have := hb (j + 1) (by omega) (by simpa using h2)
      simpa using this)]
    rw [List.drop_succ_cons, List.take_succ_cons, val, pow_step, show i + 1 + n = i + (n + 1) by omega, Nat.add_mul, Nat.add_assoc]
    have : val (r.take n) * (128 * 2 ^ (7 * i)) = 128 * val (r.take n) * 2 ^ (7 * i) := by rw [Nat.mul_left_comm, Nat.mul_assoc]
    rw [this]

/-- how the reading ends, behind n bytes that go on -/
theorem rd_short (d : List Nat) (n : Nat) (hn : n = d.length) (h9 : n ≤ 9) (hb : ∀ j (_ : j < n) (h2 : j < d.length), 128 ≤ d[j]) : rd d 0 0 = (0, 0, 10) := by
  rw [rd_pre n d 0 0 (by omega) (by omega) hb, hn, List.drop_length]
  rfl
theorem rd_lastb (d : List Nat) (n : Nat) (hn : n < d.length) (h9 : n ≤ 9) (hb : ∀ j (_ : j < n) (h2 : j < d.length), 128 ≤ d[j]) (hl : n = 9 ∨ d[n] < 128) :
    rd d 0 0 = if n = 9 ∧ 1 < d[n] then (0, 0, 12) else if d[n] = 0 ∧ 0 < n then (0, 0, 11) else (val (d.take (n + 1)), n + 1, 0) := by
  rw [rd_pre n d 0 0 (by omega) (by omega) hb, List.drop_eq_getElem_cons hn, rd, Nat.zero_add, Nat.zero_add, Nat.mul_zero, Nat.pow_zero, Nat.mul_one]
  by_cases h1 : n = 9 ∧ 1 < d[n]
  · rw [if_pos h1, if_pos h1]
  · have h2 : ¬ 128 ≤ d[n] := by omega
    rw [if_neg h1, if_neg h1, if_neg h2]
    by_cases h3 : d[n] = 0 ∧ 0 < n
    · rw [if_pos h3, if_pos h3]
    · rw [if_neg h3, if_neg h3, List.take_succ_eq_append_getElem hn, val_snoc, List.length_take, Nat.min_eq_left (by omega)]
end Wn
end Go.Proofs.YtpikdngccgdhiaaDoor

/-
  The document's answer: annalsref1's ReadUint.
-/
namespace Go.Proofs.YtpikdngccgdhiaaDoor
open Go Go.RowKit
open Wb

theorem getElem_drop' (l : List Nat) (q j : Nat) (h : j < (l.drop q).length) : (l.drop q)[j] = l[q + j]'(by rw [List.length_drop] at h; omega) := by simp
theorem val_lt : ∀ (l : List Nat) , Wn.val l < 2 ^ (7 * l.length)
  | [] => by simp [Wn.val]
  | c :: r => by
    have := val_lt r
    have h2 : c % 128 < 128 := Nat.mod_lt _ (by decide)
    show c % 128 + 128 * Wn.val r < 2 ^ (7 * (r.length + 1))
    rw [Wn.pow_step]
    omega
theorem val_drop_le : ∀ (l : List Nat) (m : Nat), Wn.val (l.drop m) ≤ Wn.val l
  | l, 0 => by simp
  | [], m + 1 => by simp
  | c :: r, m + 1 => by
    have := val_drop_le r m
    show Wn.val (r.drop m) ≤ c % 128 + 128 * Wn.val r
    omega
theorem val_step (l : List Nat) (m : Nat) (h : m < l.length) : Wn.val (l.drop m) = Wn.val (l.drop (m + 1)) * 128 + l[m] % 128 := by
  rw [List.drop_eq_getElem_cons h]
  show l[m] % 128 + 128 * Wn.val (l.drop (m + 1)) = _
  omega
theorem val_fits (l : List Nat) (n : Nat) (hn : n < l.length) (h9 : n ≤ 9) (hl : n = 9 → l[n] ≤ 1) : Wn.val (l.take (n + 1)) < 18446744073709551616 := by
  by_cases h : n = 9
  · rw [List.take_succ_eq_append_getElem hn, Wn.val_snoc]
    have h1 := val_lt (l.take n)
    have hlen : (l.take n).length = n := by rw [List.length_take]; omega
    rw [hlen] at h1 ⊢
    have h2 := hl h
    subst h
    have h3 : l[9] % 128 ≤ 1 := Nat.le_trans (Nat.mod_le _ _) h2
    have h4 : l[9] % 128 * 2 ^ (7 * 9) ≤ 1 * 2 ^ (7 * 9) := Nat.mul_le_mul_right _ h3
    have e : (2 : Nat) ^ (7 * 9) = 9223372036854775808 := by decide
    omega
  · have h1 := val_lt (l.take (n + 1))
    have hlen : (l.take (n + 1)).length = n + 1 := by rw [List.length_take]; omega
    rw [hlen] at h1
    have h2 : (2 : Nat) ^ (7 * (n + 1)) ≤ 2 ^ 63 := Nat.pow_le_pow_right (by decide) (by omega)
    have e : (2 : Nat) ^ 63 = 9223372036854775808 := by decide
    omega
theorem ru_at (l : List Nat) (q : Nat) (hq : q ≤ l.length) : Wn.ru l (q : Int) = ((Wn.rd (l.drop q) 0 0).1, (if (Wn.rd (l.drop q) 0 0).2.2 = 0 then (q : Int) + ((Wn.rd (l.drop q) 0 0).2.1 : Int) else 0), (Wn.rd (l.drop q) 0 0).2.2) := by
  unfold Wn.ru
  rw [if_neg (by omega), Int.toNat_natCast]

set_option maxRecDepth 20000 in
set_option maxHeartbeats 2000000 in
theorem rru_any (v : Value) (l : List Nat) (p : Int) (w : World) (h : Bs w v l) (hlen : l.length ≤ 140737488355328) :
    Calls Tryd.prog 54 #[v, .int .i64 p] w fun e w' => e = .returned (tup3 (Wn.ru l p).1 (Wn.ru l p).2.1 (Wn.ru l p).2.2) ∧ w = w' := by
  have hg := h.good
  obtain ⟨ao, cap, rfl, hl, hm, hn, hc⟩ := h.shape
  by_cases ho : p < 0 ∨ (l.length : Int) < p
  · rw [Wn.ru_out l p ho]
    unfold tup3
    clear hc hn
    rcases ho with ho | ho
    · go_enter Tryd.func54, Tryd.ntmps54
      go_wp2
      go_ret3
      exact ⟨rfl, rfl⟩
    · have hp0 : ¬ p < 0 := by omega
      go_enter Tryd.func54, Tryd.ntmps54
      go_wp2
      go_ret3
      exact ⟨rfl, rfl⟩
  · obtain ⟨q, rfl⟩ := Int.eq_ofNat_of_zero_le (show 0 ≤ p by omega)
    have hq : q ≤ l.length := by omega
    clear ho
    obtain ⟨V, hV⟩ : ∃ V, V = (Wn.ru l (q : Int)).1 := ⟨_, rfl⟩
    obtain ⟨E, hE⟩ : ∃ E, E = (Wn.ru l (q : Int)).2.1 := ⟨_, rfl⟩
    obtain ⟨N, hN⟩ : ∃ N, N = (Wn.ru l (q : Int)).2.2 := ⟨_, rfl⟩
    rw [← hV, ← hE, ← hN]
    have HS : Hid (V = (Wn.ru l (q : Int)).1 ∧ E = (Wn.ru l (q : Int)).2.1 ∧ N = (Wn.ru l (q : Int)).2.2) := ⟨hV, hE, hN⟩
    clear hV hE hN
    unfold tup3
    go_enter Tryd.func54, Tryd.ntmps54
    go_wp2
    go_loop [7] (fun x => ∃ n : Nat, n ≤ 9 ∧ q + n ≤ l.length ∧ x = .int .i64 (n : Int) ∧ ∀ j (_ : j < n) (h2 : q + j < l.length), 128 ≤ l[q + j]) (fun x => 9 - (intOf x).toNat)
    case atStart => exact ⟨0, by omega, by omega, rfl, fun j hj => absurd hj (Nat.not_lt_zero _)⟩
    case round =>
      obtain ⟨n, hn9, hql, rfl, hbig⟩ := hrel
      have HB : Hid (∀ j (_ : j < n) (h2 : q + j < l.length), 128 ≤ l[q + j]) := hbig
      clear hbig
      by_cases he : q + n = l.length
      · have HR : Hid (V = 0 ∧ E = 0 ∧ N = 10) := by
          have h1 := Wn.rd_short (l.drop q) n (by rw [List.length_drop]; omega) hn9 (fun j hj h2 => by rw [getElem_drop']; exact HB.out j hj _)
          have h3 := HS.out
          rw [ru_at l q hq, h1] at h3
          exact ⟨h3.1, h3.2.1, h3.2.2⟩
        obtain ⟨rfl, rfl, rfl⟩ := HR.out
        clear HS HB hc HR
        by_cases h9 : n = 9
        · subst h9
          go_wp2
          go_ret3
          exact ⟨rfl, rfl⟩
        · go_wp2
          go_ret3
          exact ⟨rfl, rfl⟩
      · have hlt : q + n < l.length := by omega
        obtain ⟨b, off, rfl, hcell⟩ := hc (List.ne_nil_of_length_pos (by omega))
        have hck := hcell (q + n) hlt
        have h256 := ok_get hg (q + n) hlt
        have HC : Hid (∀ j (h : j < l.length), w.cell? ⟨b, off + j, none⟩ = some (.int .u8 (l[j] : Int)) ∧ l[j] < 256) := fun j h => ⟨hcell j h, ok_get hg j h⟩
        clear hc hcell hg h
        by_cases hgo : n < 9 ∧ 128 ≤ l[q + n]
        · have HB2 : Hid (∀ j (_ : j < n + 1) (h2 : q + j < l.length), 128 ≤ l[q + j]) := fun j hj h2 => by
            rcases Nat.lt_succ_iff_lt_or_eq.1 hj with h | h
            · exact HB.out j h h2
            · subst h
              exact hgo.2
          obtain ⟨hg9, hgc⟩ := hgo
          clear HB HS HC
          generalize l[q + n] = c at *
          go_wp2
          go_round
          case rel => exact ⟨n + 1, by omega, by omega, by go_num, HB2.out⟩
          case measure => simp [intOf]; omega
        · have HL : Hid (Wn.rd (l.drop q) 0 0 = if n = 9 ∧ 1 < l[q + n] then (0, 0, 12) else if l[q + n] = 0 ∧ 0 < n then (0, 0, 11) else (Wn.val ((l.drop q).take (n + 1)), n + 1, 0)) := by
            have h1 := Wn.rd_lastb (l.drop q) n (by rw [List.length_drop]; omega) hn9 (fun j hj h2 => by rw [getElem_drop']; exact HB.out j hj _) (by rw [getElem_drop']; omega)
            rw [getElem_drop'] at h1
            exact h1
          clear HB
          have hlast : n = 9 ∨ l[q + n] < 128 := by omega
          by_cases hA : n = 9 ∧ 1 < l[q + n]
          · have HR : Hid (V = 0 ∧ E = 0 ∧ N = 12) := by
              have h3 := HS.out
              rw [ru_at l q hq, HL.out, if_pos hA] at h3
              exact ⟨h3.1, h3.2.1, h3.2.2⟩
            obtain ⟨rfl, rfl, rfl⟩ := HR.out
            obtain ⟨rfl, hA2⟩ := hA
            clear HS HL HC HR hgo hlast
            generalize l[q + 9] = c at *
            go_wp2
            go_ret3
            exact ⟨rfl, rfl⟩
          · by_cases hB : l[q + n] = 0 ∧ 0 < n
            · have HR : Hid (V = 0 ∧ E = 0 ∧ N = 11) := by
                have h3 := HS.out
                rw [ru_at l q hq, HL.out, if_neg hA, if_pos hB] at h3
                exact ⟨h3.1, h3.2.1, h3.2.2⟩
              obtain ⟨rfl, rfl, rfl⟩ := HR.out
              obtain ⟨hB1, hB2⟩ := hB
              clear HS HL HC HR hgo hlast hA
              generalize l[q + n] = c at *
              subst hB1
              by_cases h9 : n = 9
              · subst h9
                go_wp2
                go_ret3
                exact ⟨rfl, rfl⟩
              · go_wp2
                go_ret3
                exact ⟨rfl, rfl⟩
            · obtain ⟨T, hT⟩ : ∃ T, T = (l.drop q).take (n + 1) := ⟨_, rfl⟩
              have HR : Hid (V = Wn.val T ∧ E = (q : Int) + ((n + 1 : Nat) : Int) ∧ N = 0) := by
                have h3 := HS.out
                rw [ru_at l q hq, HL.out, if_neg hA, if_neg hB] at h3
                rw [hT]
                exact ⟨h3.1, h3.2.1, h3.2.2⟩
              have HV : Hid (V = Wn.val T) := HR.out.1
              have hE2 : E = (q : Int) + (n : Int) + 1 := by have := HR.out.2.1; omega
              obtain rfl := HR.out.2.2
              subst hE2
              have HT : Hid (T.length = n + 1 ∧ ∀ m (h1 : m < T.length) (h2 : q + m < l.length), T[m] = l[q + m]) := by
                subst hT
                refine ⟨by rw [List.length_take, List.length_drop]; omega, fun m h1 h2 => ?_⟩
                simp
              have HF : Hid (Wn.val T < 18446744073709551616) := by
                rw [hT]
                exact val_fits (l.drop q) n (by rw [List.length_drop]; omega) hn9 (fun e => by rw [getElem_drop']; omega)
              have HZ : Hid (Wn.val (T.drop (n + 1)) = 0) := by
                show _ = _
                rw [List.drop_eq_nil_of_le (by rw [HT.out.1]; exact Nat.le_refl _)]
                rfl
              clear HS HL HR hgo hT
              have hcz : ¬ (l[q + n] = 0 ∧ 0 < n) := hB
              have hcA : ¬ (n = 9 ∧ 1 < l[q + n]) := hA
              clear hA hB
              generalize l[q + n] = c at *
              by_cases h9 : n = 9
              · subst h9
                have hc1 : ¬ (1 : Int) < (c : Int) := by omega
                have hc0 : ¬ c = 0 := by omega
                clear hcz hcA hlast
                go_wp2
                go_loop [9, 10] (fun x i => ∃ m : Nat, m ≤ 9 + 1 ∧ i = .int .i64 ((m : Int) - 1) ∧ x = .int .u64 ((Wn.val (T.drop m) : Nat) : Int)) (fun _ i => (intOf i + 1).toNat)
                case atStart => exact ⟨9 + 1, Nat.le_refl _, by go_num, by rw [HZ.out]; rfl⟩
                case round =>
                  obtain ⟨m, hmn, rfl, rfl⟩ := hrel
                  by_cases hm0 : m = 0
                  · subst hm0
                    have HV0 : Hid (Wn.val (T.drop 0) = V) := by show _ = _; rw [List.drop_zero]; exact HV.out.symm
                    generalize Wn.val (T.drop 0) = X at *
                    obtain rfl : X = V := HV0.out
                    go_wp2
                    go_ret3
                    exact ⟨rfl, rfl⟩
                  · obtain ⟨k, rfl⟩ : ∃ k, m = k + 1 := ⟨m - 1, by omega⟩
                    obtain ⟨hck2, hc256⟩ := HC.out (q + k) (by omega)
                    have HST : Hid (Wn.val (T.drop k) = Wn.val (T.drop (k + 1)) * 128 + l[q + k]'(by omega) % 128) := by
                      have h1 := val_step T k (by rw [HT.out.1]; omega)
                      rw [HT.out.2 k _ _] at h1
                      exact h1
                    have hbd : Wn.val (T.drop (k + 1)) * 128 + l[q + k]'(by omega) % 128 < 18446744073709551616 := by
                      rw [← HST.out]
                      exact Nat.lt_of_le_of_lt (val_drop_le T k) HF.out
                    generalize l[q + k]'(by omega) = c2 at *
                    generalize Wn.val (T.drop (k + 1)) = X at *
                    have hX : X * 128 < 18446744073709551616 := by omega
                    go_wp2
                    go_round
                    case rel => exact ⟨k, by omega, by go_num, by rw [HST.out]; go_num⟩
                    case measure => simp [intOf] <;> omega
              · have hc128 : c < 128 := by omega
                by_cases hn0 : n = 0
                · subst hn0
                  clear hcz hcA hlast h9
                  simp only [Nat.add_zero] at hck
                  go_wp2
                  go_loop [9, 10] (fun x i => ∃ m : Nat, m ≤ 0 + 1 ∧ i = .int .i64 ((m : Int) - 1) ∧ x = .int .u64 ((Wn.val (T.drop m) : Nat) : Int)) (fun _ i => (intOf i + 1).toNat)
                  case atStart => exact ⟨0 + 1, Nat.le_refl _, by go_num, by rw [HZ.out]; rfl⟩
                  case round =>
                    obtain ⟨m, hmn, rfl, rfl⟩ := hrel
                    by_cases hm0 : m = 0
                    · subst hm0
                      have HV0 : Hid (Wn.val (T.drop 0) = V) := by show _ = _; rw [List.drop_zero]; exact HV.out.symm
                      generalize Wn.val (T.drop 0) = X at *
                      obtain rfl : X = V := HV0.out
                      go_wp2
                      go_ret3
                      exact ⟨rfl, rfl⟩
                    · obtain ⟨k, rfl⟩ : ∃ k, m = k + 1 := ⟨m - 1, by omega⟩
                      obtain ⟨hck2, hc256⟩ := HC.out (q + k) (by omega)
                      have HST : Hid (Wn.val (T.drop k) = Wn.val (T.drop (k + 1)) * 128 + l[q + k]'(by omega) % 128) := by
                        have h1 := val_step T k (by rw [HT.out.1]; omega)
                        rw [HT.out.2 k _ _] at h1
                        exact h1
                      have hbd : Wn.val (T.drop (k + 1)) * 128 + l[q + k]'(by omega) % 128 < 18446744073709551616 := by
                        rw [← HST.out]
                        exact Nat.lt_of_le_of_lt (val_drop_le T k) HF.out
                      generalize l[q + k]'(by omega) = c2 at *
                      generalize Wn.val (T.drop (k + 1)) = X at *
                      have hX : X * 128 < 18446744073709551616 := by omega
                      go_wp2
                      go_round
                      case rel => exact ⟨k, by omega, by go_num, by rw [HST.out]; go_num⟩
                      case measure => simp [intOf] <;> omega
                · have hc0 : ¬ c = 0 := by omega
                  clear hcz hcA hlast
                  go_wp2
                  go_loop [9, 10] (fun x i => ∃ m : Nat, m ≤ n + 1 ∧ i = .int .i64 ((m : Int) - 1) ∧ x = .int .u64 ((Wn.val (T.drop m) : Nat) : Int)) (fun _ i => (intOf i + 1).toNat)
                  case atStart => exact ⟨n + 1, Nat.le_refl _, by go_num, by rw [HZ.out]; rfl⟩
                  case round =>
                    obtain ⟨m, hmn, rfl, rfl⟩ := hrel
                    by_cases hm0 : m = 0
                    · subst hm0
                      have HV0 : Hid (Wn.val (T.drop 0) = V) := by show _ = _; rw [List.drop_zero]; exact HV.out.symm
                      generalize Wn.val (T.drop 0) = X at *
                      obtain rfl : X = V := HV0.out
                      go_wp2
                      go_ret3
                      exact ⟨rfl, rfl⟩
                    · obtain ⟨k, rfl⟩ : ∃ k, m = k + 1 := ⟨m - 1, by omega⟩
                      obtain ⟨hck2, hc256⟩ := HC.out (q + k) (by omega)
                      have HST : Hid (Wn.val (T.drop k) = Wn.val (T.drop (k + 1)) * 128 + l[q + k]'(by omega) % 128) := by
                        have h1 := val_step T k (by rw [HT.out.1]; omega)
                        rw [HT.out.2 k _ _] at h1
                        exact h1
                      have hbd : Wn.val (T.drop (k + 1)) * 128 + l[q + k]'(by omega) % 128 < 18446744073709551616 := by
                        rw [← HST.out]
                        exact Nat.lt_of_le_of_lt (val_drop_le T k) HF.out
                      generalize l[q + k]'(by omega) = c2 at *
                      generalize Wn.val (T.drop (k + 1)) = X at *
                      have hX : X * 128 < 18446744073709551616 := by omega
                      go_wp2
                      go_round
                      case rel => exact ⟨k, by omega, by go_num, by rw [HST.out]; go_num⟩
                      case measure => simp [intOf] <;> omega
end Go.Proofs.YtpikdngccgdhiaaDoor

/-
  The reference's ReadFrame in manifest's seat: what Frx lacks of Frms.
-/
namespace Go.Proofs.YtpikdngccgdhiaaDoor
open Go Go.RowKit Go.ChangeShapes Go.WideShapes
open Wb

set_option maxHeartbeats 1000000 in
theorem rsame_any (vb vw : Value) (b x : List Nat) (q : Nat) (w : World) (hb : Bs w vb b) (hx : Bs w vw x) (hq : q + x.length ≤ b.length) (hlen : b.length ≤ 140737488355328) :
    Calls Tryd.prog 56 #[vb, .int .i64 (q : Int), vw] w fun e w' => e = .returned (.bool (decide ((b.drop q).take x.length = x))) ∧ Below w.heap.size w w' := by
  obtain ⟨aob, capb, rfl, hlb, hmb, hnb, hcb⟩ := hb.shape
  obtain ⟨aox, capx, rfl, hlx, hmx, hnx, hcx⟩ := hx.shape
  clear hb hx hnb hnx
  go_enter Tryd.func56, Tryd.ntmps56
  go_wp2
  go_loopw [7] (fun i wr => ∃ k : Nat, k ≤ x.length ∧ i = .int .i64 (k : Int) ∧ (b.drop q).take k = x.take k ∧ Below w.heap.size w wr) (fun i _ => x.length - (intOf i).toNat)
  case atStart => exact ⟨0, Nat.zero_le _, rfl, by simp, Below.refl _ _⟩
  case round =>
    obtain ⟨k, hk, rfl, heq, hbel⟩ := hrel
    have HQ : Hid ((b.drop q).take k = x.take k) := heq
    clear heq
    by_cases hlt : k < x.length
    · have hlt' : q + k < b.length := by omega
      obtain ⟨b1, off1, rfl, hcell1⟩ := hcb (List.ne_nil_of_length_pos (by omega))
      obtain ⟨b2, off2, rfl, hcell2⟩ := hcx (List.ne_nil_of_length_pos (by omega))
      have q1 := (hbel.cell (p := ⟨b1, off1 + (q + k), none⟩) (World.block_lt_of_cell? _ _ (hcell1 (q + k) hlt'))).trans (hcell1 (q + k) hlt')
      have q2 := (hbel.cell (p := ⟨b2, off2 + k, none⟩) (World.block_lt_of_cell? _ _ (hcell2 k hlt))).trans (hcell2 k hlt)
      clear hcb hcx hcell1 hcell2
      have hgd : (b.drop q)[k]'(by rw [List.length_drop]; omega) = b[q + k] := by simp
      by_cases hxy : b[q + k] = x[k]
      · have HS : Hid ((b.drop q).take (k + 1) = x.take (k + 1)) := by
          show _ = _
          rw [List.take_succ_eq_append_getElem (by rw [List.length_drop]; omega), List.take_succ_eq_append_getElem hlt, HQ.out, hgd, hxy]
        rw [hxy] at q1
        generalize x[k] = y at *
        have d1 : ((y : Int) != (y : Int)) = false := by simp
        clear hxy hgd
        go_wp2
        go_quiet (fail)
        go_wp2
        go_roundw
        case rel => exact ⟨k + 1, by omega, by go_num, HS.out, below_drewN hbel _⟩
        case measure => simp [intOf]; omega
      · have HN : Hid (¬ (b.drop q).take x.length = x) := by
          intro e
          have := congrArg (fun t : List Nat => t[k]?) e
          simp only [List.getElem?_take, hlt, if_true, List.getElem?_eq_getElem hlt] at this
          rw [List.getElem?_eq_getElem (by rw [List.length_drop]; omega), hgd] at this
          exact hxy (Option.some.inj this)
        have d1 : ((b[q + k] : Int) != (x[k] : Int)) = true := by rw [bne_iff_ne]; omega
        clear hgd
        generalize b[q + k] = y at *
        generalize x[k] = z at *
        clear hxy
        go_wp2
        go_quiet (fail)
        go_wp2
        go_ret
        exact ⟨by rw [decide_eq_false HN.out]; rfl, below_drewN hbel _⟩
    · have HE : Hid ((b.drop q).take x.length = x) := by
        have h := HQ.out
        obtain rfl : k = x.length := by omega
        rw [List.take_of_length_le (Nat.le_refl _)] at h
        exact h
      go_wp2
      go_ret
      exact ⟨by rw [decide_eq_true HE.out]; rfl, hbel⟩

theorem drop_take4 (m : List Nat) (h : 4 ≤ m.length) (hok : ok m) : m.take 4 = le4 (sum4 m) ∧ sum4 m < 4294967296 := by
  match m, h with
  | a :: b :: c :: d :: r, _ =>
    have ha : a < 256 := hok a (by simp)
    have hb : b < 256 := hok b (by simp)
    have hc : c < 256 := hok c (by simp)
    have hd : d < 256 := hok d (by simp)
    simp only [le4, sum4, List.take, List.getD_cons_zero, List.getD_cons_succ]
    refine ⟨?_, by omega⟩
    congr 1
    · omega
    congr 1
    · omega
    congr 1
    · omega
    congr 1
    omega
theorem le4_inj (a b : Nat) (ha : a < 4294967296) (hb : b < 4294967296) (h : le4 a = le4 b) : a = b := by
  simp only [le4, List.cons.injEq, and_true] at h
  omega
/-- the reference writes the frame anew and holds it against what stands there; the program reads the sum: it is one -/
theorem frame_there (l : List Nat) (q t x : Nat) (hok : ok l) (hqt : q ≤ t) (hu : (l.take t).drop q = Wn.uint x) (hx : 0 < x) (hl : t + x + 5 ≤ l.length) (hmark : l.getD (t + x + 4) 0 = 165) :
    ((l.drop q).take (fr ((l.take (t + x)).drop t)).length = fr ((l.take (t + x)).drop t)) ↔ sum4 (l.drop (t + x)) = Wm.crc ((l.take (t + x)).drop q) := by
  obtain ⟨B, hB⟩ : ∃ B, (l.take (t + x)).drop t = B := ⟨_, rfl⟩
  have hBl : B.length = x := by rw [← hB]; simp; omega
  have hU : (Wn.uint x).length = t - q := by rw [← hu]; simp; omega
  have e1 : (l.take (t + x)).drop q = Wn.uint x ++ B := by
    rw [← hu, ← hB]
    have a1 : l.take (t + x) = l.take t ++ (l.take (t + x)).drop t := by
      have := (List.take_append_drop t (l.take (t + x))).symm
      rwa [List.take_take, Nat.min_eq_left (by omega)] at this
    have a2 : ((l.take t).drop q) ++ ((l.take (t + x)).drop t) = (l.take t ++ (l.take (t + x)).drop t).drop q := by
      rw [List.drop_append_of_le_length (by simp; omega)]
    rw [a2, ← a1]
  have hfl : (fr B).length = t - q + x + 5 := by rw [fr_length, hBl, hU]
  have e2 : (l.drop q).take (t - q + x + 5) = Wn.uint x ++ B ++ (l.drop (t + x)).take 4 ++ [165] := by
    rw [← e1]
    have c1 : (l.drop q).take (t - q + x + 5) = (l.take (t + x + 5)).drop q := by
      rw [List.drop_take]
      congr 1
      omega
    have c2 : l.take (t + x + 5) = l.take (t + x) ++ (l.drop (t + x)).take 5 := by rw [List.take_add]
    have c3 : (l.drop (t + x)).take 5 = (l.drop (t + x)).take 4 ++ [165] := by
      rw [List.take_succ_eq_append_getElem (by rw [List.length_drop]; omega)]
      congr 2
      rw [List.getElem_drop]
      rw [List.getD_eq_getElem?_getD, List.getElem?_eq_getElem (by omega)] at hmark
      exact hmark
    rw [c1, c2, c3, List.drop_append_of_le_length (by simp; omega), List.append_assoc]
  obtain ⟨d1, d2⟩ := drop_take4 (l.drop (t + x)) (by rw [List.length_drop]; omega) (ok_drop hok _)
  have hcr : Wm.crc (Wn.uint x ++ B) < 4294967296 := Wm.crc_lt _ (by rw [← e1]; exact ok_drop (ok_take hok _) _)
  rw [hB, hfl, e2, e1, d1]
  unfold fr
  rw [hBl]
  constructor
  · intro h
    have h1 := List.append_cancel_right h
    have h2 := List.append_cancel_left h1
    exact le4_inj _ _ d2 hcr h2
  · intro h
    rw [h]
end Go.Proofs.YtpikdngccgdhiaaDoor

/-
  The reference's ReadFrame.
-/
namespace Go.Proofs.YtpikdngccgdhiaaDoor
open Go Go.RowKit Go.ChangeShapes Go.WideShapes
open Wb

set_option maxHeartbeats 2000000 in
theorem rrf_any (v : Value) (l : List Nat) (p : Int) (w : World) (h : Bs w v l) (hlen : l.length ≤ 140737488355328) :
    Calls Tryd.prog 36 #[v, .int .i64 p] w fun e w' => ∃ v', e = .returned (.tuple #[v', .int .i64 (rf l p).2.1, .int .i64 ((rf l p).2.2 : Int)]) ∧ Own w.heap.size w' v' (rf l p).1 ∧ Below w.heap.size w w' := by
  have hru := rru_any v l p w h hlen
  unfold tup3 at hru
  rcases Wn.ru_cases l p with ⟨e, he, he2, hr⟩ | ⟨q, x, n, rfl, hq, hn, hrd, hr⟩
  · rw [rf_err l p e he hr]
    rw [hr] at hru
    have HRU : Hid (Calls Tryd.prog 54 #[v, .int .i64 p] w fun e' w' => e' = .returned (.tuple #[.int .u64 ((0 : Nat) : Int), .int .i64 0, .int .i64 (e : Int)]) ∧ w = w') := hru
    have d0 : ((e : Int) != 0) = true := by rw [bne_iff_ne]; omega
    clear hru hr
    go_enter Tryd.func36, Tryd.ntmps36
    go_wp2_with fail
    refine HRU.out.mono ?_
    rintro e w1 ⟨rfl, rfl⟩
    clear HRU
    go_wp2
    go_ret3
    exact ⟨_, rfl, Own.nil _ _, Below.refl _ _⟩
  · rw [rf_at l q x n hr]
    rw [hr] at hru
    obtain ⟨hn2, hu, hx64⟩ := rd_back0 _ _ _ (ok_drop h.good q) hrd
    have hu2 : (l.take (q + n)).drop q = Wn.uint x := by
      rw [List.drop_take, show q + n - q = n by omega]
      exact hu
    generalize hq' : q + n = t at *
    have hqt : q < t := by omega
    have HRU : Hid (Calls Tryd.prog 54 #[v, .int .i64 (q : Int)] w fun e' w' => e' = .returned (.tuple #[.int .u64 (x : Int), .int .i64 (t : Int), .int .i64 ((0 : Nat) : Int)]) ∧ w = w') := hru
    have hok := h.good
    obtain ⟨b, off, cap, rfl, hcap, hmx, hcell⟩ : ∃ b off cap, v = .slice (some ⟨b, off, none⟩) l.length cap ∧ l.length ≤ cap ∧ cap ≤ maxLen ∧ ∀ j (h : j < l.length), w.cell? ⟨b, off + j, none⟩ = some (.int .u8 (l[j] : Int)) := by
      rcases h.cases with ⟨rfl, _⟩ | ⟨_, b, off, cap, h1, h2, h3, h4⟩
      · simp at hq; omega
      · exact ⟨b, off, cap, h1, h2, h3, h4⟩
    clear hru hr hrd hu hn2 hq' hn
    unfold maxLen at hmx
    unfold rfAt
    by_cases c0 : x = 0
    · subst c0
      rw [if_pos rfl]
      clear h hcell hu2
      go_enter Tryd.func36, Tryd.ntmps36
      go_wp2_with fail
      refine HRU.out.mono ?_
      rintro e w1 ⟨rfl, rfl⟩
      clear HRU
      go_wp2
      go_ret3
      exact ⟨_, rfl, Own.nil _ _, Below.refl _ _⟩
    rw [if_neg c0]
    by_cases c1 : 1048576 < x
    · rw [if_pos c1]
      clear h hcell hu2
      go_enter Tryd.func36, Tryd.ntmps36
      go_wp2_with fail
      refine HRU.out.mono ?_
      rintro e w1 ⟨rfl, rfl⟩
      clear HRU
      go_wp2
      go_ret3
      exact ⟨_, rfl, Own.nil _ _, Below.refl _ _⟩
    rw [if_neg c1]
    by_cases c2 : l.length < t + x + 5
    · rw [if_pos c2]
      clear h hcell hu2
      go_enter Tryd.func36, Tryd.ntmps36
      go_wp2_with fail
      refine HRU.out.mono ?_
      rintro e w1 ⟨rfl, rfl⟩
      clear HRU
      go_wp2
      go_ret3
      exact ⟨_, rfl, Own.nil _ _, Below.refl _ _⟩
    rw [if_neg c2]
    have hm5 : t + x + 4 < l.length := by omega
    have hcm := hcell (t + x + 4) hm5
    have hgd : l.getD (t + x + 4) 0 = l[t + x + 4] := by rw [List.getD_eq_getElem?_getD, List.getElem?_eq_getElem hm5]; rfl
    rw [hgd]
    by_cases c3 : l[t + x + 4] = 165
    · rw [if_neg (by simpa using c3)]
      have HW := frame_there l q t x hok (by omega) hu2 (by omega) (by omega) (by rw [hgd]; exact c3)
      rw [c3] at hcm
      have HB : Hid (∀ w', Below w.heap.size w w' → Bs w' (.slice (some ⟨b, off, none⟩) l.length cap) l) := fun w' hb => h.kept hb
      have hYl : ((l.take (t + x)).drop t).length = x := by simp; omega
      have HP : Hid (∀ z : Int, z = ((t + x : Nat) : Int) → Calls Tryd.prog 55 #[.slice (some ⟨b, off, none⟩) l.length cap, .int .i64 (t : Int), .int .i64 z] w fun e w' => ∃ v', e = .returned v' ∧ Own w.heap.size w' v' ((l.take (t + x)).drop t) ∧ Below w.heap.size w w') := by
        rintro z rfl
        exact rpart_any _ l t (t + x) w h hlen (by omega) (by omega)
      generalize hY : (l.take (t + x)).drop t = Y at *
      have hFl : (fr Y).length = (Wn.uint x).length + x + 5 := by rw [fr_length, hYl]
      have hUl : (Wn.uint x).length = t - q := by rw [← hu2]; simp; omega
      have hFq : q + (fr Y).length ≤ l.length := by omega
      have HWW : Hid (((l.drop q).take (fr Y).length = fr Y) ↔ sum4 (l.drop (t + x)) = Wm.crc ((l.take (t + x)).drop q)) := HW
      have HYL : Hid (Y.length = x) := hYl
      clear h hcell hu2 HW hgd c3 hY hUl hFl hYl
      have c4 : ((165 : Int) != 165) = false := by decide
      by_cases c5 : sum4 (l.drop (t + x)) = Wm.crc ((l.take (t + x)).drop q)
      · rw [if_neg (fun h => h c5)]
        have HD : Hid (decide ((l.drop q).take (fr Y).length = fr Y) = true) := decide_eq_true (HWW.out.2 c5)
        generalize hF : fr Y = F at *
        have HF : Hid (fr Y = F) := hF
        clear hF HWW c5
        go_enter Tryd.func36, Tryd.ntmps36
        go_wp2_with fail
        refine HRU.out.mono ?_
        rintro e w1 ⟨rfl, rfl⟩
        clear HRU
        go_wp2_with fail
        refine (HP.out _ (by omega)).mono ?_
        rintro e w9 ⟨v9, rfl, ho9, b9⟩
        obtain ⟨ao9, cap9, rfl, _⟩ := ho9.bs.shape
        clear HP hcm
        go_wp2_with fail
        refine (rframe_ok _ Y _ ho9.bs (by have := HYL.out; omega) (by have := HYL.out; omega)).mono ?_
        rw [HF.out]
        rintro e w10 ⟨v10, rfl, ho10, b10⟩
        obtain ⟨ao10, cap10, rfl, _⟩ := ho10.bs.shape
        have B10 := andThen b9 b10
        have ho9' := ho9.kept b10
        clear b9 b10 ho9
        go_wp2_with fail
        refine (rsame_any _ _ l F q _ (HB.out _ B10) ho10.bs hFq hlen).mono ?_
        rw [HD.out]
        rintro e w11 ⟨rfl, b11⟩
        have B11 := andThen B10 b11
        have ho9 := ho9'.kept b11
        clear b11 B10 ho9' HB ho10
        go_wp2
        go_ret3
        exact ⟨_, rfl, ho9, B11⟩
      · rw [if_pos c5]
        have HD : Hid (decide ((l.drop q).take (fr Y).length = fr Y) = false) := decide_eq_false (fun e => c5 (HWW.out.1 e))
        generalize hF : fr Y = F at *
        have HF : Hid (fr Y = F) := hF
        clear hF HWW c5
        go_enter Tryd.func36, Tryd.ntmps36
        go_wp2_with fail
        refine HRU.out.mono ?_
        rintro e w1 ⟨rfl, rfl⟩
        clear HRU
        go_wp2_with fail
        refine (HP.out _ (by omega)).mono ?_
        rintro e w9 ⟨v9, rfl, ho9, b9⟩
        obtain ⟨ao9, cap9, rfl, _⟩ := ho9.bs.shape
        clear HP hcm
        go_wp2_with fail
        refine (rframe_ok _ Y _ ho9.bs (by have := HYL.out; omega) (by have := HYL.out; omega)).mono ?_
        rw [HF.out]
        rintro e w10 ⟨v10, rfl, ho10, b10⟩
        obtain ⟨ao10, cap10, rfl, _⟩ := ho10.bs.shape
        have B10 := andThen b9 b10
        have ho9' := ho9.kept b10
        clear b9 b10 ho9
        go_wp2_with fail
        refine (rsame_any _ _ l F q _ (HB.out _ B10) ho10.bs hFq hlen).mono ?_
        rw [HD.out]
        rintro e w11 ⟨rfl, b11⟩
        have B11 := andThen B10 b11
        have ho9 := ho9'.kept b11
        clear b11 B10 ho9' HB ho10
        go_wp2
        go_ret3
        exact ⟨_, rfl, Own.nil _ _, B11⟩
    · rw [if_pos (by simpa using c3)]
      have c4 : ((l[t + x + 4] : Int) != 165) = true := by rw [bne_iff_ne]; omega
      generalize l[t + x + 4] = y at *
      clear h hcell hu2 hgd c3
      go_enter Tryd.func36, Tryd.ntmps36
      go_wp2_with fail
      refine HRU.out.mono ?_
      rintro e w1 ⟨rfl, rfl⟩
      clear HRU
      go_wp2
      go_ret3
      exact ⟨_, rfl, Own.nil _ _, Below.refl _ _⟩
end Go.Proofs.YtpikdngccgdhiaaDoor
