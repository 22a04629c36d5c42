/-
  The reference: hex, digit, encoded, isHidden.
-/
import Derived.Test.YtbabckchfabbkaaDoorLits1
import Derived.Test.YtbabckchfabbkaaDoorRLet
namespace Go.Proofs.YtbabckchfabbkaaDoor
open Go Go.RowKit Go.Lib
open Tx

theorem dig_cut (m : Nat) (h : m < 16) : (⟨#[48, 49, 50, 51, 52, 53, 54, 55, 56, 57, 97, 98, 99, 100, 101, 102]⟩ : ByteArray).extract m (m + 1) = ⟨#[hexD m]⟩ := by
  have key : ∀ m, m < 16 → ((⟨#[48, 49, 50, 51, 52, 53, 54, 55, 56, 57, 97, 98, 99, 100, 101, 102]⟩ : ByteArray).extract m (m + 1)).data.toList = [hexD m] := by decide +kernel
  have := key m h
  apply ByteArray.ext
  apply Array.toList_inj.1
  exact this
theorem one_cons (b : UInt8) (D : List UInt8) : (⟨#[b]⟩ : ByteArray) ++ ⟨D.toArray⟩ = ⟨(b :: D).toArray⟩ := by
  apply ByteArray.ext
  rw [ByteArray.data_append]
  simp
theorem hexL_step (U : Nat) (hU : 0 < U) (D : List UInt8) : (if U / 16 = 0 then hexD (U % 16) :: D else hexL (U / 16) ++ (hexD (U % 16) :: D)) = hexL U ++ D := by
  by_cases h : U < 16
  · rw [if_pos (by omega), hexL_lo U h, Nat.mod_eq_of_lt h]
    rfl
  · rw [if_neg (by omega), hexL_hi U h, List.append_assoc]
    rfl
set_option maxRecDepth 100000 in
set_option maxHeartbeats 1000000 in
theorem hex_any (n : Nat) (w : World) (hn : n < 2147483648) :
    Calls Tryd.prog 59 #[.int .i64 (n : Int)] w fun e w' => e = .returned (.string ⟨(hexL n).toArray⟩) ∧ w' = w := by
  obtain ⟨Z, hZ⟩ : ∃ Z, hexL n = Z := ⟨_, rfl⟩
  rw [hZ]
  obtain ⟨m, hm⟩ : ∃ m : Nat, n % 16 = m := ⟨_, rfl⟩
  obtain ⟨q, hq⟩ : ∃ q : Nat, n / 16 = q := ⟨_, rfl⟩
  have r1 : (n : Int).tmod 16 = (m : Int) := by rw [Int.tmod_eq_emod_of_nonneg (by omega)]; omega
  have r2 : (n : Int).tdiv 16 = (q : Int) := by rw [Int.tdiv_eq_ediv_of_nonneg (by omega)]; omega
  have r3 : (n : Int) % 16 = (m : Int) := by omega
  have r4 : (n : Int) / 16 = (q : Int) := by omega
  have hm16 : m < 16 := by omega
  have hqb : q < 2147483648 := by omega
  have hd := dig_cut m hm16
  have H0 : Hid ((if q = 0 then [hexD m] else hexL q ++ [hexD m]) = Z) := by
    show _ = _
    rw [← hZ, ← hm, ← hq]
    by_cases h : n < 16
    · rw [if_pos (by omega), hexL_lo n h, Nat.mod_eq_of_lt h]
    · rw [if_neg (by omega), hexL_hi n h]
  have H1 : Hid ((⟨#[hexD m]⟩ : ByteArray) = ⟨[hexD m].toArray⟩) := rfl
  clear hZ hm hq
  go_enter Tryd.func59, Tryd.ntmps59
  go_wp2
  go_loopw [0, 3] (fun x y wr => ∃ (U : Nat) (D : List UInt8), x = .int .i64 (U : Int) ∧ y = .string ⟨D.toArray⟩ ∧ (if U = 0 then D else hexL U ++ D) = Z ∧ U < 16 ^ (8 - D.length) ∧ D.length ≤ 8 ∧ wr = w) (fun x _ _ => (intOf x).toNat)
  case atStart => exact ⟨q, [hexD m], rfl, rfl, H0.out, by show q < 16 ^ 7; omega, by simp, rfl⟩
  case round =>
    obtain ⟨U, D, rfl, rfl, hU, hb0, hDl, rfl⟩ := hrel
    have HB0 : Hid (U < 16 ^ (8 - D.length)) := hb0
    have hb : U < 4294967296 := Nat.lt_of_lt_of_le hb0 (Nat.le_trans (Nat.pow_le_pow_right (by decide) (Nat.sub_le 8 D.length)) (by decide))
    clear hb0
    have HU : Hid ((if U = 0 then D else hexL U ++ D) = Z) := hU
    clear hU H0 H1 hd r1 r2 r3 r4
    by_cases h0 : U = 0
    · subst h0
      have HD : Hid (D = Z) := by have := HU.out; rw [if_pos rfl] at this; exact this
      go_wp2
      go_ret
      exact ⟨by rw [← HD.out]; rfl, rfl⟩
    · obtain ⟨m, hm⟩ : ∃ m : Nat, U % 16 = m := ⟨_, rfl⟩
      obtain ⟨q, hq⟩ : ∃ q : Nat, U / 16 = q := ⟨_, rfl⟩
      have r1 : (U : Int).tmod 16 = (m : Int) := by rw [Int.tmod_eq_emod_of_nonneg (by omega)]; omega
      have r2 : (U : Int).tdiv 16 = (q : Int) := by rw [Int.tdiv_eq_ediv_of_nonneg (by omega)]; omega
      have r3 : (U : Int) % 16 = (m : Int) := by omega
      have r4 : (U : Int) / 16 = (q : Int) := by omega
      have hm16 : m < 16 := by omega
      have HQB : Hid (D.length < 8 ∧ q < 16 ^ (8 - (D.length + 1))) := by
        have h9 := HB0.out
        have hk : D.length < 8 := by
          rcases Nat.lt_or_ge D.length 8 with h | h
          · exact h
          · rw [show 8 - D.length = 0 by omega] at h9
            have : U < 1 := h9
            omega
        refine ⟨hk, ?_⟩
        rw [← hq]
        apply Nat.div_lt_of_lt_mul
        rw [Nat.mul_comm, ← Nat.pow_succ, show (8 - (D.length + 1)).succ = 8 - D.length by omega]
        exact h9
      have hqU : q < U := by omega
      have hd := dig_cut m hm16
      have HS : Hid ((if q = 0 then hexD m :: D else hexL q ++ (hexD m :: D)) = Z) := by
        show _ = _
        rw [← hm, ← hq, hexL_step U (by omega) D]
        have := HU.out
        rw [if_neg h0] at this
        exact this
      have HC : Hid ((⟨#[hexD m]⟩ : ByteArray) ++ ⟨D.toArray⟩ = ⟨(hexD m :: D).toArray⟩) := one_cons _ _
      clear hm hq HU
      generalize hexD m = c at *
      have hpos : 0 < U := by omega
      go_wp2
      go_roundw
      case rel => exact ⟨q, c :: D, rfl, by rw [← HC.out], HS.out, by rw [List.length_cons]; exact HQB.out.2, by rw [List.length_cons]; exact HQB.out.1, trivial⟩
      case measure => simp [intOf]; omega
theorem rdig_any (c : Nat) (w : World) (hc : c < 256) : Calls Tryd.prog 54 #[.int .u8 (c : Int)] w fun e w' => e = .returned (.int .i64 (hvi c)) ∧ w' = w := by
  by_cases h1 : 48 ≤ c ∧ c ≤ 57
  · have HE : Hid (hvi c = (c : Int) - 48) := by show _ = _; rw [hvi_some (show hv c = some (c - 48) by unfold hv; rw [if_pos h1])]; omega
    rw [HE.out]
    have a1 := h1.1
    have a2 := h1.2
    clear h1
    go_enter Tryd.func54, Tryd.ntmps54
    go_wp2
    go_ret
    exact ⟨rfl, rfl⟩
  · by_cases h2 : 97 ≤ c ∧ c ≤ 102
    · have HE : Hid (hvi c = (c : Int) - 97 + 10) := by show _ = _; rw [hvi_some (show hv c = some (c - 87) by unfold hv; rw [if_neg h1, if_pos h2])]; omega
      rw [HE.out]
      have a1 := h2.1
      have a2 := h2.2
      have a3 : ¬ (c : Int) ≤ 57 := by omega
      clear h1 h2
      go_enter Tryd.func54, Tryd.ntmps54
      go_wp2
      go_ret
      exact ⟨rfl, rfl⟩
    · have HE : Hid (hvi c = -1) := by show _ = _; rw [hvi_none (show hv c = none by unfold hv; rw [if_neg h1, if_neg h2])]
      rw [HE.out]
      by_cases c1 : c < 48
      · clear h1 h2
        go_enter Tryd.func54, Tryd.ntmps54
        go_wp2
        go_ret
        exact ⟨rfl, rfl⟩
      · by_cases c2 : c < 97
        · have c3 : 57 < c := by omega
          clear h1 h2
          go_enter Tryd.func54, Tryd.ntmps54
          go_wp2
          go_ret
          exact ⟨rfl, rfl⟩
        · have c3 : 102 < c := by omega
          clear h1 h2
          go_enter Tryd.func54, Tryd.ntmps54
          go_wp2
          go_ret
          exact ⟨rfl, rfl⟩
/-- a slice of these bytes -/
def SlB (w : World) (v : Value) (l : List UInt8) : Prop := ∃ g cap, v = .slice (some ⟨g, 0, none⟩) l.length cap ∧ ∀ j (h : j < l.length), w.cell? ⟨g, j, none⟩ = some (.int .u8 ((l[j]).toNat : Int))
theorem SlB.kept {w w' : World} {v : Value} {l : List UInt8} (h : SlB w v l) (hb : Below w.heap.size w w') : SlB w' v l := by
  obtain ⟨g, cap, rfl, hc⟩ := h
  exact ⟨g, cap, rfl, fun j hj => (hb.cell (p := ⟨g, j, none⟩) (World.block_lt_of_cell? _ _ (hc j hj))).trans (hc j hj)⟩
theorem slB_lit (w : World) (t : TypeId) (l : List UInt8) (cs : Array Value) (hcs : cs.toList = bc l) : SlB (w.alloc (.cells cs t)) (.slice (some ⟨w.heap.size, 0, none⟩) l.length l.length) l :=
  ⟨_, _, rfl, new_cells w l cs hcs t⟩
set_option maxRecDepth 100000 in
set_option maxHeartbeats 1000000 in
theorem encoded_any (r : Nat) (w : World) (hv : Utf8.valid (r : Int) = true) :
    Calls Tryd.prog 71 #[.int .i64 (r : Int)] w fun e w' => ∃ v, e = .returned v ∧ SlB w' v (Utf8.encode (r : Int)).data.toList ∧ Below w.heap.size w w' := by
  obtain ⟨hv1, hv2⟩ := valid_two r hv
  by_cases h1 : r < 128
  · rw [enc1 r h1]
    have HB : Hid (∀ cs : Array Value, cs.toList = [.int .u8 (r : Int)] → cs.toList = bc [UInt8.ofNat r]) := fun cs h => by rw [h, bc1 r (by omega)]
    clear hv hv2
    go_enter Tryd.func71, Tryd.ntmps71
    go_wp2
    go_ret
    exact ⟨_, rfl, slB_lit w _ [UInt8.ofNat r] _ (HB.out _ rfl), up0 _ _⟩
  · obtain ⟨x, hx⟩ : ∃ x : Int, (r : Int) = x := ⟨_, rfl⟩
    by_cases h2 : r ≤ 2047
    · rw [enc2 r (by omega) h2]
      have r1 : x.tdiv 64 = x / 64 := Int.tdiv_eq_ediv_of_nonneg (by omega)
      have r2 : x.tmod 64 = x % 64 := Int.tmod_eq_emod_of_nonneg (by omega)
      have HB : Hid (∀ cs : Array Value, cs.toList = [.int .u8 (192 + x / 64), .int .u8 (128 + x % 64)] → cs.toList = bc [UInt8.ofNat (192 + r / 64), UInt8.ofNat (128 + r % 64)]) := fun cs h => by
        rw [h, bc2 _ _ (by omega) (by omega), ← hx]
        simp
      have b1 : 128 ≤ x := by omega
      have b2 : x ≤ 2047 := by omega
      rw [hx]
      clear hv hv2 h1 h2 hv1 hx
      generalize UInt8.ofNat (192 + r / 64) = u1 at *
      generalize UInt8.ofNat (128 + r % 64) = u2 at *
      go_enter Tryd.func71, Tryd.ntmps71
      go_wp2
      go_ret
      exact ⟨_, rfl, slB_lit w _ [u1, u2] _ (HB.out _ (by simp)), up0 _ _⟩
    · have r1 : x.tdiv 64 = x / 64 := Int.tdiv_eq_ediv_of_nonneg (by omega)
      have r2 : x.tmod 64 = x % 64 := Int.tmod_eq_emod_of_nonneg (by omega)
      have r3 : (x / 64).tmod 64 = x / 64 % 64 := Int.tmod_eq_emod_of_nonneg (by omega)
      have r4 : x.tdiv 4096 = x / 4096 := Int.tdiv_eq_ediv_of_nonneg (by omega)
      by_cases h3 : r ≤ 65535
      · rw [enc3 r (by omega) h3 hv]
        have HB : Hid (∀ cs : Array Value, cs.toList = [.int .u8 (224 + x / 4096), .int .u8 (128 + x / 64 % 64), .int .u8 (128 + x % 64)] → cs.toList = bc [UInt8.ofNat (224 + r / 4096), UInt8.ofNat (128 + r / 64 % 64), UInt8.ofNat (128 + r % 64)]) := fun cs h => by
          rw [h, bc3 _ _ _ (by omega) (by omega) (by omega), ← hx]
          simp
        have b1 : 2048 ≤ x := by omega
        have b2 : x ≤ 65535 := by omega
        rw [hx]
        clear hv hv2 h1 h2 h3 hv1 hx
        generalize UInt8.ofNat (224 + r / 4096) = u1 at *
        generalize UInt8.ofNat (128 + r / 64 % 64) = u2 at *
        generalize UInt8.ofNat (128 + r % 64) = u3 at *
        go_enter Tryd.func71, Tryd.ntmps71
        go_wp2
        go_ret
        exact ⟨_, rfl, slB_lit w _ [u1, u2, u3] _ (HB.out _ (by simp)), up0 _ _⟩
      · rw [enc4 r (by omega) hv]
        have r5 : x.tdiv 262144 = x / 262144 := Int.tdiv_eq_ediv_of_nonneg (by omega)
        have r6 : (x / 4096).tmod 64 = x / 4096 % 64 := Int.tmod_eq_emod_of_nonneg (by omega)
        have HB : Hid (∀ cs : Array Value, cs.toList = [.int .u8 (240 + x / 262144), .int .u8 (128 + x / 4096 % 64), .int .u8 (128 + x / 64 % 64), .int .u8 (128 + x % 64)] → cs.toList = bc [UInt8.ofNat (240 + r / 262144), UInt8.ofNat (128 + r / 4096 % 64), UInt8.ofNat (128 + r / 64 % 64), UInt8.ofNat (128 + r % 64)]) := fun cs h => by
          rw [h, bc4 _ _ _ _ (by omega) (by omega) (by omega) (by omega), ← hx]
          simp
        have b1 : 65536 ≤ x := by omega
        have b2 : x ≤ 1114111 := by omega
        rw [hx]
        clear hv hv2 h1 h2 h3 hv1 hx
        generalize UInt8.ofNat (240 + r / 262144) = u1 at *
        generalize UInt8.ofNat (128 + r / 4096 % 64) = u2 at *
        generalize UInt8.ofNat (128 + r / 64 % 64) = u3 at *
        generalize UInt8.ofNat (128 + r % 64) = u4 at *
        go_enter Tryd.func71, Tryd.ntmps71
        go_wp2
        go_ret
        exact ⟨_, rfl, slB_lit w _ [u1, u2, u3, u4] _ (HB.out _ (by simp)), up0 _ _⟩
set_option maxRecDepth 100000 in
theorem rhid_any (r : Int) (w : World) (hT : TabP 0 .i64 hids w) :
    Calls Tryd.prog 31 #[.int .i64 r] w fun e w' => e = .returned (.bool (among hids r)) ∧ ∃ n, w' = w.drewN n := by
  have HC : Hid (∀ (k : Nat) (hk : k < hids.length), w.cell? ⟨0, 2 * k, none⟩ = some (.int .i64 hids[k].1) ∧ w.cell? ⟨0, 2 * k + 1, none⟩ = some (.int .i64 hids[k].2)) := by
    intro k hk
    have hg := flat_get hids k hk
    obtain ⟨a1, e1⟩ := List.getElem?_eq_some_iff.1 hg.1
    obtain ⟨a2, e2⟩ := List.getElem?_eq_some_iff.1 hg.2
    have h1 := hT (2 * k) a1
    have h2 := hT (2 * k + 1) a2
    rw [e1] at h1
    rw [e2] at h2
    exact ⟨h1, h2⟩
  have HL : Hid (hids.length = 8) := rfl
  clear hT
  go_enter Tryd.func31, Tryd.ntmps31
  go_wp2
  have H0 : Hid (among (hids.take 0) r = false) := rfl
  go_loopw [3] (fun i wr => ∃ k : Nat, k ≤ 8 ∧ i = .int .i64 (k : Int) ∧ among (hids.take k) r = false ∧ ∃ n, wr = w.drewN n) (fun i _ => 8 - (intOf i).toNat)
  case atStart => exact ⟨0, by omega, rfl, H0.out, 0, rfl⟩
  case round =>
    obtain ⟨k, hk, rfl, ha, n, hw⟩ := hrel
    have HW : Hid (wr = w.drewN n) := hw
    clear hw
    have HA : Hid (among (hids.take k) r = false) := ha
    clear ha
    by_cases hlt : k < 8
    · have hkl : k < hids.length := by rw [HL.out]; exact hlt
      have hc := HC.out k hkl
      have HS : Hid (among (hids.take (k + 1)) r = (among (hids.take k) r || (decide (hids[k].1 ≤ r) && decide (r ≤ hids[k].2)))) := among_take hids r k hkl
      have HY : Hid (hids[k].1 ≤ r → r ≤ hids[k].2 → among hids r = true) := among_yes hids r k hkl
      generalize hids[k].1 = lo at *
      generalize hids[k].2 = hi at *
      obtain ⟨c1, c2⟩ := hc
      have c3 : wr.cell? ⟨0, k * 2, none⟩ = some (.int .i64 lo) := by rw [Nat.mul_comm, HW.out]; exact c1
      have c4 : wr.cell? ⟨0, k * 2 + 1, none⟩ = some (.int .i64 hi) := by rw [Nat.mul_comm, HW.out]; exact c2
      clear HC hkl c1 c2
      go_wp2
      go_quiet (first | (go_at_call 56; refine Calls.quiet_of (within_any _ _ _ _)))
      by_cases hh : lo ≤ r ∧ r ≤ hi
      · have HT : Hid ((decide (lo ≤ r) && decide (r ≤ hi)) = true) := by show _ = _; simp [hh]
        have HY2 : Hid (among hids r = true) := HY.out hh.1 hh.2
        rw [HT.out]
        clear HY HS
        go_wp2
        go_ret
        rw [HY2.out, HW.out]
        exact ⟨rfl, _, World.drewN_drewN _ _ _⟩
      · have HT : Hid ((decide (lo ≤ r) && decide (r ≤ hi)) = false) := by show _ = _; simp; omega
        have HS2 : Hid (among (hids.take (k + 1)) r = false) := by show _ = _; rw [HS.out, HA.out, HT.out]; rfl
        rw [HT.out]
        clear HY HS
        go_wp2
        go_roundw
        case rel => exact ⟨k + 1, by omega, by go_num, HS2.out, _, by rw [HW.out]; exact World.drewN_drewN _ _ _⟩
        case measure => simp [intOf]; omega
    · obtain rfl : k = 8 := by omega
      have HF : Hid (among hids r = false) := HA.out
      go_wp2
      go_ret
      rw [HF.out]
      exact ⟨rfl, n, HW.out⟩
end Go.Proofs.YtbabckchfabbkaaDoor
