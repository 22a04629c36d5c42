import Derived.Deep.RegionHeld
import Derived.Test.YtcnnpohnfoaceaaGreatDoorQR1
import Derived.Test.YtcnnpohnfoaceaaGreatDoorQT1
/-
  Escapes are ASCII: a literal can be read by jumps.
-/
namespace Go.Proofs.YtcnnpohnfoaceaaGreatDoor.Text
open Go Go.RowKit Go.Lib
open Tx

namespace Tx
/-- n bytes, all of them ASCII, stand at q -/
def Low (s : ByteArray) (n : Nat) : Prop := n ≤ s.size ∧ ∀ i, i < n → at' s i < 128
theorem low_pre {s p : ByteArray} (h : pre s p = true) (hp : ∀ i, i < p.size → at' p i < 128) : Low s p.size :=
  ⟨pre_size s p h, fun i hi => by rw [pre_at h i hi]; exact hp i hi⟩
theorem low_p2 (b : UInt8) (hb : b.toNat < 128) : ∀ i, i < (⟨#[92, b]⟩ : ByteArray).size → at' ⟨#[92, b]⟩ i < 128 := by
  intro i hi
  have hi2 : i < 2 := hi
  match i, hi2 with
  | 0, _ => show (92 : UInt8).toNat < 128; decide
  | 1, _ => exact hb
theorem dec_hv {t : ByteArray} {p d : Nat} (h : hv (Utf8.decode t p).1 = some d) : at' t p < 128 ∧ (Utf8.decode t p).1 = at' t p := by
  have h1 := hv_low h
  have h2 : (Utf8.decode t p).1 < 128 := h1
  by_cases h3 : at' t p < 128
  · exact ⟨h3, by rw [dec_ascii t p h3]⟩
  · exfalso
    have h4 := dec_low t p h2
    have key := rd_stray (fun k => at' t (p + k)) (t.size - p) (at_lt t _) (at_lt t _) (at_lt t _)
    have hs : stray t p = true := by
      unfold stray
      rw [Bool.and_eq_true, decide_eq_true_eq, decide_eq_true_eq]
      exact ⟨by omega, h4⟩
    rw [stray_eq, Bool.and_eq_true, decide_eq_true_eq] at hs
    omega
theorem dec_low_at {t : ByteArray} {p : Nat} (h2 : (Utf8.decode t p).1 < 128) : at' t p < 128 ∧ (Utf8.decode t p).1 = at' t p := by
  by_cases h3 : at' t p < 128
  · exact ⟨h3, by rw [dec_ascii t p h3]⟩
  · exfalso
    have h4 := dec_low t p h2
    have hs : stray t p = true := by
      unfold stray
      rw [Bool.and_eq_true, decide_eq_true_eq, decide_eq_true_eq]
      exact ⟨by omega, h4⟩
    rw [stray_eq, Bool.and_eq_true, decide_eq_true_eq] at hs
    omega
theorem erL_low (t : ByteArray) : ∀ (k p v : Nat), t.size - p ≤ k → (∀ i, i < p → at' t i < 128) → (erL t p v).2 ≠ 0 → 4 ≤ (erL t p v).2 ∧ (erL t p v).2 - 3 ≤ t.size ∧ ∀ i, i < (erL t p v).2 - 3 → at' t i < 128
  | 0, p, v, hk, _, h => by
    rw [erL_out t p v (by omega)] at h
    exact (h rfl).elim
  | k + 1, p, v, hk, hl, h => by
    by_cases hp : p < t.size
    · by_cases h2 : (Utf8.decode t p).1 = 125 ∧ 0 < p ∧ Utf8.valid (v : Int) = true
      · have ha := dec_low_at (t := t) (p := p) (by omega)
        rw [erL_end t p v hp h2]
        refine ⟨by show 4 ≤ p + 4; omega, by show p + 4 - 3 ≤ t.size; omega, fun i hi => ?_⟩
        have hi' : i < p + 4 - 3 := hi
        by_cases hip : i < p
        · exact hl i hip
        · obtain rfl : i = p := by omega
          exact ha.1
      · cases hn : hv (Utf8.decode t p).1 with
        | none =>
          rw [erL_no t p v hp h2 hn] at h
          exact (h rfl).elim
        | some d =>
          by_cases h6 : p = 6
          · subst h6
            rw [erL_six t v d hp h2 hn] at h
            exact (h rfl).elim
          · rw [← erL_on t p v d hp h6 h2 hn] at h ⊢
            refine erL_low t k (p + 1) _ (by omega) (fun i hi => ?_) h
            by_cases hip : i < p
            · exact hl i hip
            · obtain rfl : i = p := by omega
              exact (dec_hv hn).1
    · rw [erL_out t p v hp] at h
      exact (h rfl).elim
theorem esc_low (s : ByteArray) (h : (esc s).2 ≠ 0) : Low s (esc s).2 := by
  revert h
  unfold esc
  split
  · rename_i hp
    have hl := low_pre hp (low_p2 120 (by decide))
    unfold eb
    split
    · intro h; exact (h rfl).elim
    · split
      · rename_i h4 _ _ a b ha hb
        intro _
        refine ⟨by show 4 ≤ s.size; omega, fun i hi => ?_⟩
        have hi4 : i < 4 := hi
        match i, hi4 with
        | 0, _ => exact hl.2 0 (by show (0 : Nat) < 2; decide)
        | 1, _ => exact hl.2 1 (by show (1 : Nat) < 2; decide)
        | 2, _ => exact hv_low ha
        | 3, _ => exact hv_low hb
      · intro h; exact (h rfl).elim
  · split
    · rename_i hp
      intro h
      have hps : 3 ≤ s.size := pre_size _ _ hp
      have h1 := erL_low (s.extract 3 s.size) _ 0 0 (Nat.le_refl _) (fun i hi => by omega) h
      rw [size_cut s 3 s.size (Nat.le_refl _)] at h1
      refine ⟨by omega, fun i hi => ?_⟩
      by_cases hi3 : i < 3
      · have hq := pre_at hp i hi3
        rw [hq]
        match i, hi3 with
        | 0, _ => show (92 : UInt8).toNat < 128; decide
        | 1, _ => show (117 : UInt8).toNat < 128; decide
        | 2, _ => show (123 : UInt8).toNat < 128; decide
      · have h2 := h1.2.2 (i - 3) (by omega)
        rw [at_cut s 3 s.size (i - 3) (Nat.le_refl _) (by omega), show 3 + (i - 3) = i by omega] at h2
        exact h2
    · split
      · rename_i hp
        intro _
        exact low_pre hp (low_p2 34 (by decide))
      · split
        · rename_i hp
          intro _
          exact low_pre hp (low_p2 92 (by decide))
        · split
          · rename_i hp
            intro _
            exact low_pre hp (low_p2 110 (by decide))
          · split
            · rename_i hp
              intro _
              exact low_pre hp (low_p2 116 (by decide))
            · split
              · rename_i hp
                intro _
                exact low_pre hp (low_p2 114 (by decide))
              · intro h; exact (h rfl).elim
/-- the reading goes on behind the escape -/
theorem con_jump (z : ByteArray) (q : Nat) (L : List UInt8) (e : Nat) (hq : q < z.size) (he : e ≤ q) (h92 : at' z q = 92) (h : (esc (z.extract q z.size)).2 ≠ 0) :
    con z (q + (esc (z.extract q z.size)).2) (L ++ (esc (z.extract q z.size)).1.data.toList) (q + (esc (z.extract q z.size)).2) = con z q L e ∧ q + (esc (z.extract q z.size)).2 ≤ z.size := by
  have hl := esc_low _ h
  have hd : Utf8.decode z q = (92, 1) := by rw [dec_ascii z q (by omega), h92]
  have e1 := con_e z q L e hq (by omega) (by rw [hd]) h
  rw [hd] at e1
  have hsz := hl.1
  rw [size_cut z q z.size (Nat.le_refl _)] at hsz
  refine ⟨?_, by omega⟩
  rw [← e1]
  generalize hX : esc (z.extract q z.size) = X at *
  have h1 := con_skips z (L ++ X.1.data.toList) (q + X.2) (X.2 - 1) (q + 1) (fun i hi => by
    have h2 := hl.2 (i + 1) (by omega)
    rw [at_cut z q z.size (i + 1) (Nat.le_refl _) (by omega), show q + (i + 1) = q + 1 + i by omega] at h2
    exact ⟨by omega, h2⟩) (by omega)
  rw [h1, show q + 1 + (X.2 - 1) = q + X.2 by omega]
end Tx
end Go.Proofs.YtcnnpohnfoaceaaGreatDoor.Text

/-
  The reference: hex, digit, encoded, isHidden.
-/
namespace Go.Proofs.YtcnnpohnfoaceaaGreatDoor.Text
open Go Go.RowKit Go.Lib
open Tx

theorem dig_cut (m : Nat) (h : m < 16) : (⟨#[48, 49, 50, 51, 52, 53, 54, 55, 56, 57, 97, 98, 99, 100, 101, 102]⟩ : ByteArray).extract m (m + 1) = ⟨#[hexD m]⟩ := by
  have key : ∀ m, m < 16 → ((⟨#[48, 49, 50, 51, 52, 53, 54, 55, 56, 57, 97, 98, 99, 100, 101, 102]⟩ : ByteArray).extract m (m + 1)).data.toList = [hexD m] := by decide +kernel
  have := key m h
  apply ByteArray.ext
  apply Array.toList_inj.1
  exact this
theorem one_cons (b : UInt8) (D : List UInt8) : (⟨#[b]⟩ : ByteArray) ++ ⟨D.toArray⟩ = ⟨(b :: D).toArray⟩ := by
  apply ByteArray.ext
  rw [ByteArray.data_append]
  simp
theorem hexL_step (U : Nat) (hU : 0 < U) (D : List UInt8) : (if U / 16 = 0 then hexD (U % 16) :: D else hexL (U / 16) ++ (hexD (U % 16) :: D)) = hexL U ++ D := by
  by_cases h : U < 16
  · rw [if_pos (by omega), hexL_lo U h, Nat.mod_eq_of_lt h]
    rfl
  · rw [if_neg (by omega), hexL_hi U h, List.append_assoc]
    rfl
set_option maxRecDepth 100000 in
set_option maxHeartbeats 1000000 in
theorem hex_any (n : Nat) (w : World) (hn : n < 2147483648) :
    Calls Tryz.prog 124 #[.int .i64 (n : Int)] w fun e w' => e = .returned (.string ⟨(hexL n).toArray⟩) ∧ w' = w := by
  obtain ⟨Z, hZ⟩ : ∃ Z, hexL n = Z := ⟨_, rfl⟩
  rw [hZ]
  obtain ⟨m, hm⟩ : ∃ m : Nat, n % 16 = m := ⟨_, rfl⟩
  obtain ⟨q, hq⟩ : ∃ q : Nat, n / 16 = q := ⟨_, rfl⟩
  have r1 : (n : Int).tmod 16 = (m : Int) := by rw [Int.tmod_eq_emod_of_nonneg (by omega)]; omega
  have r2 : (n : Int).tdiv 16 = (q : Int) := by rw [Int.tdiv_eq_ediv_of_nonneg (by omega)]; omega
  have r3 : (n : Int) % 16 = (m : Int) := by omega
  have r4 : (n : Int) / 16 = (q : Int) := by omega
  have hm16 : m < 16 := by omega
  have hqb : q < 2147483648 := by omega
  have hd := dig_cut m hm16
  have H0 : Hid ((if q = 0 then [hexD m] else hexL q ++ [hexD m]) = Z) := by
    show _ = _
    rw [← hZ, ← hm, ← hq]
    by_cases h : n < 16
    · rw [if_pos (by omega), hexL_lo n h, Nat.mod_eq_of_lt h]
    · rw [if_neg (by omega), hexL_hi n h]
  have H1 : Hid ((⟨#[hexD m]⟩ : ByteArray) = ⟨[hexD m].toArray⟩) := rfl
  clear hZ hm hq
  go_enter Tryz.func124, Tryz.ntmps124
  go_wp2
  go_loopw [0, 3] (fun x y wr => ∃ (U : Nat) (D : List UInt8), x = .int .i64 (U : Int) ∧ y = .string ⟨D.toArray⟩ ∧ (if U = 0 then D else hexL U ++ D) = Z ∧ U < 16 ^ (8 - D.length) ∧ D.length ≤ 8 ∧ wr = w) (fun x _ _ => (intOf x).toNat)
  case atStart => exact ⟨q, [hexD m], rfl, rfl, H0.out, by show q < 16 ^ 7; omega, by simp, rfl⟩
  case round =>
    obtain ⟨U, D, rfl, rfl, hU, hb0, hDl, rfl⟩ := hrel
    have HB0 : Hid (U < 16 ^ (8 - D.length)) := hb0
    have hb : U < 4294967296 := Nat.lt_of_lt_of_le hb0 (Nat.le_trans (Nat.pow_le_pow_right (by decide) (Nat.sub_le 8 D.length)) (by decide))
    clear hb0
    have HU : Hid ((if U = 0 then D else hexL U ++ D) = Z) := hU
    clear hU H0 H1 hd r1 r2 r3 r4
    by_cases h0 : U = 0
    · subst h0
      have HD : Hid (D = Z) := by have := HU.out; rw [if_pos rfl] at this; exact this
      go_wp2
      go_ret
      exact ⟨by rw [← HD.out]; rfl, rfl⟩
    · obtain ⟨m, hm⟩ : ∃ m : Nat, U % 16 = m := ⟨_, rfl⟩
      obtain ⟨q, hq⟩ : ∃ q : Nat, U / 16 = q := ⟨_, rfl⟩
      have r1 : (U : Int).tmod 16 = (m : Int) := by rw [Int.tmod_eq_emod_of_nonneg (by omega)]; omega
      have r2 : (U : Int).tdiv 16 = (q : Int) := by rw [Int.tdiv_eq_ediv_of_nonneg (by omega)]; omega
      have r3 : (U : Int) % 16 = (m : Int) := by omega
      have r4 : (U : Int) / 16 = (q : Int) := by omega
      have hm16 : m < 16 := by omega
      have HQB : Hid (D.length < 8 ∧ q < 16 ^ (8 - (D.length + 1))) := by
        have h9 := HB0.out
        have hk : D.length < 8 := by
          rcases Nat.lt_or_ge D.length 8 with h | h
          · exact h
          · rw [show 8 - D.length = 0 by omega] at h9
            have : U < 1 := h9
            omega
        refine ⟨hk, ?_⟩
        rw [← hq]
        apply Nat.div_lt_of_lt_mul
        rw [Nat.mul_comm, ← Nat.pow_succ, show (8 - (D.length + 1)).succ = 8 - D.length by omega]
        exact h9
      have hqU : q < U := by omega
      have hd := dig_cut m hm16
      have HS : Hid ((if q = 0 then hexD m :: D else hexL q ++ (hexD m :: D)) = Z) := by
        show _ = _
        rw [← hm, ← hq, hexL_step U (by omega) D]
        have := HU.out
        rw [if_neg h0] at this
        exact this
      have HC : Hid ((⟨#[hexD m]⟩ : ByteArray) ++ ⟨D.toArray⟩ = ⟨(hexD m :: D).toArray⟩) := one_cons _ _
      clear hm hq HU
      generalize hexD m = c at *
      have hpos : 0 < U := by omega
      go_wp2
      go_roundw
      case rel => exact ⟨q, c :: D, rfl, by rw [← HC.out], HS.out, by rw [List.length_cons]; exact HQB.out.2, by rw [List.length_cons]; exact HQB.out.1, trivial⟩
      case measure => simp [intOf]; omega
theorem rdig_any (c : Nat) (w : World) (hc : c < 256) : Calls Tryz.prog 101 #[.int .u8 (c : Int)] w fun e w' => e = .returned (.int .i64 (hvi c)) ∧ w' = w := by
  by_cases h1 : 48 ≤ c ∧ c ≤ 57
  · have HE : Hid (hvi c = (c : Int) - 48) := by show _ = _; rw [hvi_some (show hv c = some (c - 48) by unfold hv; rw [if_pos h1])]; omega
    rw [HE.out]
    have a1 := h1.1
    have a2 := h1.2
    clear h1
    go_enter Tryz.func101, Tryz.ntmps101
    go_wp2
    go_ret
    exact ⟨rfl, rfl⟩
  · by_cases h2 : 97 ≤ c ∧ c ≤ 102
    · have HE : Hid (hvi c = (c : Int) - 97 + 10) := by show _ = _; rw [hvi_some (show hv c = some (c - 87) by unfold hv; rw [if_neg h1, if_pos h2])]; omega
      rw [HE.out]
      have a1 := h2.1
      have a2 := h2.2
      have a3 : ¬ (c : Int) ≤ 57 := by omega
      clear h1 h2
      go_enter Tryz.func101, Tryz.ntmps101
      go_wp2
      go_ret
      exact ⟨rfl, rfl⟩
    · have HE : Hid (hvi c = -1) := by show _ = _; rw [hvi_none (show hv c = none by unfold hv; rw [if_neg h1, if_neg h2])]
      rw [HE.out]
      by_cases c1 : c < 48
      · clear h1 h2
        go_enter Tryz.func101, Tryz.ntmps101
        go_wp2
        go_ret
        exact ⟨rfl, rfl⟩
      · by_cases c2 : c < 97
        · have c3 : 57 < c := by omega
          clear h1 h2
          go_enter Tryz.func101, Tryz.ntmps101
          go_wp2
          go_ret
          exact ⟨rfl, rfl⟩
        · have c3 : 102 < c := by omega
          clear h1 h2
          go_enter Tryz.func101, Tryz.ntmps101
          go_wp2
          go_ret
          exact ⟨rfl, rfl⟩
/-- a slice of these bytes -/
def SlB (w : World) (v : Value) (l : List UInt8) : Prop := ∃ g cap, v = .slice (some ⟨g, 0, none⟩) l.length cap ∧ ∀ j (h : j < l.length), w.cell? ⟨g, j, none⟩ = some (.int .u8 ((l[j]).toNat : Int))
theorem SlB.kept {w w' : World} {v : Value} {l : List UInt8} (h : SlB w v l) (hb : Below w.heap.size w w') : SlB w' v l := by
  obtain ⟨g, cap, rfl, hc⟩ := h
  exact ⟨g, cap, rfl, fun j hj => (hb.cell (p := ⟨g, j, none⟩) (World.block_lt_of_cell? _ _ (hc j hj))).trans (hc j hj)⟩
theorem slB_lit (w : World) (t : TypeId) (l : List UInt8) (cs : Array Value) (hcs : cs.toList = bc l) : SlB (w.alloc (.cells cs t)) (.slice (some ⟨w.heap.size, 0, none⟩) l.length l.length) l :=
  ⟨_, _, rfl, new_cells w l cs hcs t⟩
set_option maxRecDepth 100000 in
set_option maxHeartbeats 1000000 in
theorem encoded_any (r : Nat) (w : World) (hv : Utf8.valid (r : Int) = true) :
    Calls Tryz.prog 123 #[.int .i64 (r : Int)] w fun e w' => ∃ v, e = .returned v ∧ SlB w' v (Utf8.encode (r : Int)).data.toList ∧ Below w.heap.size w w' := by
  obtain ⟨hv1, hv2⟩ := valid_two r hv
  by_cases h1 : r < 128
  · rw [enc1 r h1]
    have HB : Hid (∀ cs : Array Value, cs.toList = [.int .u8 (r : Int)] → cs.toList = bc [UInt8.ofNat r]) := fun cs h => by rw [h, bc1 r (by omega)]
    clear hv hv2
    go_enter Tryz.func123, Tryz.ntmps123
    go_wp2
    go_ret
    exact ⟨_, rfl, slB_lit w _ [UInt8.ofNat r] _ (HB.out _ rfl), up0 _ _⟩
  · obtain ⟨x, hx⟩ : ∃ x : Int, (r : Int) = x := ⟨_, rfl⟩
    by_cases h2 : r ≤ 2047
    · rw [enc2 r (by omega) h2]
      have r1 : x.tdiv 64 = x / 64 := Int.tdiv_eq_ediv_of_nonneg (by omega)
      have r2 : x.tmod 64 = x % 64 := Int.tmod_eq_emod_of_nonneg (by omega)
      have HB : Hid (∀ cs : Array Value, cs.toList = [.int .u8 (192 + x / 64), .int .u8 (128 + x % 64)] → cs.toList = bc [UInt8.ofNat (192 + r / 64), UInt8.ofNat (128 + r % 64)]) := fun cs h => by
        rw [h, bc2 _ _ (by omega) (by omega), ← hx]
        simp
      have b1 : 128 ≤ x := by omega
      have b2 : x ≤ 2047 := by omega
      rw [hx]
      clear hv hv2 h1 h2 hv1 hx
      generalize UInt8.ofNat (192 + r / 64) = u1 at *
      generalize UInt8.ofNat (128 + r % 64) = u2 at *
      go_enter Tryz.func123, Tryz.ntmps123
      go_wp2
      go_ret
      exact ⟨_, rfl, slB_lit w _ [u1, u2] _ (HB.out _ (by simp)), up0 _ _⟩
    · have r1 : x.tdiv 64 = x / 64 := Int.tdiv_eq_ediv_of_nonneg (by omega)
      have r2 : x.tmod 64 = x % 64 := Int.tmod_eq_emod_of_nonneg (by omega)
      have r3 : (x / 64).tmod 64 = x / 64 % 64 := Int.tmod_eq_emod_of_nonneg (by omega)
      have r4 : x.tdiv 4096 = x / 4096 := Int.tdiv_eq_ediv_of_nonneg (by omega)
      by_cases h3 : r ≤ 65535
      · rw [enc3 r (by omega) h3 hv]
        have HB : Hid (∀ cs : Array Value, cs.toList = [.int .u8 (224 + x / 4096), .int .u8 (128 + x / 64 % 64), .int .u8 (128 + x % 64)] → cs.toList = bc [UInt8.ofNat (224 + r / 4096), UInt8.ofNat (128 + r / 64 % 64), UInt8.ofNat (128 + r % 64)]) := fun cs h => by
          rw [h, bc3 _ _ _ (by omega) (by omega) (by omega), ← hx]
          simp
        have b1 : 2048 ≤ x := by omega
        have b2 : x ≤ 65535 := by omega
        rw [hx]
        clear hv hv2 h1 h2 h3 hv1 hx
        generalize UInt8.ofNat (224 + r / 4096) = u1 at *
        generalize UInt8.ofNat (128 + r / 64 % 64) = u2 at *
        generalize UInt8.ofNat (128 + r % 64) = u3 at *
        go_enter Tryz.func123, Tryz.ntmps123
        go_wp2
        go_ret
        exact ⟨_, rfl, slB_lit w _ [u1, u2, u3] _ (HB.out _ (by simp)), up0 _ _⟩
      · rw [enc4 r (by omega) hv]
        have r5 : x.tdiv 262144 = x / 262144 := Int.tdiv_eq_ediv_of_nonneg (by omega)
        have r6 : (x / 4096).tmod 64 = x / 4096 % 64 := Int.tmod_eq_emod_of_nonneg (by omega)
        have HB : Hid (∀ cs : Array Value, cs.toList = [.int .u8 (240 + x / 262144), .int .u8 (128 + x / 4096 % 64), .int .u8 (128 + x / 64 % 64), .int .u8 (128 + x % 64)] → cs.toList = bc [UInt8.ofNat (240 + r / 262144), UInt8.ofNat (128 + r / 4096 % 64), UInt8.ofNat (128 + r / 64 % 64), UInt8.ofNat (128 + r % 64)]) := fun cs h => by
          rw [h, bc4 _ _ _ _ (by omega) (by omega) (by omega) (by omega), ← hx]
          simp
        have b1 : 65536 ≤ x := by omega
        have b2 : x ≤ 1114111 := by omega
        rw [hx]
        clear hv hv2 h1 h2 h3 hv1 hx
        generalize UInt8.ofNat (240 + r / 262144) = u1 at *
        generalize UInt8.ofNat (128 + r / 4096 % 64) = u2 at *
        generalize UInt8.ofNat (128 + r / 64 % 64) = u3 at *
        generalize UInt8.ofNat (128 + r % 64) = u4 at *
        go_enter Tryz.func123, Tryz.ntmps123
        go_wp2
        go_ret
        exact ⟨_, rfl, slB_lit w _ [u1, u2, u3, u4] _ (HB.out _ (by simp)), up0 _ _⟩
set_option maxRecDepth 100000 in
theorem rhid_any (r : Int) (w : World) (hT : TabP 2 .i64 hids w) :
    Calls Tryz.prog 87 #[.int .i64 r] w fun e w' => e = .returned (.bool (among hids r)) ∧ ∃ n, w' = w.drewN n := by
  have HC : Hid (∀ (k : Nat) (hk : k < hids.length), w.cell? ⟨2, 2 * k, none⟩ = some (.int .i64 hids[k].1) ∧ w.cell? ⟨2, 2 * k + 1, none⟩ = some (.int .i64 hids[k].2)) := by
    intro k hk
    have hg := flat_get hids k hk
    obtain ⟨a1, e1⟩ := List.getElem?_eq_some_iff.1 hg.1
    obtain ⟨a2, e2⟩ := List.getElem?_eq_some_iff.1 hg.2
    have h1 := hT (2 * k) a1
    have h2 := hT (2 * k + 1) a2
    rw [e1] at h1
    rw [e2] at h2
    exact ⟨h1, h2⟩
  have HL : Hid (hids.length = 8) := rfl
  clear hT
  go_enter Tryz.func87, Tryz.ntmps87
  go_wp2
  have H0 : Hid (among (hids.take 0) r = false) := rfl
  go_loopw [3] (fun i wr => ∃ k : Nat, k ≤ 8 ∧ i = .int .i64 (k : Int) ∧ among (hids.take k) r = false ∧ ∃ n, wr = w.drewN n) (fun i _ => 8 - (intOf i).toNat)
  case atStart => exact ⟨0, by omega, rfl, H0.out, 0, rfl⟩
  case round =>
    obtain ⟨k, hk, rfl, ha, n, hw⟩ := hrel
    have HW : Hid (wr = w.drewN n) := hw
    clear hw
    have HA : Hid (among (hids.take k) r = false) := ha
    clear ha
    by_cases hlt : k < 8
    · have hkl : k < hids.length := by rw [HL.out]; exact hlt
      have hc := HC.out k hkl
      have HS : Hid (among (hids.take (k + 1)) r = (among (hids.take k) r || (decide (hids[k].1 ≤ r) && decide (r ≤ hids[k].2)))) := among_take hids r k hkl
      have HY : Hid (hids[k].1 ≤ r → r ≤ hids[k].2 → among hids r = true) := among_yes hids r k hkl
      generalize hids[k].1 = lo at *
      generalize hids[k].2 = hi at *
      obtain ⟨c1, c2⟩ := hc
      have c3 : wr.cell? ⟨2, k * 2, none⟩ = some (.int .i64 lo) := by rw [Nat.mul_comm, HW.out]; exact c1
      have c4 : wr.cell? ⟨2, k * 2 + 1, none⟩ = some (.int .i64 hi) := by rw [Nat.mul_comm, HW.out]; exact c2
      clear HC hkl c1 c2
      go_wp2
      go_quiet (first | (go_at_call 89; refine Calls.quiet_of (within_any _ _ _ _)))
      by_cases hh : lo ≤ r ∧ r ≤ hi
      · have HT : Hid ((decide (lo ≤ r) && decide (r ≤ hi)) = true) := by show _ = _; simp [hh]
        have HY2 : Hid (among hids r = true) := HY.out hh.1 hh.2
        rw [HT.out]
        clear HY HS
        go_wp2
        go_ret
        rw [HY2.out, HW.out]
        exact ⟨rfl, _, World.drewN_drewN _ _ _⟩
      · have HT : Hid ((decide (lo ≤ r) && decide (r ≤ hi)) = false) := by show _ = _; simp; omega
        have HS2 : Hid (among (hids.take (k + 1)) r = false) := by show _ = _; rw [HS.out, HA.out, HT.out]; rfl
        rw [HT.out]
        clear HY HS
        go_wp2
        go_roundw
        case rel => exact ⟨k + 1, by omega, by go_num, HS2.out, _, by rw [HW.out]; exact World.drewN_drewN _ _ _⟩
        case measure => simp [intOf]; omega
    · obtain rfl : k = 8 := by omega
      have HF : Hid (among hids r = false) := HA.out
      go_wp2
      go_ret
      rw [HF.out]
      exact ⟨rfl, n, HW.out⟩
end Go.Proofs.YtcnnpohnfoaceaaGreatDoor.Text

/-
  The reference: braced, escape.
-/
namespace Go.Proofs.YtcnnpohnfoaceaaGreatDoor.Text
open Go Go.RowKit Go.Lib
open Tx

namespace Tx
theorem hv_dec (t : ByteArray) (p : Nat) : hv (Utf8.decode t p).1 = hv (at' t p) := by
  by_cases h : at' t p < 128
  · rw [dec_ascii t p h]
  · have h2 : ¬ (Utf8.decode t p).1 < 128 := fun hh => h (dec_low_at hh).1
    have key : ∀ c, ¬ c < 128 → hv c = none := fun c hc => by unfold hv; rw [if_neg (by omega), if_neg (by omega)]
    rw [key _ h2, key _ h]
theorem dec_125 (t : ByteArray) (p : Nat) : (Utf8.decode t p).1 = 125 ↔ at' t p = 125 := by
  by_cases h : at' t p < 128
  · rw [dec_ascii t p h]
  · have h2 : ¬ (Utf8.decode t p).1 < 128 := fun hh => h (dec_low_at hh).1
    omega
theorem cut_cut (s : ByteArray) (i k : Nat) (hi : i + k ≤ s.size) : (s.extract i s.size).extract k (s.extract i s.size).size = s.extract (i + k) s.size := by
  have h1 := size_cut s i s.size (Nat.le_refl _)
  have h2 := size_cut (s.extract i s.size) k (s.extract i s.size).size (Nat.le_refl _)
  have h3 := size_cut s (i + k) s.size (Nat.le_refl _)
  apply toList_inj
  apply List.ext_getElem?
  intro j
  by_cases hj : j < s.size - (i + k)
  · rw [toList_get _ j (by omega), toList_get _ j (by omega)]
    congr 1
    apply u8_eq
    have e1 := at_cut (s.extract i s.size) k (s.extract i s.size).size j (Nat.le_refl _) (by omega)
    have e2 := at_cut s i s.size (k + j) (Nat.le_refl _) (by omega)
    have e3 := at_cut s (i + k) s.size j (Nat.le_refl _) (by omega)
    rw [e2] at e1
    rw [show i + (k + j) = i + k + j by omega] at e1
    exact e1.trans e3.symm
  · rw [List.getElem?_eq_none (by rw [toList_len]; omega), List.getElem?_eq_none (by rw [toList_len]; omega)]
theorem at_from (s : ByteArray) (i j : Nat) (h : i + j < s.size) : at' (s.extract i s.size) j = at' s (i + j) := at_cut s i s.size j (Nat.le_refl _) (by omega)
theorem hv125 : hv 125 = none := by decide
/-- an escape with a brace -/
theorem esc_117 (s : ByteArray) (i : Nat) (h0 : at' s i = 92) (h1 : i + 1 < s.size) (hc : at' s (i + 1) = 117) :
    esc (s.extract i s.size) = if i + 2 < s.size ∧ at' s (i + 2) = 123 then erL (s.extract (i + 3) s.size) 0 0 else (⟨#[]⟩, 0) := by
  have hS := size_cut s i s.size (Nat.le_refl _)
  have a0 := at_from s i 0 (by omega)
  have a1 := at_from s i 1 h1
  rw [Nat.add_zero, h0] at a0
  rw [hc] at a1
  unfold esc
  rw [if_neg (pno a1 120 (by decide))]
  by_cases h : i + 2 < s.size ∧ at' s (i + 2) = 123
  · rw [if_pos h]
    have a2 := at_from s i 2 h.1
    rw [h.2] at a2
    have hh : Has (s.extract i s.size) 0 [92, 117, 123] := has_cons (by omega) a0 (has_cons (by omega) a1 (has1 (by omega) a2))
    rw [if_pos (pre_yes hh (by simp; omega)), cut_cut s i 3 (by omega)]
  · rw [if_neg h, if_neg (fun hp => h ?_), if_neg (pno a1 34 (by decide)), if_neg (pno a1 92 (by decide)), if_neg (pno a1 110 (by decide)), if_neg (pno a1 116 (by decide)), if_neg (pno a1 114 (by decide))]
    have hz : 3 ≤ (s.extract i s.size).size := pre_size _ _ hp
    have h2 := pre_at hp 2 (by show (2 : Nat) < 3; decide)
    rw [at_from s i 2 (by omega)] at h2
    exact ⟨by omega, h2⟩
end Tx
theorem ret2 (v : Value) (a b : Int) (h : a = b) : Ending.returned (.tuple #[v, .int .i64 a]) = Ending.returned (.tuple #[v, .int .i64 b]) := by rw [h]
/-- the answer of the reference's escape -/
def EscOK (w : World) (v : Value) (X : ByteArray × Nat) : Prop := (∃ ao n cap, v = .slice ao n cap) ∧ (X.2 ≠ 0 → SlB w v X.1.data.toList)
theorem escOK_no (w : World) : EscOK w (.slice none 0 0) (⟨#[]⟩, 0) := ⟨⟨_, _, _, rfl⟩, fun h => (h rfl).elim⟩

set_option maxRecDepth 100000 in
set_option maxHeartbeats 4000000 in
theorem braced_any (s : ByteArray) (i : Nat) (w : World) (hs : s.size ≤ 8000000) (h0 : at' s i = 92) (h1 : i + 1 < s.size) (hc : at' s (i + 1) = 117) :
    Calls Tryz.prog 102 #[.string s, .int .i64 (i : Int)] w fun e w' => ∃ v, e = .returned (.tuple #[v, .int .i64 (esc (s.extract i s.size)).2]) ∧ EscOK w' v (esc (s.extract i s.size)) ∧ Below w.heap.size w w' := by
  rw [esc_117 s i h0 h1 hc]
  clear h0 hc
  by_cases c1 : i + 2 < s.size
  · have g2 := at_get s (i + 2) c1
    by_cases c2 : at' s (i + 2) = 123
    · rw [if_pos ⟨c1, c2⟩]
      rw [g2] at c2
      obtain ⟨Z, hZ⟩ : ∃ Z, erL (s.extract (i + 3) s.size) 0 0 = Z := ⟨_, rfl⟩
      have hT := size_cut s (i + 3) s.size (Nat.le_refl _)
      have HA : Hid (∀ p, i + 3 + p < s.size → at' (s.extract (i + 3) s.size) p = at' s (i + 3 + p)) := fun p hp => at_from s (i + 3) p hp
      rw [hZ]
      generalize s.extract (i + 3) s.size = T at *
      have HZ : Hid (erL T 0 0 = Z) := hZ
      have HTS : Hid (T.size = s.size - (i + 3)) := hT
      clear hZ hT g2
      have HNO : Hid (∀ w' : World, EscOK w' (.slice none 0 0) (⟨#[]⟩, 0)) := escOK_no
      go_enter Tryz.func102, Tryz.ntmps102
      go_wp2
      go_loopw [6, 7] (fun k r wr => ∃ (p R : Nat), k = .int .i64 ((i : Int) + 3 + (p : Int)) ∧ r = .int .i64 (R : Int) ∧ erL T p R = Z ∧ p ≤ 6 ∧ R < 16 ^ p ∧ i + 3 + p ≤ s.size ∧ wr = w) (fun k _ _ => (s.size + 4 : Nat) - (intOf k).toNat)
      case atStart => exact ⟨0, 0, by simp, rfl, HZ.out, by omega, by decide, by omega, rfl⟩
      case round =>
        obtain ⟨p, R, rfl, rfl, hp, hp6, hR0, hps, rfl⟩ := hrel
        have HP : Hid (erL T p R = Z) := hp
        have HR0 : Hid (R < 16 ^ p) := hR0
        have hR : R < 16777216 := pow_lt p R hp6 hR0
        clear hp hR0 HZ
        by_cases hlt : i + 3 + p < s.size
        · have hTp : p < T.size := by rw [HTS.out]; omega
          have gk := at_get s (i + 3 + p) hlt
          have hcl := at_lt s (i + 3 + p)
          have HV : Hid (hv (Utf8.decode T p).1 = hv (at' s (i + 3 + p))) := by show _ = _; rw [hv_dec, HA.out p hlt]
          have H125 : Hid ((Utf8.decode T p).1 = 125 ↔ at' s (i + 3 + p) = 125) := by show _ ↔ _; rw [dec_125, HA.out p hlt]
          have HDG : Hid (∀ w' : World, Calls Tryz.prog 101 #[.int .u8 (at' s (i + 3 + p) : Int)] w' fun e w'' => e = .returned (.int .i64 (hvi (at' s (i + 3 + p)))) ∧ w'' = w') := fun w' => rdig_any _ w' hcl
          generalize at' s (i + 3 + p) = c at *
          subst gk
          generalize hcc : (s[i + 3 + p]'hlt).toNat = c at *
          cases hvc : hv c with
          | some d =>
            have hd16 := hv_lt hvc
            have HH : Hid (hvi c = (d : Int)) := hvi_some hvc
            have hne : c ≠ 125 := by intro e; rw [e, hv125] at hvc; cases hvc
            rw [HH.out] at HDG
            have HN1 : Hid (¬ ((Utf8.decode T p).1 = 125 ∧ 0 < p ∧ Utf8.valid (R : Int) = true)) := fun hh => hne (H125.out.1 hh.1)
            have HN2 : Hid (hv (Utf8.decode T p).1 = some d) := HV.out.trans hvc
            clear hvc HV H125 HH
            by_cases h6 : p < 6
            · have HN : Hid (erL T (p + 1) (R * 16 + d) = Z) := by show _ = _; rw [erL_on T p R d hTp (by omega) HN1.out HN2.out]; exact HP.out
              have HRN : Hid (R * 16 + d < 16 ^ (p + 1)) := by show _ < _; have := HR0.out; rw [Nat.pow_succ]; omega
              go_wp2_with fail
              refine (HDG.out _).mono ?_
              rintro e w1 ⟨rfl, rfl⟩
              go_wp2_with fail
              refine (HDG.out _).mono ?_
              rintro e w2 ⟨rfl, rfl⟩
              go_wp2
              go_roundw
              case rel => exact ⟨p + 1, R * 16 + d, by go_num, by go_num, HN.out, by omega, HRN.out, by omega, trivial⟩
              case measure => simp [intOf]; omega
            · obtain rfl : p = 6 := by omega
              have HF : Hid (Z = (⟨#[]⟩, 0)) := by show _ = _; rw [← HP.out]; exact erL_six T R d hTp HN1.out HN2.out
              have t1 : ((i : Int) + 3 + 6 == (i : Int) + 3) = false := by rw [beq_eq_false_iff_ne]; omega
              have t2 : ((c : Int) != (125 : Int)) = true := by rw [bne_iff_ne]; omega
              clear HP HA HN1 HN2 HR0
              go_wp2
              go_ret2
              exact ⟨_, by rw [HF.out]; rfl, by rw [HF.out]; exact HNO.out _, Below.refl _ _⟩
          | none =>
            have HH : Hid (hvi c = -1) := hvi_none hvc
            rw [HH.out] at HDG
            have HN2 : Hid (hv (Utf8.decode T p).1 = none) := HV.out.trans hvc
            clear hvc HV HH
            by_cases h6 : p < 6
            · by_cases hp0 : p = 0
              · subst hp0
                have HF : Hid (Z = (⟨#[]⟩, 0)) := by show _ = _; rw [← HP.out]; exact erL_no T 0 R hTp (fun hh => absurd hh.2.1 (by omega)) HN2.out
                have t1 : ((i : Int) + 3 + 0 == (i : Int) + 3) = true := by rw [beq_iff_eq]; omega
                clear HP HA HN2 HR0
                go_wp2_with fail
                refine (HDG.out _).mono ?_
                rintro e w1 ⟨rfl, rfl⟩
                go_wp2
                go_ret2
                exact ⟨_, by rw [HF.out]; rfl, by rw [HF.out]; exact HNO.out _, Below.refl _ _⟩
              · have t1 : ((i : Int) + 3 + (p : Int) == (i : Int) + 3) = false := by rw [beq_eq_false_iff_ne]; omega
                by_cases hc : c = 125
                · have HD : Hid ((Utf8.decode T p).1 = 125) := H125.out.2 hc
                  subst hc
                  by_cases hr1 : 1114111 < R
                  · have HF : Hid (Z = (⟨#[]⟩, 0)) := by show _ = _; rw [← HP.out]; exact erL_no T p R hTp (fun hh => absurd (valid_two R hh.2.2).1 (by omega)) HN2.out
                    have y0 : 1114111 < (R : Int) := by omega
                    have y1 : (R : Int) < 16777216 := by omega
                    clear HP HA HN2 HR0 H125 hr1 hR
                    generalize (R : Int) = y at *
                    go_wp2_with fail
                    refine (HDG.out _).mono ?_
                    rintro e w1 ⟨rfl, rfl⟩
                    go_wp2
                    go_ret2
                    exact ⟨_, by rw [HF.out]; rfl, by rw [HF.out]; exact HNO.out _, Below.refl _ _⟩
                  · have hr1' : R ≤ 1114111 := by omega
                    have HWI : Hid (∀ w' : World, Calls Tryz.prog 89 #[.int .i64 (R : Int), .int .i64 55296, .int .i64 57343] w' fun e w'' => e = .returned (.bool (decide ((55296 : Int) ≤ (R : Int)) && decide ((R : Int) ≤ 57343))) ∧ ∃ n, w'' = w'.drewN n) := fun w' => within_any _ _ _ w'
                    by_cases hr2 : 55296 ≤ R ∧ R ≤ 57343
                    · have HF : Hid (Z = (⟨#[]⟩, 0)) := by show _ = _; rw [← HP.out]; exact erL_no T p R hTp (fun hh => absurd (valid_two R hh.2.2).2 (by omega)) HN2.out
                      have HT : Hid ((decide ((55296 : Int) ≤ (R : Int)) && decide ((R : Int) ≤ 57343)) = true) := by show _ = _; rw [decide_eq_true (by omega), decide_eq_true (by omega)]; rfl
                      rw [HT.out] at HWI
                      have y0 : 0 ≤ (R : Int) := by omega
                      have y1 : (R : Int) ≤ 1114111 := by omega
                      clear HP HA HN2 HR0 H125 hr2 hr1 hr1' hR
                      generalize (R : Int) = y at *
                      go_wp2_with fail
                      refine (HDG.out _).mono ?_
                      rintro e w1 ⟨rfl, rfl⟩
                      go_wp2_with fail
                      refine (HWI.out _).mono ?_
                      rintro e w2 ⟨rfl, n2, rfl⟩
                      go_wp2
                      go_ret2
                      exact ⟨_, by rw [HF.out]; rfl, by rw [HF.out]; exact HNO.out _, below_drewN (Below.refl _ _) _⟩
                    · have hval : Utf8.valid (R : Int) = true := by
                        simp [Utf8.valid]
                        omega
                      have HF : Hid (Z = (Utf8.encode (R : Int), p + 4)) := by show _ = _; rw [← HP.out]; exact erL_end T p R hTp ⟨HD.out, by omega, hval⟩
                      have HT : Hid ((decide ((55296 : Int) ≤ (R : Int)) && decide ((R : Int) ≤ 57343)) = false) := by
                        show _ = _
                        by_cases h9 : 55296 ≤ R
                        · rw [decide_eq_false (show ¬ (R : Int) ≤ 57343 by omega), Bool.and_false]
                        · rw [decide_eq_false (show ¬ (55296 : Int) ≤ (R : Int) by omega), Bool.false_and]
                      rw [HT.out] at HWI
                      have HEN : Hid (∀ w' : World, Calls Tryz.prog 123 #[.int .i64 (R : Int)] w' fun e w'' => ∃ v, e = .returned v ∧ SlB w'' v (Utf8.encode (R : Int)).data.toList ∧ Below w'.heap.size w' w'') := fun w' => encoded_any R w' hval
                      have y0 : 0 ≤ (R : Int) := by omega
                      have y1 : (R : Int) ≤ 1114111 := by omega
                      clear HP HA HN2 HR0 H125 hr2 hval hr1 hr1' hR
                      generalize (R : Int) = y at *
                      generalize Utf8.encode y = E at *
                      go_wp2_with fail
                      refine (HDG.out _).mono ?_
                      rintro e w1 ⟨rfl, rfl⟩
                      go_wp2_with fail
                      refine (HWI.out _).mono ?_
                      rintro e w2 ⟨rfl, n2, rfl⟩
                      go_wp2_with fail
                      refine (HEN.out _).mono ?_
                      rintro e w3 ⟨v3, rfl, hs3, b3⟩
                      have B3 := andThen (below_drewN (Below.refl _ _) n2) b3
                      obtain ⟨g3, cap3, rfl, hc3⟩ := hs3
                      have HS3 : Hid (SlB w3 (.slice (some ⟨g3, 0, none⟩) E.data.toList.length cap3) E.data.toList) := ⟨g3, cap3, rfl, hc3⟩
                      clear hc3 b3
                      generalize E.data.toList.length = ln at *
                      go_wp2
                      go_ret2
                      refine ⟨.slice (some ⟨g3, 0, none⟩) ln cap3, ?_, ⟨⟨_, _, _, rfl⟩, fun _ => ?_⟩, B3⟩
                      · rw [HF.out]
                        exact ret2 _ _ _ (by omega)
                      · rw [HF.out]
                        exact HS3.out
                · have t2 : ((c : Int) != (125 : Int)) = true := by rw [bne_iff_ne]; omega
                  have HF : Hid (Z = (⟨#[]⟩, 0)) := by show _ = _; rw [← HP.out]; exact erL_no T p R hTp (fun hh => hc (H125.out.1 hh.1)) HN2.out
                  clear hc
                  clear HP HA HN2 HR0 H125
                  go_wp2_with fail
                  refine (HDG.out _).mono ?_
                  rintro e w1 ⟨rfl, rfl⟩
                  go_wp2
                  go_ret2
                  exact ⟨_, by rw [HF.out]; rfl, by rw [HF.out]; exact HNO.out _, Below.refl _ _⟩
            · obtain rfl : p = 6 := by omega
              have t1 : ((i : Int) + 3 + 6 == (i : Int) + 3) = false := by rw [beq_eq_false_iff_ne]; omega
              by_cases hc : c = 125
              · have HD : Hid ((Utf8.decode T 6).1 = 125) := H125.out.2 hc
                subst hc
                by_cases hr1 : 1114111 < R
                · have HF : Hid (Z = (⟨#[]⟩, 0)) := by show _ = _; rw [← HP.out]; exact erL_no T 6 R hTp (fun hh => absurd (valid_two R hh.2.2).1 (by omega)) HN2.out
                  have y0 : 1114111 < (R : Int) := by omega
                  have y1 : (R : Int) < 16777216 := by omega
                  clear HP HA HN2 HR0 H125 hr1 hR
                  generalize (R : Int) = y at *
                  go_wp2
                  go_ret2
                  exact ⟨_, by rw [HF.out]; rfl, by rw [HF.out]; exact HNO.out _, Below.refl _ _⟩
                · have hr1' : R ≤ 1114111 := by omega
                  have HWI : Hid (∀ w' : World, Calls Tryz.prog 89 #[.int .i64 (R : Int), .int .i64 55296, .int .i64 57343] w' fun e w'' => e = .returned (.bool (decide ((55296 : Int) ≤ (R : Int)) && decide ((R : Int) ≤ 57343))) ∧ ∃ n, w'' = w'.drewN n) := fun w' => within_any _ _ _ w'
                  by_cases hr2 : 55296 ≤ R ∧ R ≤ 57343
                  · have HF : Hid (Z = (⟨#[]⟩, 0)) := by show _ = _; rw [← HP.out]; exact erL_no T 6 R hTp (fun hh => absurd (valid_two R hh.2.2).2 (by omega)) HN2.out
                    have HT : Hid ((decide ((55296 : Int) ≤ (R : Int)) && decide ((R : Int) ≤ 57343)) = true) := by show _ = _; rw [decide_eq_true (by omega), decide_eq_true (by omega)]; rfl
                    rw [HT.out] at HWI
                    have y0 : 0 ≤ (R : Int) := by omega
                    have y1 : (R : Int) ≤ 1114111 := by omega
                    clear HP HA HN2 HR0 H125 hr2 hr1 hr1' hR
                    generalize (R : Int) = y at *
                    go_wp2_with fail
                    refine (HWI.out _).mono ?_
                    rintro e w2 ⟨rfl, n2, rfl⟩
                    go_wp2
                    go_ret2
                    exact ⟨_, by rw [HF.out]; rfl, by rw [HF.out]; exact HNO.out _, below_drewN (Below.refl _ _) _⟩
                  · have hval : Utf8.valid (R : Int) = true := by
                      simp [Utf8.valid]
                      omega
                    have HF : Hid (Z = (Utf8.encode (R : Int), 6 + 4)) := by show _ = _; rw [← HP.out]; exact erL_end T 6 R hTp ⟨HD.out, by omega, hval⟩
                    have HT : Hid ((decide ((55296 : Int) ≤ (R : Int)) && decide ((R : Int) ≤ 57343)) = false) := by
                      show _ = _
                      by_cases h9 : 55296 ≤ R
                      · rw [decide_eq_false (show ¬ (R : Int) ≤ 57343 by omega), Bool.and_false]
                      · rw [decide_eq_false (show ¬ (55296 : Int) ≤ (R : Int) by omega), Bool.false_and]
                    rw [HT.out] at HWI
                    have HEN : Hid (∀ w' : World, Calls Tryz.prog 123 #[.int .i64 (R : Int)] w' fun e w'' => ∃ v, e = .returned v ∧ SlB w'' v (Utf8.encode (R : Int)).data.toList ∧ Below w'.heap.size w' w'') := fun w' => encoded_any R w' hval
                    have y0 : 0 ≤ (R : Int) := by omega
                    have y1 : (R : Int) ≤ 1114111 := by omega
                    clear HP HA HN2 HR0 H125 hr2 hval hr1 hr1' hR
                    generalize (R : Int) = y at *
                    generalize Utf8.encode y = E at *
                    go_wp2_with fail
                    refine (HWI.out _).mono ?_
                    rintro e w2 ⟨rfl, n2, rfl⟩
                    go_wp2_with fail
                    refine (HEN.out _).mono ?_
                    rintro e w3 ⟨v3, rfl, hs3, b3⟩
                    have B3 := andThen (below_drewN (Below.refl _ _) n2) b3
                    obtain ⟨g3, cap3, rfl, hc3⟩ := hs3
                    have HS3 : Hid (SlB w3 (.slice (some ⟨g3, 0, none⟩) E.data.toList.length cap3) E.data.toList) := ⟨g3, cap3, rfl, hc3⟩
                    clear hc3 b3
                    generalize E.data.toList.length = ln at *
                    go_wp2
                    go_ret2
                    refine ⟨.slice (some ⟨g3, 0, none⟩) ln cap3, ?_, ⟨⟨_, _, _, rfl⟩, fun _ => ?_⟩, B3⟩
                    · rw [HF.out]
                      exact ret2 _ _ _ (by omega)
                    · rw [HF.out]
                      exact HS3.out
              · have t2 : ((c : Int) != (125 : Int)) = true := by rw [bne_iff_ne]; omega
                have HF : Hid (Z = (⟨#[]⟩, 0)) := by show _ = _; rw [← HP.out]; exact erL_no T 6 R hTp (fun hh => hc (H125.out.1 hh.1)) HN2.out
                clear hc
                clear HP HA HN2 HR0 H125
                go_wp2
                go_ret2
                exact ⟨_, by rw [HF.out]; rfl, by rw [HF.out]; exact HNO.out _, Below.refl _ _⟩
        · have HF : Hid (Z = (⟨#[]⟩, 0)) := by show _ = _; rw [← HP.out]; exact erL_out T p R (by rw [HTS.out]; omega)
          by_cases hp0 : p = 0
          · subst hp0
            have t1 : ((i : Int) + 3 + 0 == (i : Int) + 3) = true := by rw [beq_iff_eq]; omega
            go_wp2
            go_ret2
            exact ⟨_, by rw [HF.out]; rfl, by rw [HF.out]; exact HNO.out _, Below.refl _ _⟩
          · have t1 : ((i : Int) + 3 + (p : Int) == (i : Int) + 3) = false := by rw [beq_eq_false_iff_ne]; omega
            go_wp2
            go_ret2
            exact ⟨_, by rw [HF.out]; rfl, by rw [HF.out]; exact HNO.out _, Below.refl _ _⟩
    · rw [if_neg (fun h => c2 h.2)]
      rw [g2] at c2
      have t2 : (((s[i + 2]'c1).toNat : Int) != (123 : Int)) = true := by rw [bne_iff_ne]; omega
      have HNO : Hid (∀ w' : World, EscOK w' (.slice none 0 0) (⟨#[]⟩, 0)) := escOK_no
      clear g2 c2
      go_enter Tryz.func102, Tryz.ntmps102
      go_wp2
      go_ret2
      exact ⟨_, rfl, HNO.out _, Below.refl _ _⟩
  · rw [if_neg (fun h => c1 h.1)]
    have HNO : Hid (∀ w' : World, EscOK w' (.slice none 0 0) (⟨#[]⟩, 0)) := escOK_no
    go_enter Tryz.func102, Tryz.ntmps102
    go_wp2
    go_ret2
    exact ⟨_, rfl, HNO.out _, Below.refl _ _⟩
end Go.Proofs.YtcnnpohnfoaceaaGreatDoor.Text

/-
  The reference: escape.
-/
namespace Go.Proofs.YtcnnpohnfoaceaaGreatDoor.Text
open Go Go.RowKit Go.Lib
open Tx

namespace Tx
/-- an escape by its second byte -/
theorem esc_end (s : ByteArray) (i : Nat) (hi : i < s.size) (h1 : ¬ i + 1 < s.size) : esc (s.extract i s.size) = (⟨#[]⟩, 0) := by
  have hS := size_cut s i s.size (Nat.le_refl _)
  have no2 : ∀ b : UInt8, ¬ pre (s.extract i s.size) ⟨#[92, b]⟩ = true := fun b hp => by
    have h2 : 2 ≤ (s.extract i s.size).size := pre_size _ _ hp
    omega
  have no3 : ¬ pre (s.extract i s.size) ⟨#[92, 117, 123]⟩ = true := fun hp => by
    have h2 : 3 ≤ (s.extract i s.size).size := pre_size _ _ hp
    omega
  unfold esc
  rw [if_neg (no2 120), if_neg no3, if_neg (no2 34), if_neg (no2 92), if_neg (no2 110), if_neg (no2 116), if_neg (no2 114)]
theorem esc_other (s : ByteArray) (i : Nat) (h1 : i + 1 < s.size) (c : Nat) (hc : at' s (i + 1) = c) (hn : c ≠ 120 ∧ c ≠ 117 ∧ c ≠ 34 ∧ c ≠ 92 ∧ c ≠ 110 ∧ c ≠ 116 ∧ c ≠ 114) : esc (s.extract i s.size) = (⟨#[]⟩, 0) := by
  have a1 := at_from s i 1 h1
  rw [hc] at a1
  unfold esc
  rw [if_neg (pno a1 120 hn.1), if_neg (pnoU a1 hn.2.1), if_neg (pno a1 34 hn.2.2.1), if_neg (pno a1 92 hn.2.2.2.1), if_neg (pno a1 110 hn.2.2.2.2.1), if_neg (pno a1 116 hn.2.2.2.2.2.1), if_neg (pno a1 114 hn.2.2.2.2.2.2)]
theorem has_two (s : ByteArray) (i : Nat) (h0 : at' s i = 92) (h1 : i + 1 < s.size) (b : UInt8) (hc : at' s (i + 1) = b.toNat) : Has (s.extract i s.size) 0 [92, b] := by
  have hS := size_cut s i s.size (Nat.le_refl _)
  have a0 := at_from s i 0 (by omega)
  have a1 := at_from s i 1 h1
  rw [Nat.add_zero, h0] at a0
  rw [hc] at a1
  exact has_cons (by omega) a0 (has1 (by omega) a1)
theorem esc_120 (s : ByteArray) (i : Nat) (h0 : at' s i = 92) (h1 : i + 1 < s.size) (hc : at' s (i + 1) = 120) :
    esc (s.extract i s.size) = if i + 3 < s.size then (match hv (at' s (i + 2)), hv (at' s (i + 3)) with | some a, some b => (⟨#[UInt8.ofNat (16 * a + b)]⟩, 4) | _, _ => (⟨#[]⟩, 0)) else (⟨#[]⟩, 0) := by
  have hS := size_cut s i s.size (Nat.le_refl _)
  have hp := pre_yes (has_two s i h0 h1 120 hc) (by simp; omega)
  unfold esc
  rw [if_pos hp]
  unfold eb
  by_cases h3 : i + 3 < s.size
  · rw [if_neg (by omega), if_pos h3, at_from s i 2 (by omega), at_from s i 3 h3]
    cases hv (at' s (i + 2)) <;> cases hv (at' s (i + 3)) <;> rfl
  · rw [if_pos (by omega), if_neg h3]
end Tx
theorem slB_one (w : World) (t : TypeId) (c : Nat) (hc : c < 256) : SlB (w.alloc (.cells #[.int .u8 (c : Int)] t)) (.slice (some ⟨w.heap.size, 0, none⟩) 1 1) [UInt8.ofNat c] :=
  slB_lit w t [UInt8.ofNat c] #[.int .u8 (c : Int)] (by rw [bc1 c hc])

set_option maxRecDepth 100000 in
set_option maxHeartbeats 1000000 in
theorem resc_any (s : ByteArray) (i : Nat) (w : World) (hs : s.size ≤ 8000000) (hi : i < s.size) (h0 : at' s i = 92) :
    Calls Tryz.prog 86 #[.string s, .int .i64 (i : Int)] w fun e w' => ∃ v, e = .returned (.tuple #[v, .int .i64 (esc (s.extract i s.size)).2]) ∧ EscOK w' v (esc (s.extract i s.size)) ∧ Below w.heap.size w w' := by
  have HNO : Hid (∀ w' : World, EscOK w' (.slice none 0 0) (⟨#[]⟩, 0)) := escOK_no
  by_cases h1 : i + 1 < s.size
  · have g1 := at_get s (i + 1) h1
    have hcl := at_lt s (i + 1)
    obtain ⟨c, hc⟩ : ∃ c, at' s (i + 1) = c := ⟨_, rfl⟩
    have hcc : (s[i + 1]'h1).toNat = c := by rw [← g1]; exact hc
    by_cases c34 : c = 34
    · subst c34
      rw [esc_q (has_two s i h0 h1 34 hc)]
      have HS : Hid (∀ t, EscOK (w.alloc (.cells #[.int .u8 34] t)) (.slice (some ⟨w.heap.size, 0, none⟩) 1 1) (⟨#[34]⟩, 2)) := fun t => ⟨⟨_, _, _, rfl⟩, fun _ => slB_one w t 34 (by decide)⟩
      clear g1 hc h0
      go_enter Tryz.func86, Tryz.ntmps86
      go_wp2
      go_ret2
      exact ⟨_, rfl, HS.out _, up0 _ _⟩
    by_cases c92 : c = 92
    · subst c92
      rw [esc_b (has_two s i h0 h1 92 hc)]
      have HS : Hid (∀ t, EscOK (w.alloc (.cells #[.int .u8 92] t)) (.slice (some ⟨w.heap.size, 0, none⟩) 1 1) (⟨#[92]⟩, 2)) := fun t => ⟨⟨_, _, _, rfl⟩, fun _ => slB_one w t 92 (by decide)⟩
      clear g1 hc h0
      go_enter Tryz.func86, Tryz.ntmps86
      go_wp2
      go_ret2
      exact ⟨_, rfl, HS.out _, up0 _ _⟩
    by_cases c110 : c = 110
    · subst c110
      rw [esc_n (has_two s i h0 h1 110 hc)]
      have HS : Hid (∀ t, EscOK (w.alloc (.cells #[.int .u8 10] t)) (.slice (some ⟨w.heap.size, 0, none⟩) 1 1) (⟨#[10]⟩, 2)) := fun t => ⟨⟨_, _, _, rfl⟩, fun _ => slB_one w t 10 (by decide)⟩
      clear g1 hc h0
      go_enter Tryz.func86, Tryz.ntmps86
      go_wp2
      go_ret2
      exact ⟨_, rfl, HS.out _, up0 _ _⟩
    by_cases c116 : c = 116
    · subst c116
      rw [esc_t (has_two s i h0 h1 116 hc)]
      have HS : Hid (∀ t, EscOK (w.alloc (.cells #[.int .u8 9] t)) (.slice (some ⟨w.heap.size, 0, none⟩) 1 1) (⟨#[9]⟩, 2)) := fun t => ⟨⟨_, _, _, rfl⟩, fun _ => slB_one w t 9 (by decide)⟩
      clear g1 hc h0
      go_enter Tryz.func86, Tryz.ntmps86
      go_wp2
      go_ret2
      exact ⟨_, rfl, HS.out _, up0 _ _⟩
    by_cases c114 : c = 114
    · subst c114
      rw [esc_r (has_two s i h0 h1 114 hc)]
      have HS : Hid (∀ t, EscOK (w.alloc (.cells #[.int .u8 13] t)) (.slice (some ⟨w.heap.size, 0, none⟩) 1 1) (⟨#[13]⟩, 2)) := fun t => ⟨⟨_, _, _, rfl⟩, fun _ => slB_one w t 13 (by decide)⟩
      clear g1 hc h0
      go_enter Tryz.func86, Tryz.ntmps86
      go_wp2
      go_ret2
      exact ⟨_, rfl, HS.out _, up0 _ _⟩
    by_cases c117 : c = 117
    · subst c117
      have HBR : Hid (∀ w', Calls Tryz.prog 102 #[.string s, .int .i64 (i : Int)] w' fun e w'' => ∃ v, e = .returned (.tuple #[v, .int .i64 (esc (s.extract i s.size)).2]) ∧ EscOK w'' v (esc (s.extract i s.size)) ∧ Below w'.heap.size w' w'') := fun w' => braced_any s i w' hs h0 h1 hc
      generalize esc (s.extract i s.size) = X at *
      clear g1 hc h0
      go_enter Tryz.func86, Tryz.ntmps86
      go_wp2_with fail
      refine (HBR.out _).mono ?_
      rintro e w1 ⟨v1, rfl, he1, b1⟩
      obtain ⟨⟨ao, n, cap, rfl⟩, he2⟩ := he1
      have HE : Hid (EscOK w1 (.slice ao n cap) X) := ⟨⟨_, _, _, rfl⟩, he2⟩
      clear he2
      go_wp2
      go_ret2
      exact ⟨_, rfl, HE.out, b1⟩
    by_cases c120 : c = 120
    · subst c120
      rw [esc_120 s i h0 h1 hc]
      by_cases h3 : i + 3 < s.size
      · rw [if_pos h3]
        have h2 : i + 2 < s.size := by omega
        have g2 := at_get s (i + 2) h2
        have g3 := at_get s (i + 3) h3
        have l2 := at_lt s (i + 2)
        have l3 := at_lt s (i + 3)
        generalize at' s (i + 2) = d2 at *
        generalize at' s (i + 3) = d3 at *
        have HD2 : Hid (∀ w' : World, Calls Tryz.prog 101 #[.int .u8 (d2 : Int)] w' fun e w'' => e = .returned (.int .i64 (hvi d2)) ∧ w'' = w') := fun w' => rdig_any _ w' l2
        have HD3 : Hid (∀ w' : World, Calls Tryz.prog 101 #[.int .u8 (d3 : Int)] w' fun e w'' => e = .returned (.int .i64 (hvi d3)) ∧ w'' = w') := fun w' => rdig_any _ w' l3
        have g2' : (s[i + 2]'h2).toNat = d2 := g2.symm
        have g3' : (s[i + 3]'h3).toNat = d3 := g3.symm
        clear g1 g2 g3 hc h0
        cases e2 : hv d2 with
        | none =>
          have HH2 : Hid (hvi d2 = -1) := hvi_none e2
          rw [HH2.out] at HD2
          clear e2 HH2 HD3
          go_enter Tryz.func86, Tryz.ntmps86
          go_wp2_with fail
          refine (HD2.out _).mono ?_
          rintro e w1 ⟨rfl, rfl⟩
          go_wp2
          go_ret2
          exact ⟨_, rfl, HNO.out _, Below.refl _ _⟩
        | some a =>
          have hh2 : hvi d2 = (a : Int) := hvi_some e2
          have ha := hv_lt e2
          have HX2 : Hid (hvi d2 = (a : Int)) := hh2
          rw [HX2.out] at HD2
          clear e2
          cases e3 : hv d3 with
          | none =>
            have HH3 : Hid (hvi d3 = -1) := hvi_none e3
            rw [HH3.out] at HD3
            clear e3 HH3
            go_enter Tryz.func86, Tryz.ntmps86
            go_wp2_with fail
            refine (HD2.out _).mono ?_
            rintro e w1 ⟨rfl, rfl⟩
            go_wp2_with fail
            refine (HD3.out _).mono ?_
            rintro e w1 ⟨rfl, rfl⟩
            go_wp2
            go_ret2
            exact ⟨_, rfl, HNO.out _, Below.refl _ _⟩
          | some b =>
            have hh3 : hvi d3 = (b : Int) := hvi_some e3
            have hb := hv_lt e3
            have HX3 : Hid (hvi d3 = (b : Int)) := hh3
            rw [HX3.out] at HD3
            clear e3
            have HS : Hid (∀ (W : World) (t : TypeId) (z : Int), z = ((16 * a + b : Nat) : Int) → EscOK (W.alloc (.cells #[.int .u8 z] t)) (.slice (some ⟨W.heap.size, 0, none⟩) 1 1) (⟨#[UInt8.ofNat (16 * a + b)]⟩, 4)) := fun W t z hz => by subst hz; exact ⟨⟨_, _, _, rfl⟩, fun _ => slB_one W t (16 * a + b) (by omega)⟩
            go_enter Tryz.func86, Tryz.ntmps86
            go_wp2_with fail
            refine (HD2.out _).mono ?_
            rintro e w1 ⟨rfl, rfl⟩
            go_wp2_with fail
            refine (HD3.out _).mono ?_
            rintro e w1 ⟨rfl, rfl⟩
            have k2 : (i : Int) + 2 < (s.size : Int) := by omega
            have k3 : (i : Int) + 3 < (s.size : Int) := by omega
            have m2 : 0 ≤ (i : Int) + 2 := by omega
            have m3 : 0 ≤ (i : Int) + 3 := by omega
            have n2 : ((i : Int) + 2).toNat = i + 2 := by omega
            have n3 : ((i : Int) + 3).toNat = i + 3 := by omega
            go_wp2_with fail
            have w2 : IntKind.i64.wrap ((i : Int) + 2) = (i : Int) + 2 := IntWalk.i64_in _ (by omega)
            have w3 : IntKind.i64.wrap ((i : Int) + 3) = (i : Int) + 3 := IntWalk.i64_in _ (by omega)
            have w4 : IntKind.i64.wrap ((a : Int) * 16) = (a : Int) * 16 := IntWalk.i64_in _ (by omega)
            have w5 : IntKind.i64.wrap ((a : Int) * 16 + (b : Int)) = (a : Int) * 16 + (b : Int) := IntWalk.i64_in _ (by omega)
            have w6 : IntKind.u8.wrap ((a : Int) * 16 + (b : Int)) = (a : Int) * 16 + (b : Int) := IntWalk.u8_in _ (by omega)
            clear HD2 HD3
            go_region_held (fun _ => True) (exact trivial) (first
              | (go_at_call 101; refine (rdig_any _ _ ?_).mono ?_; (first | exact l2 | exact l3); rintro e w2 ⟨rfl, rfl⟩))
            all_goals
              go_wp2
              go_ret2
              exact ⟨_, rfl, HS.out _ _ _ (by omega), by repeat (first | exact up0 _ _ | exact Below.refl _ _ | refine Below.drew ?_ | refine up ?_ _)⟩
      · rw [if_neg h3]
        clear g1 hc h0
        go_enter Tryz.func86, Tryz.ntmps86
        go_wp2
        go_ret2
        exact ⟨_, rfl, HNO.out _, Below.refl _ _⟩
    rw [esc_other s i h1 c hc ⟨c120, c117, c34, c92, c110, c116, c114⟩]
    have t1 : ((c : Int) == (34 : Int)) = false := by rw [beq_eq_false_iff_ne]; omega
    have t2 : ((c : Int) == (92 : Int)) = false := by rw [beq_eq_false_iff_ne]; omega
    have t3 : ((c : Int) == (110 : Int)) = false := by rw [beq_eq_false_iff_ne]; omega
    have t4 : ((c : Int) == (116 : Int)) = false := by rw [beq_eq_false_iff_ne]; omega
    have t5 : ((c : Int) == (114 : Int)) = false := by rw [beq_eq_false_iff_ne]; omega
    have t6 : ((c : Int) == (120 : Int)) = false := by rw [beq_eq_false_iff_ne]; omega
    have t7 : ((c : Int) == (117 : Int)) = false := by rw [beq_eq_false_iff_ne]; omega
    clear g1 hc h0 c34 c92 c110 c116 c114 c117 c120
    go_enter Tryz.func86, Tryz.ntmps86
    go_wp2
    go_ret2
    exact ⟨_, rfl, HNO.out _, Below.refl _ _⟩
  · rw [esc_end s i hi h1]
    clear h0
    go_enter Tryz.func86, Tryz.ntmps86
    go_wp2
    go_ret2
    exact ⟨_, rfl, HNO.out _, Below.refl _ _⟩
end Go.Proofs.YtcnnpohnfoaceaaGreatDoor.Text
