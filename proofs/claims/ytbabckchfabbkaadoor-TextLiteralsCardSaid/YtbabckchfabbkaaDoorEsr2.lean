/-
  Package text: escapedRune, walked.
-/
import Derived.Test.YtbabckchfabbkaaDoorEsr
namespace Go.Proofs.YtbabckchfabbkaaDoor
open Go Go.RowKit Go.Lib
open Tx

theorem erL_out (t : ByteArray) (p v : Nat) (h : ¬ p < t.size) : erL t p v = (⟨#[]⟩, 0) := by rw [erL, dif_neg h]
theorem erL_end (t : ByteArray) (p v : Nat) (h : p < t.size) (h2 : (Utf8.decode t p).1 = 125 ∧ 0 < p ∧ Utf8.valid (v : Int) = true) : erL t p v = (Utf8.encode (v : Int), p + 4) := by rw [erL, dif_pos h, if_pos h2]
theorem erL_no (t : ByteArray) (p v : Nat) (h : p < t.size) (h2 : ¬ ((Utf8.decode t p).1 = 125 ∧ 0 < p ∧ Utf8.valid (v : Int) = true)) (hn : hv (Utf8.decode t p).1 = none) : erL t p v = (⟨#[]⟩, 0) := by rw [erL, dif_pos h, if_neg h2, hn]
theorem erL_six (t : ByteArray) (v d : Nat) (h : 6 < t.size) (h2 : ¬ ((Utf8.decode t 6).1 = 125 ∧ 0 < 6 ∧ Utf8.valid (v : Int) = true)) (hn : hv (Utf8.decode t 6).1 = some d) : erL t 6 v = (⟨#[]⟩, 0) := by rw [erL, dif_pos h, if_neg h2, hn]; rfl
theorem erL_on (t : ByteArray) (p v d : Nat) (h : p < t.size) (h6 : p ≠ 6) (h2 : ¬ ((Utf8.decode t p).1 = 125 ∧ 0 < p ∧ Utf8.valid (v : Int) = true)) (hn : hv (Utf8.decode t p).1 = some d) : erL t (p + 1) (v * 16 + d) = erL t p v := by
  rw [erL.eq_def t p v, dif_pos h, if_neg h2, hn]
  exact (if_neg h6).symm
theorem pow_lt (p v : Nat) (hp : p ≤ 6) (hv : v < 16 ^ p) : v < 16777216 := Nat.lt_of_lt_of_le hv (Nat.pow_le_pow_right (by decide) hp)
theorem pow_lt5 (p v : Nat) (hp : p ≤ 5) (hv : v < 16 ^ p) : v < 1048576 := Nat.lt_of_lt_of_le hv (Nat.pow_le_pow_right (by decide) hp)
set_option maxRecDepth 100000 in
set_option maxHeartbeats 2000000 in
theorem erune_any (s : ByteArray) (w : World) (hs : s.size ≤ 8000000) (h3 : 3 ≤ s.size) :
    Calls Tryd.prog 69 #[.string s] w fun e w' => e = .returned (.tuple #[.string (erL (s.extract 3 s.size) 0 0).1, .int .i64 (erL (s.extract 3 s.size) 0 0).2]) ∧ Below w.heap.size w w' := by
  obtain ⟨t, ht⟩ : ∃ t, s.extract 3 s.size = t := ⟨_, rfl⟩
  have hts : t.size ≤ 8000000 := by rw [← ht, size_cut s 3 s.size (Nat.le_refl _)]; omega
  rw [ht]
  obtain ⟨A, hA⟩ : ∃ A, erL t 0 0 = A := ⟨_, rfl⟩
  rw [hA]
  have HA : Hid (erL t 0 0 = A) := hA
  clear hA
  have HI : Hid ((w.iter t 0).heap[w.heap.size]? = some (.stringIter t 0)) := World.iter_heap w t 0
  have HB : Hid (Below w.heap.size w (w.iter t 0)) := up_iter w t 0
  go_enter Tryd.func69, Tryd.ntmps69
  go_wp2
  go_loopw [4] (fun c wr => ∃ (p v : Nat) (x : Int), c = .int .i32 x ∧ x = (v : Int) ∧ p ≤ 6 ∧ p ≤ t.size ∧ v < 16 ^ p ∧ erL t p v = A ∧ wr.heap[w.heap.size]? = some (.stringIter t p) ∧ Below w.heap.size w wr) (fun _ wr => t.size - wr.iterPos w.heap.size)
  case atStart => exact ⟨0, 0, 0, rfl, rfl, by omega, Nat.zero_le _, by decide, HA.out, HI.out, HB.out⟩
  case round =>
    obtain ⟨p, v, x, rfl, hxv, hp6, hp, hv16, ha, hit, hbel⟩ := hrel
    have HX : Hid (x = (v : Int)) := hxv
    have HV16 : Hid (v < 16 ^ p) := hv16
    have hx0 : 0 ≤ x := by omega
    have hx1 : x < 16777216 := by have := pow_lt p v hp6 hv16; omega
    have HAA : Hid (erL t p v = A) := ha
    have HPOS : Hid (wr.iterPos w.heap.size = p) := iter_pos hit
    clear ha HA HI HB hxv hv16
    by_cases hlt : p < t.size
    · have hnx : ∀ ty, (Instr.next (.pointer (some ⟨w.heap.size, 0, none⟩)) true ty).run Tryd.prog wr = _ := fun ty => run_next_at wr w.heap.size t p ty hit hlt
      have HI2 : Hid ((setIter wr w.heap.size t (p + (Utf8.decode t p).2)).heap[w.heap.size]? = some (.stringIter t (p + (Utf8.decode t p).2))) := iter_at wr w.heap.size t _ _ hit
      have hB2 : Below w.heap.size w (setIter wr w.heap.size t (p + (Utf8.decode t p).2)) := below_iter hbel _ (Nat.le_refl _) t _
      clear hbel hit
      generalize setIter wr w.heap.size t (p + (Utf8.decode t p).2) = w2 at *
      have HEND : Hid ((Utf8.decode t p).1 = 125 ∧ 0 < p ∧ Utf8.valid (v : Int) = true → A = (Utf8.encode (v : Int), p + 4)) := fun h => by rw [← HAA.out]; exact erL_end t p v hlt h
      have HNO : Hid (¬ ((Utf8.decode t p).1 = 125 ∧ 0 < p ∧ Utf8.valid (v : Int) = true) → hv (Utf8.decode t p).1 = none → A = (⟨#[]⟩, 0)) := fun h h2 => by rw [← HAA.out]; exact erL_no t p v hlt h h2
      have HSIX : Hid (p = 6 → ¬ ((Utf8.decode t p).1 = 125 ∧ 0 < p ∧ Utf8.valid (v : Int) = true) → ∀ d, hv (Utf8.decode t p).1 = some d → A = (⟨#[]⟩, 0)) := fun h6 h d h2 => by
        subst h6
        rw [← HAA.out]
        exact erL_six t v d hlt h h2
      have HON : Hid (p ≠ 6 → ¬ ((Utf8.decode t p).1 = 125 ∧ 0 < p ∧ Utf8.valid (v : Int) = true) → ∀ d, hv (Utf8.decode t p).1 = some d → erL t (p + 1) (v * 16 + d) = A) := fun h6 h d h2 => by
        rw [← HAA.out]
        exact erL_on t p v d hlt h6 h h2
      have HW : Hid ((Utf8.decode t p).1 < 128 → (Utf8.decode t p).2 = 1) := dec_low t p
      have hrv := dec_valid t p
      have HIR : Hid (∀ w', Calls Tryd.prog 80 #[.string hxs, .int .i32 ((Utf8.decode t p).1 : Int)] w' fun e w1 => e = .returned (.int .i64 (hvi (Utf8.decode t p).1)) ∧ Below w'.heap.size w' w1) := fun w' => irune_any _ w' hrv
      clear hrv HAA
      generalize (Utf8.decode t p).2 = wd at *
      obtain ⟨r, hr⟩ : ∃ r : Nat, (Utf8.decode t p).1 = r := ⟨_, rfl⟩
      rw [hr] at HEND HNO HSIX HON HW HIR
      simp only [hr] at hnx
      clear hr
      by_cases h125 : r = 125
      · subst h125
        have hv125 : hv 125 = none := by decide
        have e125 : hvi 125 = -1 := by decide
        rw [e125] at HIR
        by_cases hp0 : p = 0
        · have HF : Hid (A = (⟨#[]⟩, 0)) := HNO.out (by omega) hv125
          subst hp0
          clear HEND HNO HSIX HON hv125 e125
          go_wp2_with fail
          refine (HIR.out _).mono ?_
          rintro e w3 ⟨rfl, b3⟩
          have hB3 := andThen hB2 b3
          go_wp2
          go_ret2
          rw [HF.out]
          exact ⟨rfl, hB3⟩
        · have hp1 : 0 < p := by omega
          cases hvx : Utf8.valid x with
          | true =>
            have HF : Hid (A = (Utf8.encode x, p + 4)) := by
              show _ = _
              rw [HX.out]
              exact HEND.out ⟨rfl, hp1, by rw [← HX.out]; exact hvx⟩
            have HVX : Hid (Utf8.valid x = true) := hvx
            clear HEND HNO HSIX HON hv125 e125 hvx
            go_wp2_with fail
            refine (validRune_any _ _).mono ?_
            rw [HVX.out]
            rintro e w3 ⟨rfl, rfl⟩
            go_wp2
            go_ret2
            rw [HF.out]
            exact ⟨by go_num, hB2⟩
          | false =>
            have HF : Hid (A = (⟨#[]⟩, 0)) := HNO.out (by rw [← HX.out, hvx]; simp) hv125
            have HVX : Hid (Utf8.valid x = false) := hvx
            clear HEND HNO HSIX HON hv125 e125 hvx
            go_wp2_with fail
            refine (validRune_any _ _).mono ?_
            rw [HVX.out]
            rintro e w3 ⟨rfl, rfl⟩
            go_wp2_with fail
            refine (HIR.out _).mono ?_
            rintro e w4 ⟨rfl, b3⟩
            have hB3 := andThen hB2 b3
            go_wp2
            go_ret2
            rw [HF.out]
            exact ⟨rfl, hB3⟩
      · cases hvr : hv r with
        | none =>
          have HF : Hid (A = (⟨#[]⟩, 0)) := HNO.out (fun h => h125 h.1) hvr
          rw [hvi_none hvr] at HIR
          clear HEND HNO HSIX HON hvr
          go_wp2_with fail
          refine (HIR.out _).mono ?_
          rintro e w3 ⟨rfl, b3⟩
          have hB3 := andThen hB2 b3
          go_wp2
          go_ret2
          rw [HF.out]
          exact ⟨rfl, hB3⟩
        | some d =>
          have hd := hv_lt hvr
          have hrl := hv_low hvr
          rw [hvi_some hvr] at HIR
          obtain ⟨y, hy⟩ : ∃ y : Int, (d : Int) = y := ⟨_, rfl⟩
          rw [hy] at HIR
          have hy0 : 0 ≤ y := by omega
          have hy1 : y < 16 := by omega
          have HWD : Hid (wd = 1) := HW.out hrl
          by_cases h6 : p = 6
          · have HF : Hid (A = (⟨#[]⟩, 0)) := HSIX.out h6 (fun h => h125 h.1) d hvr
            clear HEND HNO HSIX HON hvr hy HW
            subst h6
            go_wp2_with fail
            refine (HIR.out _).mono ?_
            rintro e w3 ⟨rfl, b3⟩
            have hB3 := andThen hB2 b3
            go_wp2
            go_ret2
            rw [HF.out]
            exact ⟨rfl, hB3⟩
          · have HF : Hid (erL t (p + 1) (v * 16 + d) = A) := HON.out h6 (fun h => h125 h.1) d hvr
            have h6i : ((p : Int) == 6) = false := by simp; omega
            have hx5 : x < 1048576 := by have := pow_lt5 p v (by omega) HV16.out; have := HX.out; omega
            have q1 := shl4or32 x y hx0 hx5 hy0 hy1
            have HY : Hid ((d : Int) = y) := hy
            have HP : Hid (v * 16 + d < 16 ^ (p + 1)) := by
              show _ < _
              have := HV16.out
              rw [Nat.pow_succ]
              omega
            clear HEND HNO HSIX HON hvr hy HW
            go_wp2_with fail
            refine (HIR.out _).mono ?_
            rintro e w3 ⟨rfl, b3⟩
            have hB3 := andThen hB2 b3
            have HI3 : Hid (w3.heap[w.heap.size]? = some (.stringIter t (p + wd))) := (b3.block w.heap.size (Array.getElem?_eq_some_iff.1 HI2.out).1).trans HI2.out
            have HPS : Hid (w3.iterPos w.heap.size = p + 1) := by show _ = _; rw [iter_pos HI3.out, HWD.out]
            clear b3
            go_wp2
            go_roundw
            case rel => exact ⟨p + 1, v * 16 + d, x * 16 + y, by go_num, by rw [HX.out, ← HY.out]; omega, by omega, by omega, HP.out, HF.out, by rw [HI3.out, HWD.out], hB3⟩
            case measure => rw [HPS.out, HPOS.out]; omega
    · have hnx : ∀ ty, (Instr.next (.pointer (some ⟨w.heap.size, 0, none⟩)) true ty).run Tryd.prog wr = _ := fun ty => run_next_over wr w.heap.size t p ty hit hlt
      have HF : Hid (A = (⟨#[]⟩, 0)) := by show _ = _; rw [← HAA.out]; exact erL_out t p v hlt
      clear hit
      go_wp2
      go_ret2
      rw [HF.out]
      exact ⟨rfl, hbel⟩
end Go.Proofs.YtbabckchfabbkaaDoor
