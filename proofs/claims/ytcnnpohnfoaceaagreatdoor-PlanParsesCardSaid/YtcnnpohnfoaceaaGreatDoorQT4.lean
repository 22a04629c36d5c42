import Derived.Deep.RegionHeld
import Derived.Test.YtcnnpohnfoaceaaGreatDoorQT1
import Derived.Test.YtcnnpohnfoaceaaGreatDoorQT3
/-
  UTF-8: what stands within a rune is no ASCII byte: every ASCII byte is a place at which a range over the text stops.
-/
namespace Go.Proofs.YtcnnpohnfoaceaaGreatDoor.Text
open Go Go.RowKit
namespace Tx

theorem rd_tail (f : Nat → Nat) (n k : Nat) (h1 : 1 ≤ k) (h2 : k < (rd f n).2) : 128 ≤ f k := by
  revert h2
  unfold rd
  split
  · intro h; simp at h; omega
  · split
    · rename_i h0 h1'
      simp only [Bool.and_eq_true, beq_iff_eq, decide_eq_true_eq] at h1'
      split
      · intro h
        simp at h
        obtain rfl : k = 1 := by omega
        omega
      · intro h; simp at h; omega
    · split
      · rename_i h0 _ h1'
        simp only [Bool.and_eq_true, beq_iff_eq, decide_eq_true_eq] at h1'
        split
        · intro h
          simp at h
          rcases (by omega : k = 1 ∨ k = 2) with rfl | rfl <;> omega
        · intro h; simp at h; omega
      · split
        · rename_i h0 _ _ h1'
          simp only [Bool.and_eq_true, beq_iff_eq, decide_eq_true_eq] at h1'
          split
          · intro h
            simp at h
            rcases (by omega : k = 1 ∨ k = 2 ∨ k = 3) with rfl | rfl | rfl <;> omega
          · intro h; simp at h; omega
        · intro h; simp at h; omega
theorem rd_ascii (f : Nat → Nat) (n : Nat) (h : f 0 < 128) : rd f n = (f 0, 1) := by
  unfold rd
  rw [if_pos (by omega)]
theorem rd_small (f : Nat → Nat) (n : Nat) (h : (rd f n).1 < 128) : f 0 < 128 := by
  revert h
  unfold rd
  have hE : ¬ Utf8.runeError < 128 := by decide
  split
  · intro h; omega
  · split
    · split
      · intro h; simp only at h; omega
      · intro h; exact absurd h hE
    · split
      · split
        · rename_i h5
          simp only [Bool.and_eq_true, decide_eq_true_eq] at h5
          intro h; simp only at h; omega
        · intro h; exact absurd h hE
      · split
        · split
          · rename_i h5
            simp only [Bool.and_eq_true, decide_eq_true_eq] at h5
            intro h; simp only at h; omega
          · intro h; exact absurd h hE
        · intro h; exact absurd h hE
theorem dec_tail (s : ByteArray) (p k : Nat) (h1 : 1 ≤ k) (h2 : k < (Utf8.decode s p).2) : 128 ≤ at' s (p + k) := by
  rw [decode_eq] at h2
  exact rd_tail _ _ k h1 h2
theorem dec_asc (s : ByteArray) (p : Nat) (h : at' s p < 128) : Utf8.decode s p = (at' s p, 1) := by
  rw [decode_eq]
  exact rd_ascii _ _ h
theorem dec_small (s : ByteArray) (p : Nat) (h : (Utf8.decode s p).1 < 128) : at' s p < 128 ∧ Utf8.decode s p = (at' s p, 1) := by
  rw [decode_eq] at h
  have h0 : at' s p < 128 := rd_small _ _ h
  exact ⟨h0, dec_asc s p h0⟩
theorem rd_le (f : Nat → Nat) (n : Nat) (hf : ∀ k, f k < 256) : (rd f n).1 ≤ 1114111 := by
  have hE : Utf8.runeError ≤ 1114111 := by decide
  have h0 := hf 0
  have h1 := hf 1
  have h2 := hf 2
  have h3 := hf 3
  unfold rd
  split
  · simp only; omega
  · split
    · split
      · simp only; omega
      · exact hE
    · split
      · split
        · simp only; omega
        · exact hE
      · split
        · split
          · rename_i h5
            simp only [Utf8.valid, Bool.and_eq_true, Bool.or_eq_true, decide_eq_true_eq] at h5
            simp only
            omega
          · exact hE
        · exact hE
theorem dec_le (s : ByteArray) (p : Nat) : (Utf8.decode s p).1 ≤ 1114111 := by
  rw [decode_eq]
  exact rd_le _ _ fun k => at_lt s _
end Tx
end Go.Proofs.YtcnnpohnfoaceaaGreatDoor.Text

/-
  Package text: escapedRune.
-/
namespace Go.Proofs.YtcnnpohnfoaceaaGreatDoor.Text
open Go Go.RowKit Go.Lib
open Tx

theorem dec_low (s : ByteArray) (i : Nat) (h : (Utf8.decode s i).1 < 128) : (Utf8.decode s i).2 = 1 := by
  revert h
  unfold Utf8.decode
  dsimp only [Utf8.runeError]
  repeat' split
  all_goals (intro h; first | rfl | (exfalso; simp_all; omega))
theorem dec_valid (s : ByteArray) (i : Nat) : Utf8.valid ((Utf8.decode s i).1 : Int) = true := by
  unfold Utf8.decode
  dsimp only [Utf8.runeError]
  have h0 : (s.get! (i + 0)).toNat < 256 := (s.get! (i + 0)).toNat_lt
  have h1 : (s.get! (i + 1)).toNat < 256 := (s.get! (i + 1)).toNat_lt
  repeat' split
  all_goals first | decide | (simp_all [Utf8.valid]; done) | (simp_all [Utf8.valid]; omega)
/-- what escapedRune reads behind its brace -/
def Tx.erL (t : ByteArray) (p v : Nat) : ByteArray × Nat :=
  if _h : p < t.size then
    if (Utf8.decode t p).1 = 125 ∧ 0 < p ∧ Utf8.valid (v : Int) = true then (Utf8.encode (v : Int), p + 4)
    else match hv (Utf8.decode t p).1 with
      | none => (⟨#[]⟩, 0)
      | some d => if p = 6 then (⟨#[]⟩, 0) else erL t (p + 1) (v * 16 + d)
  else (⟨#[]⟩, 0)
termination_by t.size - p
theorem hvi_some {r d : Nat} (h : hv r = some d) : hvi r = (d : Int) := by unfold hvi; rw [h]; rfl
theorem hvi_none {r : Nat} (h : hv r = none) : hvi r = -1 := by unfold hvi; rw [h]; rfl
theorem hv_low {r d : Nat} (h : hv r = some d) : r < 128 := by
  unfold hv at h
  split at h
  · omega
  · split at h
    · omega
    · simp at h
theorem shl4or32 (x d : Int) (h0 : 0 ≤ x) (h1 : x < 1048576) (h2 : 0 ≤ d) (h3 : d < 16) : bits .or .i32 (x * 16) d = x * 16 + d := by
  obtain ⟨X, rfl⟩ := Int.eq_ofNat_of_zero_le h0
  obtain ⟨D, rfl⟩ := Int.eq_ofNat_of_zero_le h2
  have hb : D < 2 ^ 4 := by omega
  have e : (X * 16) ||| D = X * 16 + D := by
    have := Nat.two_pow_add_eq_or_of_lt hb X
    rw [Nat.mul_comm X 16]
    exact this.symm
  show IntKind.i32.wrap ((BitVec.ofInt 32 ((X : Int) * 16) ||| BitVec.ofInt 32 (D : Int)).toNat : Int) = _
  have e1 : (BitVec.ofInt 32 ((X : Int) * 16)).toNat = X * 16 := by
    rw [BitVec.toNat_ofInt]
    omega
  have e2 : (BitVec.ofInt 32 (D : Int)).toNat = D := by
    rw [BitVec.toNat_ofInt]
    omega
  rw [BitVec.toNat_or, e1, e2, e]
  simp [IntKind.wrap, IntKind.bits, IntKind.signed]
  omega
end Go.Proofs.YtcnnpohnfoaceaaGreatDoor.Text

/-
  Package text: escapedRune, walked.
-/
namespace Go.Proofs.YtcnnpohnfoaceaaGreatDoor.Text
open Go Go.RowKit Go.Lib
open Tx

theorem erL_out (t : ByteArray) (p v : Nat) (h : ¬ p < t.size) : erL t p v = (⟨#[]⟩, 0) := by rw [erL, dif_neg h]
theorem erL_end (t : ByteArray) (p v : Nat) (h : p < t.size) (h2 : (Utf8.decode t p).1 = 125 ∧ 0 < p ∧ Utf8.valid (v : Int) = true) : erL t p v = (Utf8.encode (v : Int), p + 4) := by rw [erL, dif_pos h, if_pos h2]
theorem erL_no (t : ByteArray) (p v : Nat) (h : p < t.size) (h2 : ¬ ((Utf8.decode t p).1 = 125 ∧ 0 < p ∧ Utf8.valid (v : Int) = true)) (hn : hv (Utf8.decode t p).1 = none) : erL t p v = (⟨#[]⟩, 0) := by rw [erL, dif_pos h, if_neg h2, hn]
theorem erL_six (t : ByteArray) (v d : Nat) (h : 6 < t.size) (h2 : ¬ ((Utf8.decode t 6).1 = 125 ∧ 0 < 6 ∧ Utf8.valid (v : Int) = true)) (hn : hv (Utf8.decode t 6).1 = some d) : erL t 6 v = (⟨#[]⟩, 0) := by rw [erL, dif_pos h, if_neg h2, hn]; rfl
theorem erL_on (t : ByteArray) (p v d : Nat) (h : p < t.size) (h6 : p ≠ 6) (h2 : ¬ ((Utf8.decode t p).1 = 125 ∧ 0 < p ∧ Utf8.valid (v : Int) = true)) (hn : hv (Utf8.decode t p).1 = some d) : erL t (p + 1) (v * 16 + d) = erL t p v := by
  rw [erL.eq_def t p v, dif_pos h, if_neg h2, hn]
  exact (if_neg h6).symm
theorem pow_lt (p v : Nat) (hp : p ≤ 6) (hv : v < 16 ^ p) : v < 16777216 := Nat.lt_of_lt_of_le hv (Nat.pow_le_pow_right (by decide) hp)
theorem pow_lt5 (p v : Nat) (hp : p ≤ 5) (hv : v < 16 ^ p) : v < 1048576 := Nat.lt_of_lt_of_le hv (Nat.pow_le_pow_right (by decide) hp)
set_option maxRecDepth 100000 in
set_option maxHeartbeats 2000000 in
theorem erune_any (s : ByteArray) (w : World) (hs : s.size ≤ 8000000) (h3 : 3 ≤ s.size) :
    Calls Tryz.prog 135 #[.string s] w fun e w' => e = .returned (.tuple #[.string (erL (s.extract 3 s.size) 0 0).1, .int .i64 (erL (s.extract 3 s.size) 0 0).2]) ∧ Below w.heap.size w w' := by
  obtain ⟨t, ht⟩ : ∃ t, s.extract 3 s.size = t := ⟨_, rfl⟩
  have hts : t.size ≤ 8000000 := by rw [← ht, size_cut s 3 s.size (Nat.le_refl _)]; omega
  rw [ht]
  obtain ⟨A, hA⟩ : ∃ A, erL t 0 0 = A := ⟨_, rfl⟩
  rw [hA]
  have HA : Hid (erL t 0 0 = A) := hA
  clear hA
  have HI : Hid ((w.iter t 0).heap[w.heap.size]? = some (.stringIter t 0)) := World.iter_heap w t 0
  have HB : Hid (Below w.heap.size w (w.iter t 0)) := up_iter w t 0
  go_enter Tryz.func135, Tryz.ntmps135
  go_wp2
  go_loopw [4] (fun c wr => ∃ (p v : Nat) (x : Int), c = .int .i32 x ∧ x = (v : Int) ∧ p ≤ 6 ∧ p ≤ t.size ∧ v < 16 ^ p ∧ erL t p v = A ∧ wr.heap[w.heap.size]? = some (.stringIter t p) ∧ Below w.heap.size w wr) (fun _ wr => t.size - wr.iterPos w.heap.size)
  case atStart => exact ⟨0, 0, 0, rfl, rfl, by omega, Nat.zero_le _, by decide, HA.out, HI.out, HB.out⟩
  case round =>
    obtain ⟨p, v, x, rfl, hxv, hp6, hp, hv16, ha, hit, hbel⟩ := hrel
    have HX : Hid (x = (v : Int)) := hxv
    have HV16 : Hid (v < 16 ^ p) := hv16
    have hx0 : 0 ≤ x := by omega
    have hx1 : x < 16777216 := by have := pow_lt p v hp6 hv16; omega
    have HAA : Hid (erL t p v = A) := ha
    have HPOS : Hid (wr.iterPos w.heap.size = p) := iter_pos hit
    clear ha HA HI HB hxv hv16
    by_cases hlt : p < t.size
    · have hnx : ∀ ty, (Instr.next (.pointer (some ⟨w.heap.size, 0, none⟩)) true ty).run Tryz.prog wr = _ := fun ty => run_next_at wr w.heap.size t p ty hit hlt
      have HI2 : Hid ((setIter wr w.heap.size t (p + (Utf8.decode t p).2)).heap[w.heap.size]? = some (.stringIter t (p + (Utf8.decode t p).2))) := iter_at wr w.heap.size t _ _ hit
      have hB2 : Below w.heap.size w (setIter wr w.heap.size t (p + (Utf8.decode t p).2)) := below_iter hbel _ (Nat.le_refl _) t _
      clear hbel hit
      generalize setIter wr w.heap.size t (p + (Utf8.decode t p).2) = w2 at *
      have HEND : Hid ((Utf8.decode t p).1 = 125 ∧ 0 < p ∧ Utf8.valid (v : Int) = true → A = (Utf8.encode (v : Int), p + 4)) := fun h => by rw [← HAA.out]; exact erL_end t p v hlt h
      have HNO : Hid (¬ ((Utf8.decode t p).1 = 125 ∧ 0 < p ∧ Utf8.valid (v : Int) = true) → hv (Utf8.decode t p).1 = none → A = (⟨#[]⟩, 0)) := fun h h2 => by rw [← HAA.out]; exact erL_no t p v hlt h h2
      have HSIX : Hid (p = 6 → ¬ ((Utf8.decode t p).1 = 125 ∧ 0 < p ∧ Utf8.valid (v : Int) = true) → ∀ d, hv (Utf8.decode t p).1 = some d → A = (⟨#[]⟩, 0)) := fun h6 h d h2 => by
        subst h6
        rw [← HAA.out]
        exact erL_six t v d hlt h h2
      have HON : Hid (p ≠ 6 → ¬ ((Utf8.decode t p).1 = 125 ∧ 0 < p ∧ Utf8.valid (v : Int) = true) → ∀ d, hv (Utf8.decode t p).1 = some d → erL t (p + 1) (v * 16 + d) = A) := fun h6 h d h2 => by
        rw [← HAA.out]
        exact erL_on t p v d hlt h6 h h2
      have HW : Hid ((Utf8.decode t p).1 < 128 → (Utf8.decode t p).2 = 1) := dec_low t p
      have hrv := dec_valid t p
      have HIR : Hid (∀ w', Calls Tryz.prog 94 #[.string hxs, .int .i32 ((Utf8.decode t p).1 : Int)] w' fun e w1 => e = .returned (.int .i64 (hvi (Utf8.decode t p).1)) ∧ Below w'.heap.size w' w1) := fun w' => irune_any _ w' hrv
      clear hrv HAA
      generalize (Utf8.decode t p).2 = wd at *
      obtain ⟨r, hr⟩ : ∃ r : Nat, (Utf8.decode t p).1 = r := ⟨_, rfl⟩
      rw [hr] at HEND HNO HSIX HON HW HIR
      simp only [hr] at hnx
      clear hr
      by_cases h125 : r = 125
      · subst h125
        have hv125 : hv 125 = none := by decide
        have e125 : hvi 125 = -1 := by decide
        rw [e125] at HIR
        by_cases hp0 : p = 0
        · have HF : Hid (A = (⟨#[]⟩, 0)) := HNO.out (by omega) hv125
          subst hp0
          clear HEND HNO HSIX HON hv125 e125
          go_wp2_with fail
          refine (HIR.out _).mono ?_
          rintro e w3 ⟨rfl, b3⟩
          have hB3 := andThen hB2 b3
          go_wp2
          go_ret2
          rw [HF.out]
          exact ⟨rfl, hB3⟩
        · have hp1 : 0 < p := by omega
          cases hvx : Utf8.valid x with
          | true =>
            have HF : Hid (A = (Utf8.encode x, p + 4)) := by
              show _ = _
              rw [HX.out]
              exact HEND.out ⟨rfl, hp1, by rw [← HX.out]; exact hvx⟩
            have HVX : Hid (Utf8.valid x = true) := hvx
            clear HEND HNO HSIX HON hv125 e125 hvx
            go_wp2_with fail
            refine (validRune_any _ _).mono ?_
            rw [HVX.out]
            rintro e w3 ⟨rfl, rfl⟩
            go_wp2
            go_ret2
            rw [HF.out]
            exact ⟨by go_num, hB2⟩
          | false =>
            have HF : Hid (A = (⟨#[]⟩, 0)) := HNO.out (by rw [← HX.out, hvx]; simp) hv125
            have HVX : Hid (Utf8.valid x = false) := hvx
            clear HEND HNO HSIX HON hv125 e125 hvx
            go_wp2_with fail
            refine (validRune_any _ _).mono ?_
            rw [HVX.out]
            rintro e w3 ⟨rfl, rfl⟩
            go_wp2_with fail
            refine (HIR.out _).mono ?_
            rintro e w4 ⟨rfl, b3⟩
            have hB3 := andThen hB2 b3
            go_wp2
            go_ret2
            rw [HF.out]
            exact ⟨rfl, hB3⟩
      · cases hvr : hv r with
        | none =>
          have HF : Hid (A = (⟨#[]⟩, 0)) := HNO.out (fun h => h125 h.1) hvr
          rw [hvi_none hvr] at HIR
          clear HEND HNO HSIX HON hvr
          go_wp2_with fail
          refine (HIR.out _).mono ?_
          rintro e w3 ⟨rfl, b3⟩
          have hB3 := andThen hB2 b3
          go_wp2
          go_ret2
          rw [HF.out]
          exact ⟨rfl, hB3⟩
        | some d =>
          have hd := hv_lt hvr
          have hrl := hv_low hvr
          rw [hvi_some hvr] at HIR
          obtain ⟨y, hy⟩ : ∃ y : Int, (d : Int) = y := ⟨_, rfl⟩
          rw [hy] at HIR
          have hy0 : 0 ≤ y := by omega
          have hy1 : y < 16 := by omega
          have HWD : Hid (wd = 1) := HW.out hrl
          by_cases h6 : p = 6
          · have HF : Hid (A = (⟨#[]⟩, 0)) := HSIX.out h6 (fun h => h125 h.1) d hvr
            clear HEND HNO HSIX HON hvr hy HW
            subst h6
            go_wp2_with fail
            refine (HIR.out _).mono ?_
            rintro e w3 ⟨rfl, b3⟩
            have hB3 := andThen hB2 b3
            go_wp2
            go_ret2
            rw [HF.out]
            exact ⟨rfl, hB3⟩
          · have HF : Hid (erL t (p + 1) (v * 16 + d) = A) := HON.out h6 (fun h => h125 h.1) d hvr
            have h6i : ((p : Int) == 6) = false := by simp; omega
            have hx5 : x < 1048576 := by have := pow_lt5 p v (by omega) HV16.out; have := HX.out; omega
            have q1 := shl4or32 x y hx0 hx5 hy0 hy1
            have HY : Hid ((d : Int) = y) := hy
            have HP : Hid (v * 16 + d < 16 ^ (p + 1)) := by
              show _ < _
              have := HV16.out
              rw [Nat.pow_succ]
              omega
            clear HEND HNO HSIX HON hvr hy HW
            go_wp2_with fail
            refine (HIR.out _).mono ?_
            rintro e w3 ⟨rfl, b3⟩
            have hB3 := andThen hB2 b3
            have HI3 : Hid (w3.heap[w.heap.size]? = some (.stringIter t (p + wd))) := (b3.block w.heap.size (Array.getElem?_eq_some_iff.1 HI2.out).1).trans HI2.out
            have HPS : Hid (w3.iterPos w.heap.size = p + 1) := by show _ = _; rw [iter_pos HI3.out, HWD.out]
            clear b3
            go_wp2
            go_roundw
            case rel => exact ⟨p + 1, v * 16 + d, x * 16 + y, by go_num, by rw [HX.out, ← HY.out]; omega, by omega, by omega, HP.out, HF.out, by rw [HI3.out, HWD.out], hB3⟩
            case measure => rw [HPS.out, HPOS.out]; omega
    · have hnx : ∀ ty, (Instr.next (.pointer (some ⟨w.heap.size, 0, none⟩)) true ty).run Tryz.prog wr = _ := fun ty => run_next_over wr w.heap.size t p ty hit hlt
      have HF : Hid (A = (⟨#[]⟩, 0)) := by show _ = _; rw [← HAA.out]; exact erL_out t p v hlt
      clear hit
      go_wp2
      go_ret2
      rw [HF.out]
      exact ⟨rfl, hbel⟩
end Go.Proofs.YtcnnpohnfoaceaaGreatDoor.Text

/-
  Package text: escape.
-/
namespace Go.Proofs.YtcnnpohnfoaceaaGreatDoor.Text
open Go Go.RowKit Go.Lib
open Tx

/-- what escape reads -/
def Tx.esc (s : ByteArray) : ByteArray × Nat :=
  if pre s ⟨#[92, 120]⟩ = true then eb s
  else if pre s ⟨#[92, 117, 123]⟩ = true then erL (s.extract 3 s.size) 0 0
  else if pre s ⟨#[92, 34]⟩ = true then (⟨#[34]⟩, 2)
  else if pre s ⟨#[92, 92]⟩ = true then (⟨#[92]⟩, 2)
  else if pre s ⟨#[92, 110]⟩ = true then (⟨#[10]⟩, 2)
  else if pre s ⟨#[92, 116]⟩ = true then (⟨#[9]⟩, 2)
  else if pre s ⟨#[92, 114]⟩ = true then (⟨#[13]⟩, 2)
  else (⟨#[]⟩, 0)
theorem pre_size (s p : ByteArray) (h : pre s p = true) : p.size ≤ s.size := by
  unfold pre at h
  simp only [Bool.and_eq_true, decide_eq_true_eq] at h
  exact h.1
set_option maxRecDepth 100000 in
set_option maxHeartbeats 2000000 in
theorem esc_any (s : ByteArray) (w : World) (hs : s.size ≤ 8000000) :
    Calls Tryz.prog 117 #[.string s] w fun e w' => e = .returned (.tuple #[.string (esc s).1, .int .i64 (esc s).2]) ∧ Below w.heap.size w w' := by
  cases p0 : pre s ⟨#[92, 120]⟩ with
  | true =>
    have HF : Hid (esc s = eb s) := by show _ = _; unfold esc; rw [if_pos p0]
    have HP0 : Hid (pre s ⟨#[92, 120]⟩ = true) := p0
    rw [HF.out]
    generalize hE : eb s = E
    have HE : Hid (∀ w', Calls Tryz.prog 134 #[.string s] w' fun e w1 => e = .returned (.tuple #[.string E.1, .int .i64 E.2]) ∧ Below w'.heap.size w' w1) := fun w' => hE ▸ ebyte_any s w' hs
    clear HF p0 hE
    go_enter Tryz.func117, Tryz.ntmps117
    go_wp2_with fail
    refine (hp_any _ _ _).mono ?_
    rw [HP0.out]
    rintro e w1 ⟨rfl, rfl⟩
    go_wp2_with fail
    refine (HE.out _).mono ?_
    rintro e w2 ⟨rfl, b2⟩
    go_wp2
    go_ret2
    exact ⟨rfl, b2⟩
  | false =>
  have HP0 : Hid (pre s ⟨#[92, 120]⟩ = false) := p0
  clear p0
  cases p1 : pre s ⟨#[92, 117, 123]⟩ with
  | true =>
    have HF : Hid (esc s = erL (s.extract 3 s.size) 0 0) := by show _ = _; unfold esc; rw [if_neg (by rw [HP0.out]; simp), if_pos p1]
    have HP1 : Hid (pre s ⟨#[92, 117, 123]⟩ = true) := p1
    rw [HF.out]
    generalize hE : erL (s.extract 3 s.size) 0 0 = E
    have HE : Hid (∀ w', Calls Tryz.prog 135 #[.string s] w' fun e w1 => e = .returned (.tuple #[.string E.1, .int .i64 E.2]) ∧ Below w'.heap.size w' w1) := fun w' => hE ▸ erune_any s w' hs (pre_size _ _ p1)
    clear HF p1 hE
    go_enter Tryz.func117, Tryz.ntmps117
    go_wp2_with fail
    refine (hp_any _ _ _).mono ?_
    rw [HP0.out]
    rintro e w1 ⟨rfl, rfl⟩
    go_wp2_with fail
    refine (hp_any _ _ _).mono ?_
    rw [HP1.out]
    rintro e w1 ⟨rfl, rfl⟩
    go_wp2_with fail
    refine (HE.out _).mono ?_
    rintro e w2 ⟨rfl, b2⟩
    go_wp2
    go_ret2
    exact ⟨rfl, b2⟩
  | false =>
  have HP1 : Hid (pre s ⟨#[92, 117, 123]⟩ = false) := p1
  clear p1
  cases p2 : pre s ⟨#[92, 34]⟩ with
  | true =>
    have HF : Hid (esc s = (⟨#[34]⟩, 2)) := by show _ = _; unfold esc; rw [if_neg (by rw [HP0.out]; simp), if_neg (by rw [HP1.out]; simp), if_pos p2]
    have HP2 : Hid (pre s ⟨#[92, 34]⟩ = true) := p2
    rw [HF.out]
    clear HF p2
    go_enter Tryz.func117, Tryz.ntmps117
    go_wp2_with fail
    refine (hp_any _ _ _).mono ?_
    rw [HP0.out]
    rintro e w1 ⟨rfl, rfl⟩
    go_wp2_with fail
    refine (hp_any _ _ _).mono ?_
    rw [HP1.out]
    rintro e w1 ⟨rfl, rfl⟩
    go_wp2_with fail
    refine (hp_any _ _ _).mono ?_
    rw [HP2.out]
    rintro e w1 ⟨rfl, rfl⟩
    go_wp2
    go_ret2
    exact ⟨rfl, Below.refl _ _⟩
  | false =>
  have HP2 : Hid (pre s ⟨#[92, 34]⟩ = false) := p2
  clear p2
  cases p3 : pre s ⟨#[92, 92]⟩ with
  | true =>
    have HF : Hid (esc s = (⟨#[92]⟩, 2)) := by show _ = _; unfold esc; rw [if_neg (by rw [HP0.out]; simp), if_neg (by rw [HP1.out]; simp), if_neg (by rw [HP2.out]; simp), if_pos p3]
    have HP3 : Hid (pre s ⟨#[92, 92]⟩ = true) := p3
    rw [HF.out]
    clear HF p3
    go_enter Tryz.func117, Tryz.ntmps117
    go_wp2_with fail
    refine (hp_any _ _ _).mono ?_
    rw [HP0.out]
    rintro e w1 ⟨rfl, rfl⟩
    go_wp2_with fail
    refine (hp_any _ _ _).mono ?_
    rw [HP1.out]
    rintro e w1 ⟨rfl, rfl⟩
    go_wp2_with fail
    refine (hp_any _ _ _).mono ?_
    rw [HP2.out]
    rintro e w1 ⟨rfl, rfl⟩
    go_wp2_with fail
    refine (hp_any _ _ _).mono ?_
    rw [HP3.out]
    rintro e w1 ⟨rfl, rfl⟩
    go_wp2
    go_ret2
    exact ⟨rfl, Below.refl _ _⟩
  | false =>
  have HP3 : Hid (pre s ⟨#[92, 92]⟩ = false) := p3
  clear p3
  cases p4 : pre s ⟨#[92, 110]⟩ with
  | true =>
    have HF : Hid (esc s = (⟨#[10]⟩, 2)) := by show _ = _; unfold esc; rw [if_neg (by rw [HP0.out]; simp), if_neg (by rw [HP1.out]; simp), if_neg (by rw [HP2.out]; simp), if_neg (by rw [HP3.out]; simp), if_pos p4]
    have HP4 : Hid (pre s ⟨#[92, 110]⟩ = true) := p4
    rw [HF.out]
    clear HF p4
    go_enter Tryz.func117, Tryz.ntmps117
    go_wp2_with fail
    refine (hp_any _ _ _).mono ?_
    rw [HP0.out]
    rintro e w1 ⟨rfl, rfl⟩
    go_wp2_with fail
    refine (hp_any _ _ _).mono ?_
    rw [HP1.out]
    rintro e w1 ⟨rfl, rfl⟩
    go_wp2_with fail
    refine (hp_any _ _ _).mono ?_
    rw [HP2.out]
    rintro e w1 ⟨rfl, rfl⟩
    go_wp2_with fail
    refine (hp_any _ _ _).mono ?_
    rw [HP3.out]
    rintro e w1 ⟨rfl, rfl⟩
    go_wp2_with fail
    refine (hp_any _ _ _).mono ?_
    rw [HP4.out]
    rintro e w1 ⟨rfl, rfl⟩
    go_wp2
    go_ret2
    exact ⟨rfl, Below.refl _ _⟩
  | false =>
  have HP4 : Hid (pre s ⟨#[92, 110]⟩ = false) := p4
  clear p4
  cases p5 : pre s ⟨#[92, 116]⟩ with
  | true =>
    have HF : Hid (esc s = (⟨#[9]⟩, 2)) := by show _ = _; unfold esc; rw [if_neg (by rw [HP0.out]; simp), if_neg (by rw [HP1.out]; simp), if_neg (by rw [HP2.out]; simp), if_neg (by rw [HP3.out]; simp), if_neg (by rw [HP4.out]; simp), if_pos p5]
    have HP5 : Hid (pre s ⟨#[92, 116]⟩ = true) := p5
    rw [HF.out]
    clear HF p5
    go_enter Tryz.func117, Tryz.ntmps117
    go_wp2_with fail
    refine (hp_any _ _ _).mono ?_
    rw [HP0.out]
    rintro e w1 ⟨rfl, rfl⟩
    go_wp2_with fail
    refine (hp_any _ _ _).mono ?_
    rw [HP1.out]
    rintro e w1 ⟨rfl, rfl⟩
    go_wp2_with fail
    refine (hp_any _ _ _).mono ?_
    rw [HP2.out]
    rintro e w1 ⟨rfl, rfl⟩
    go_wp2_with fail
    refine (hp_any _ _ _).mono ?_
    rw [HP3.out]
    rintro e w1 ⟨rfl, rfl⟩
    go_wp2_with fail
    refine (hp_any _ _ _).mono ?_
    rw [HP4.out]
    rintro e w1 ⟨rfl, rfl⟩
    go_wp2_with fail
    refine (hp_any _ _ _).mono ?_
    rw [HP5.out]
    rintro e w1 ⟨rfl, rfl⟩
    go_wp2
    go_ret2
    exact ⟨rfl, Below.refl _ _⟩
  | false =>
  have HP5 : Hid (pre s ⟨#[92, 116]⟩ = false) := p5
  clear p5
  cases p6 : pre s ⟨#[92, 114]⟩ with
  | true =>
    have HF : Hid (esc s = (⟨#[13]⟩, 2)) := by show _ = _; unfold esc; rw [if_neg (by rw [HP0.out]; simp), if_neg (by rw [HP1.out]; simp), if_neg (by rw [HP2.out]; simp), if_neg (by rw [HP3.out]; simp), if_neg (by rw [HP4.out]; simp), if_neg (by rw [HP5.out]; simp), if_pos p6]
    have HP6 : Hid (pre s ⟨#[92, 114]⟩ = true) := p6
    rw [HF.out]
    clear HF p6
    go_enter Tryz.func117, Tryz.ntmps117
    go_wp2_with fail
    refine (hp_any _ _ _).mono ?_
    rw [HP0.out]
    rintro e w1 ⟨rfl, rfl⟩
    go_wp2_with fail
    refine (hp_any _ _ _).mono ?_
    rw [HP1.out]
    rintro e w1 ⟨rfl, rfl⟩
    go_wp2_with fail
    refine (hp_any _ _ _).mono ?_
    rw [HP2.out]
    rintro e w1 ⟨rfl, rfl⟩
    go_wp2_with fail
    refine (hp_any _ _ _).mono ?_
    rw [HP3.out]
    rintro e w1 ⟨rfl, rfl⟩
    go_wp2_with fail
    refine (hp_any _ _ _).mono ?_
    rw [HP4.out]
    rintro e w1 ⟨rfl, rfl⟩
    go_wp2_with fail
    refine (hp_any _ _ _).mono ?_
    rw [HP5.out]
    rintro e w1 ⟨rfl, rfl⟩
    go_wp2_with fail
    refine (hp_any _ _ _).mono ?_
    rw [HP6.out]
    rintro e w1 ⟨rfl, rfl⟩
    go_wp2
    go_ret2
    exact ⟨rfl, Below.refl _ _⟩
  | false =>
  have HP6 : Hid (pre s ⟨#[92, 114]⟩ = false) := p6
  clear p6
  have HF : Hid (esc s = (⟨#[]⟩, 0)) := by show _ = _; unfold esc; rw [if_neg (by rw [HP0.out]; simp), if_neg (by rw [HP1.out]; simp), if_neg (by rw [HP2.out]; simp), if_neg (by rw [HP3.out]; simp), if_neg (by rw [HP4.out]; simp), if_neg (by rw [HP5.out]; simp), if_neg (by rw [HP6.out]; simp)]
  rw [HF.out]
  clear HF
  go_enter Tryz.func117, Tryz.ntmps117
  go_wp2_with fail
  refine (hp_any _ _ _).mono ?_
  rw [HP0.out]
  rintro e w1 ⟨rfl, rfl⟩
  go_wp2_with fail
  refine (hp_any _ _ _).mono ?_
  rw [HP1.out]
  rintro e w1 ⟨rfl, rfl⟩
  go_wp2_with fail
  refine (hp_any _ _ _).mono ?_
  rw [HP2.out]
  rintro e w1 ⟨rfl, rfl⟩
  go_wp2_with fail
  refine (hp_any _ _ _).mono ?_
  rw [HP3.out]
  rintro e w1 ⟨rfl, rfl⟩
  go_wp2_with fail
  refine (hp_any _ _ _).mono ?_
  rw [HP4.out]
  rintro e w1 ⟨rfl, rfl⟩
  go_wp2_with fail
  refine (hp_any _ _ _).mono ?_
  rw [HP5.out]
  rintro e w1 ⟨rfl, rfl⟩
  go_wp2_with fail
  refine (hp_any _ _ _).mono ?_
  rw [HP6.out]
  rintro e w1 ⟨rfl, rfl⟩
  go_wp2
  go_ret2
  exact ⟨rfl, Below.refl _ _⟩
end Go.Proofs.YtcnnpohnfoaceaaGreatDoor.Text

/-
  What stands behind an opening quote: the pure part.
-/
namespace Go.Proofs.YtcnnpohnfoaceaaGreatDoor.Text
open Go Go.RowKit Go.Lib
open Tx

/-- what content reads -/
def Tx.con (s : ByteArray) (p : Nat) (L : List UInt8) (e : Nat) : ByteArray × Nat × Nat :=
  if _h : p < s.size then
    if p < e then con s (p + (Utf8.decode s p).2) L e
    else if (Utf8.decode s p).1 = 34 then (⟨L.toArray⟩, p + 1, 0)
    else if (Utf8.decode s p).1 = 92 then
      if (esc (s.extract p s.size)).2 = 0 then (⟨#[]⟩, 0, 27)
      else con s (p + (Utf8.decode s p).2) (L ++ (esc (s.extract p s.size)).1.data.toList) (p + (esc (s.extract p s.size)).2)
    else if (ctl ((Utf8.decode s p).1 : Int) || among hids ((Utf8.decode s p).1 : Int) || stray s p) = true then (⟨#[]⟩, 0, 26)
    else con s (p + (Utf8.decode s p).2) (L ++ (Utf8.encode ((Utf8.decode s p).1 : Int)).data.toList) e
  else (⟨#[]⟩, 0, 25)
termination_by s.size - p
decreasing_by
  all_goals
    have := decode_fits s p (by assumption)
    omega
theorem con_out (s : ByteArray) (p : Nat) (L : List UInt8) (e : Nat) (h : ¬ p < s.size) : con s p L e = (⟨#[]⟩, 0, 25) := by rw [con, dif_neg h]
theorem con_skip (s : ByteArray) (p : Nat) (L : List UInt8) (e : Nat) (h : p < s.size) (h1 : p < e) : con s (p + (Utf8.decode s p).2) L e = con s p L e := by
  conv => rhs; rw [con, dif_pos h, if_pos h1]
theorem con_q (s : ByteArray) (p : Nat) (L : List UInt8) (e : Nat) (h : p < s.size) (h1 : ¬ p < e) (h2 : (Utf8.decode s p).1 = 34) : con s p L e = (⟨L.toArray⟩, p + 1, 0) := by
  rw [con, dif_pos h, if_neg h1, if_pos h2]
theorem con_e0 (s : ByteArray) (p : Nat) (L : List UInt8) (e : Nat) (h : p < s.size) (h1 : ¬ p < e) (h2 : (Utf8.decode s p).1 = 92) (h3 : (esc (s.extract p s.size)).2 = 0) : con s p L e = (⟨#[]⟩, 0, 27) := by
  rw [con, dif_pos h, if_neg h1, if_neg (by rw [h2]; decide), if_pos h2, if_pos h3]
theorem con_e (s : ByteArray) (p : Nat) (L : List UInt8) (e : Nat) (h : p < s.size) (h1 : ¬ p < e) (h2 : (Utf8.decode s p).1 = 92) (h3 : ¬ (esc (s.extract p s.size)).2 = 0) : con s (p + (Utf8.decode s p).2) (L ++ (esc (s.extract p s.size)).1.data.toList) (p + (esc (s.extract p s.size)).2) = con s p L e := by
  conv => rhs; rw [con, dif_pos h, if_neg h1, if_neg (by rw [h2]; decide), if_pos h2, if_neg h3]
theorem con_raw (s : ByteArray) (p : Nat) (L : List UInt8) (e : Nat) (h : p < s.size) (h1 : ¬ p < e) (h2 : ¬ (Utf8.decode s p).1 = 34) (h3 : ¬ (Utf8.decode s p).1 = 92) (h4 : (ctl ((Utf8.decode s p).1 : Int) || among hids ((Utf8.decode s p).1 : Int) || stray s p) = true) : con s p L e = (⟨#[]⟩, 0, 26) := by
  rw [con, dif_pos h, if_neg h1, if_neg h2, if_neg h3, if_pos h4]
theorem con_on (s : ByteArray) (p : Nat) (L : List UInt8) (e : Nat) (h : p < s.size) (h1 : ¬ p < e) (h2 : ¬ (Utf8.decode s p).1 = 34) (h3 : ¬ (Utf8.decode s p).1 = 92) (h4 : (ctl ((Utf8.decode s p).1 : Int) || among hids ((Utf8.decode s p).1 : Int) || stray s p) = false) : con s (p + (Utf8.decode s p).2) (L ++ (Utf8.encode ((Utf8.decode s p).1 : Int)).data.toList) e = con s p L e := by
  conv => rhs; rw [con, dif_pos h, if_neg h1, if_neg h2, if_neg h3, if_neg (by rw [h4]; simp)]
theorem fit0 : (((⟨#[]⟩, 0) : ByteArray × Nat)).1.size ≤ 4 ∧ (((⟨#[]⟩, 0) : ByteArray × Nat)).2 ≤ 10 := by decide
theorem fit2 (x : UInt8) : (((⟨#[x]⟩, 2) : ByteArray × Nat)).1.size ≤ 4 ∧ (((⟨#[x]⟩, 2) : ByteArray × Nat)).2 ≤ 10 := ⟨by show (1 : Nat) ≤ 4; decide, by show (2 : Nat) ≤ 10; decide⟩
theorem fit4 (x : UInt8) : (((⟨#[x]⟩, 4) : ByteArray × Nat)).1.size ≤ 4 ∧ (((⟨#[x]⟩, 4) : ByteArray × Nat)).2 ≤ 10 := ⟨by show (1 : Nat) ≤ 4; decide, by show (4 : Nat) ≤ 10; decide⟩
theorem erL_le (t : ByteArray) : ∀ (k p v : Nat), 7 - p ≤ k → p ≤ 6 → (erL t p v).1.size ≤ 4 ∧ (erL t p v).2 ≤ 10
  | 0, p, v, hk, hp => by omega
  | k + 1, p, v, hk, hp => by
    rw [erL]
    split
    · split
      · have h9 := encode_le (v : Int)
        dsimp only
        generalize Utf8.encode (v : Int) = X at *
        exact ⟨h9, by omega⟩
      · split
        · exact fit0
        · split
          · exact fit0
          · exact erL_le t k (p + 1) _ (by omega) (by omega)
    · exact fit0
theorem eb_le (s : ByteArray) : (eb s).1.size ≤ 4 ∧ (eb s).2 ≤ 10 := by
  unfold eb
  split
  · exact fit0
  · split
    · exact fit4 _
    · exact fit0
theorem esc_le (s : ByteArray) : (esc s).1.size ≤ 4 ∧ (esc s).2 ≤ 10 := by
  unfold esc
  split
  · exact eb_le s
  · split
    · exact erL_le _ 7 0 0 (by omega) (by omega)
    · repeat' split
      all_goals first | exact fit2 _ | exact fit0
theorem list_size (E : ByteArray) : E.data.toList.length = E.size := by rw [Array.length_toList]; rfl
/-- what is read fits -/
theorem con_fits (s : ByteArray) : ∀ (k p : Nat) (L : List UInt8) (e : Nat), s.size - p ≤ k → L.length ≤ 4 * p → p ≤ s.size →
    (con s p L e).1.size ≤ 4 * s.size ∧ (con s p L e).2.1 ≤ s.size ∧ ((con s p L e).2.2 = 0 → 0 < (con s p L e).2.1) ∧ (con s p L e).2.2 ≤ 27 ∧ ((con s p L e).2.2 ≠ 0 → (con s p L e).1 = ⟨#[]⟩ ∧ (con s p L e).2.1 = 0)
  | 0, p, L, e, hk, hL, hp => by
    rw [con_out s p L e (by omega)]
    exact ⟨Nat.zero_le _, Nat.zero_le _, fun h => (by cases h), by show (25 : Nat) ≤ 27; omega, fun _ => ⟨rfl, rfl⟩⟩
  | k + 1, p, L, e, hk, hL, hp => by
    by_cases h : p < s.size
    · have hd := decode_fits s p h
      by_cases h1 : p < e
      · rw [← con_skip s p L e h h1]
        exact con_fits s k _ L e (by omega) (by omega) (by omega)
      · by_cases h2 : (Utf8.decode s p).1 = 34
        · rw [con_q s p L e h h1 h2]
          refine ⟨?_, by show p + 1 ≤ s.size; omega, fun _ => Nat.succ_pos _, by show (0 : Nat) ≤ 27; omega, fun h => (h rfl).elim⟩
          show L.toArray.size ≤ _
          simp
          omega
        · by_cases h3 : (Utf8.decode s p).1 = 92
          · by_cases h4 : (esc (s.extract p s.size)).2 = 0
            · rw [con_e0 s p L e h h1 h3 h4]
              exact ⟨Nat.zero_le _, Nat.zero_le _, fun h => (by cases h), by show (27 : Nat) ≤ 27; omega, fun _ => ⟨rfl, rfl⟩⟩
            · rw [← con_e s p L e h h1 h3 h4]
              refine con_fits s k _ _ _ (by omega) ?_ (by omega)
              have := (esc_le (s.extract p s.size)).1
              rw [List.length_append, list_size]
              omega
          · cases h4 : (ctl ((Utf8.decode s p).1 : Int) || among hids ((Utf8.decode s p).1 : Int) || stray s p) with
            | true =>
              rw [con_raw s p L e h h1 h2 h3 h4]
              exact ⟨Nat.zero_le _, Nat.zero_le _, fun h => (by cases h), by show (26 : Nat) ≤ 27; omega, fun _ => ⟨rfl, rfl⟩⟩
            | false =>
              rw [← con_on s p L e h h1 h2 h3 h4]
              refine con_fits s k _ _ _ (by omega) ?_ (by omega)
              have := encode_le ((Utf8.decode s p).1 : Int)
              rw [List.length_append, list_size]
              omega
    · rw [con_out s p L e h]
      exact ⟨Nat.zero_le _, Nat.zero_le _, fun h => (by cases h), by show (25 : Nat) ≤ 27; omega, fun _ => ⟨rfl, rfl⟩⟩
end Go.Proofs.YtcnnpohnfoaceaaGreatDoor.Text

/-
  Package text: content.
-/
namespace Go.Proofs.YtcnnpohnfoaceaaGreatDoor.Text
open Go Go.RowKit Go.Lib
open Tx

theorem ro_nil (B : Nat) (w : World) : Ro B w (.slice none 0 0) [] := ⟨rfl, .inl ⟨rfl, rfl⟩⟩
theorem conv_zero (w : World) (p : Option Addr) (c : Nat) : (convert 92 9 (.slice p 0 c)).run Tryz.prog w = .ok (.string ⟨#[]⟩) w := by
  rw [run_convert_bytes_string w 92 9 5 _ 0 c Tryz.underlying92 Tryz.underlying5 Tryz.underlying9]
  cases p <;> simp [Conv.bytesToString, loadCells]
  all_goals rfl
/-- string(v), of any row -/
theorem Ro.str2 {B : Nat} {w : World} {v : Value} {l : List UInt8} (h : Ro B w v l) : (convert 92 9 v).run Tryz.prog w = .ok (.string ⟨l.toArray⟩) w := by
  by_cases hl : 0 < l.length
  · exact h.str hl
  · obtain rfl : l = [] := List.eq_nil_of_length_eq_zero (by omega)
    obtain ⟨ao, cap, rfl⟩ := h.shape
    exact conv_zero w ao cap

set_option maxRecDepth 100000 in
set_option maxHeartbeats 4000000 in
theorem content_any (s : ByteArray) (w : World) (hs : s.size ≤ 2000000) (hT : TabP 7 .i32 hids w) :
    Calls Tryz.prog 98 #[.string s] w fun e w' => e = .returned (.tuple #[.string (con s 0 [] 0).1, .int .i64 (con s 0 [] 0).2.1, .int .i64 (con s 0 [] 0).2.2]) ∧ Below w.heap.size w w' := by
  have hin := info5q
  have HT : Hid (∀ w', Below w.heap.size w w' → TabP 7 .i32 hids w') := fun w' hb => hT.kept hb
  obtain ⟨Z, hZ⟩ : ∃ Z, con s 0 [] 0 = Z := ⟨_, rfl⟩
  rw [hZ]
  have HZ : Hid (con s 0 [] 0 = Z) := hZ
  clear hT hZ
  have HI : Hid ((w.iter s 0).heap[w.heap.size]? = some (.stringIter s 0)) := World.iter_heap w s 0
  have HRI : Hid (Ro w.heap.size (w.iter s 0) (.slice none 0 0) []) := ro_nil _ _
  have HBI : Hid (Below w.heap.size w (w.iter s 0)) := up_iter w s 0
  go_enter Tryz.func98, Tryz.ntmps98
  go_wp2
  go_loopw [5, 6] (fun o e wr => ∃ (p : Nat) (L : List UInt8) (E : Nat), Ro w.heap.size wr o L ∧ e = .int .i64 (E : Int) ∧ con s p L E = Z ∧ L.length ≤ 4 * p ∧ E ≤ p + 10 ∧ p ≤ s.size ∧ wr.heap[w.heap.size]? = some (.stringIter s p) ∧ Below w.heap.size w wr) (fun _ _ wr => s.size - wr.iterPos w.heap.size)
  case atStart => exact ⟨0, [], 0, HRI.out, rfl, HZ.out, by simp, by omega, Nat.zero_le _, HI.out, HBI.out⟩
  case round =>
    obtain ⟨p, L, E, hro, rfl, hL, hlen, hE, hp, hit, hbel⟩ := hrel
    have HL : Hid (con s p L E = Z) := hL
    have HPOS : Hid (wr.iterPos w.heap.size = p) := iter_pos hit
    clear hL HI HRI HBI HZ
    obtain ⟨ao3, cap3, rfl⟩ := hro.shape
    by_cases hlt : p < s.size
    · have hd := decode_fits s p hlt
      have hnx : ∀ ty, (Instr.next (.pointer (some ⟨w.heap.size, 0, none⟩)) true ty).run Tryz.prog wr = _ := fun ty => run_next_at wr w.heap.size s p ty hit hlt
      have hI2 : (setIter wr w.heap.size s (p + (Utf8.decode s p).2)).heap[w.heap.size]? = some (.stringIter s (p + (Utf8.decode s p).2)) := iter_at wr w.heap.size s _ _ hit
      have hB2 : Below w.heap.size w (setIter wr w.heap.size s (p + (Utf8.decode s p).2)) := below_iter hbel _ (Nat.le_refl _) s _
      have hR2 : Ro w.heap.size (setIter wr w.heap.size s (p + (Utf8.decode s p).2)) (.slice ao3 L.length cap3) L := hro.iter hit
      clear hbel hit hro
      generalize setIter wr w.heap.size s (p + (Utf8.decode s p).2) = w3 at *
      by_cases hpe : p < E
      · have HN : Hid (con s (p + (Utf8.decode s p).2) L E = Z) := by show _ = _; rw [con_skip s p L E hlt hpe]; exact HL.out
        have HP3 : Hid (w3.iterPos w.heap.size = p + (Utf8.decode s p).2) := iter_pos hI2
        have HB2 : Hid (Below w.heap.size w w3) := hB2
        have HR2 : Hid (Ro w.heap.size w3 (.slice ao3 L.length cap3) L) := hR2
        have HI2 : Hid (w3.heap[w.heap.size]? = some (.stringIter s (p + (Utf8.decode s p).2))) := hI2
        clear HL hB2 hR2 hI2
        generalize (Utf8.decode s p).1 = r at *
        generalize (Utf8.decode s p).2 = d at *
        go_wp2
        go_roundw
        case rel => exact ⟨p + d, L, E, HR2.out, rfl, HN.out, by omega, by omega, hd.2.1, HI2.out, HB2.out⟩
        case measure => rw [HP3.out, HPOS.out]; omega
      · have hr31 := decode_le s p
        have HSTR : Hid (∀ w', Calls Tryz.prog 54 #[.string s, .int .i64 (p : Int), .int .i32 ((Utf8.decode s p).1 : Int)] w' fun e w'' => e = .returned (.bool (stray s p)) ∧ w'' = w') := fun w' => stray_any s p w' hlt
        have HVAL : Hid (Utf8.valid ((Utf8.decode s p).1 : Int) = true) := dec_valid s p
        have HLOW : Hid ((Utf8.decode s p).1 < 128 → (Utf8.decode s p).2 = 1) := dec_low s p
        have HP3 : Hid (w3.iterPos w.heap.size = p + (Utf8.decode s p).2) := iter_pos hI2
        have HB2 : Hid (Below w.heap.size w w3) := hB2
        have HR2 : Hid (Ro w.heap.size w3 (.slice ao3 L.length cap3) L) := hR2
        have HI2 : Hid (w3.heap[w.heap.size]? = some (.stringIter s (p + (Utf8.decode s p).2))) := hI2
        have h1 : ¬ p < E := hpe
        have HCQ : Hid ((Utf8.decode s p).1 = 34 → con s p L E = (⟨L.toArray⟩, p + 1, 0)) := con_q s p L E hlt h1
        have HCE0 : Hid ((Utf8.decode s p).1 = 92 → (esc (s.extract p s.size)).2 = 0 → con s p L E = (⟨#[]⟩, 0, 27)) := con_e0 s p L E hlt h1
        have HCE : Hid ((Utf8.decode s p).1 = 92 → ¬ (esc (s.extract p s.size)).2 = 0 → con s (p + (Utf8.decode s p).2) (L ++ (esc (s.extract p s.size)).1.data.toList) (p + (esc (s.extract p s.size)).2) = con s p L E) := con_e s p L E hlt h1
        have HCR : Hid (¬ (Utf8.decode s p).1 = 34 → ¬ (Utf8.decode s p).1 = 92 → (ctl ((Utf8.decode s p).1 : Int) || among hids ((Utf8.decode s p).1 : Int) || stray s p) = true → con s p L E = (⟨#[]⟩, 0, 26)) := con_raw s p L E hlt h1
        have HCO : Hid (¬ (Utf8.decode s p).1 = 34 → ¬ (Utf8.decode s p).1 = 92 → (ctl ((Utf8.decode s p).1 : Int) || among hids ((Utf8.decode s p).1 : Int) || stray s p) = false → con s (p + (Utf8.decode s p).2) (L ++ (Utf8.encode ((Utf8.decode s p).1 : Int)).data.toList) E = con s p L E) := con_on s p L E hlt h1
        clear hB2 hR2 hI2 hpe
        generalize (Utf8.decode s p).1 = r at *
        generalize (Utf8.decode s p).2 = d at *
        by_cases h34 : r = 34
        · subst h34
          have HF : Hid (Z = (⟨L.toArray⟩, p + 1, 0)) := by show _ = _; rw [← HL.out]; exact HCQ.out rfl
          have hcv := HR2.out.str2
          clear HCQ HCE0 HCE HCR HCO HL HSTR HVAL HLOW
          go_wp2
          go_ret3
          exact ⟨by rw [HF.out]; rfl, HB2.out⟩
        · have t34 : ((r : Int) == (34 : Int)) = false := by rw [beq_eq_false_iff_ne]; omega
          by_cases h92 : r = 92
          · subst h92
            have hd1 : d = 1 := HLOW.out (by decide)
            subst hd1
            have HES : Hid (∀ w', Calls Tryz.prog 117 #[.string (s.extract p s.size)] w' fun e w'' => e = .returned (.tuple #[.string (esc (s.extract p s.size)).1, .int .i64 (esc (s.extract p s.size)).2]) ∧ Below w'.heap.size w' w'') := fun w' => esc_any _ w' (by rw [size_cut s p s.size (Nat.le_refl _)]; omega)
            have hel := esc_le (s.extract p s.size)
            clear HCQ HCR HCO HSTR HVAL HLOW
            generalize hX : esc (s.extract p s.size) = X at *
            obtain ⟨x1, x2⟩ := X
            clear hX
            by_cases hx0 : x2 = 0
            · subst hx0
              have HF : Hid (Z = (⟨#[]⟩, 0, 27)) := by show _ = _; rw [← HL.out]; exact HCE0.out rfl rfl
              clear HCE0 HCE HL
              go_wp2_with fail
              refine (HES.out _).mono ?_
              rintro e w5 ⟨rfl, b5⟩
              have B5 := andThen HB2.out b5
              clear b5
              go_wp2
              go_ret3
              exact ⟨by rw [HF.out]; rfl, B5⟩
            · have t0 : ((x2 : Int) == (0 : Int)) = false := by rw [beq_eq_false_iff_ne]; omega
              have HN : Hid (con s (p + 1) (L ++ x1.data.toList) (p + x2) = Z) := by show _ = _; rw [← HL.out]; exact HCE.out rfl hx0
              have HX1 : Hid (x1.size ≤ 12) := Nat.le_trans hel.1 (by decide)
              have HX4 : Hid ((L ++ x1.data.toList).length ≤ 4 * (p + 1)) := by
                show _ ≤ _
                have h9 : x1.size ≤ 4 := hel.1
                rw [List.length_append, list_size]
                omega
              have hx10 : x2 ≤ 10 := hel.2
              clear HCE0 HCE HL hel hx0
              go_wp2_with fail
              refine (HES.out _).mono ?_
              rintro e w5 ⟨rfl, b5⟩
              have B5 := andThen HB2.out b5
              have HR5 : Hid (Ro w.heap.size w5 (.slice ao3 L.length cap3) L) := HR2.out.kept b5
              have hI5 := (b5.block w.heap.size (Array.getElem?_eq_some_iff.1 HI2.out).1).trans HI2.out
              have hs5 := B5.size
              clear b5
              go_wp2_with (at_builtin; refine wpList_app_str _ rfl (.tmp 42) (.tmp 43) 92 9 rfl w.heap.size hin Tryz.underlying92 Tryz.underlying9 _ L rfl HR5.out x1 rfl (by omega) HX1.out hs5 ?_)
              intro v6 w6 hr6 hg6
              have HRL : Hid (Ro w.heap.size w6 v6 (L ++ x1.data.toList) ∧ w6.heap[w.heap.size]? = some (.stringIter s (p + 1)) ∧ Below w.heap.size w w6) := ⟨hr6, iter_grown HR5.out hI5 hg6, HR5.out.below B5 hg6⟩
              have HPS : Hid (w6.iterPos w.heap.size = p + 1) := iter_pos HRL.out.2.1
              clear hr6 hg6 HR5 hI5 B5
              go_wp2
              go_roundw
              case rel => exact ⟨p + 1, L ++ x1.data.toList, p + x2, HRL.out.1, by go_num, HN.out, HX4.out, by omega, by omega, HRL.out.2.1, HRL.out.2.2⟩
              case measure => rw [HPS.out, HPOS.out]; omega
          · have t92 : ((r : Int) == (92 : Int)) = false := by rw [beq_eq_false_iff_ne]; omega
            clear HCQ HCE0 HCE
            have HR4 : Hid ((ctl (r : Int) || among hids (r : Int) || stray s p) = true → con s p L E = (⟨#[]⟩, 0, 26)) := HCR.out h34 h92
            have HO4 : Hid ((ctl (r : Int) || among hids (r : Int) || stray s p) = false → con s (p + d) (L ++ (Utf8.encode (r : Int)).data.toList) E = con s p L E) := HCO.out h34 h92
            have HCT : Hid (∀ w', Calls Tryz.prog 118 #[.int .i32 (r : Int)] w' fun e w'' => e = .returned (.bool (ctl (r : Int))) ∧ w'' = w') := fun w' => control_any r w'
            have HHD : Hid (∀ w', Below w.heap.size w w' → Calls Tryz.prog 119 #[.int .i32 (r : Int)] w' fun e w'' => e = .returned (.bool (among hids (r : Int))) ∧ Below w'.heap.size w' w'') := fun w' hb => hidden_any r w' (HT.out _ hb)
            have HAR : Hid (∀ v w', Ro w.heap.size w' v L → w.heap.size ≤ w'.heap.size → Calls Tryz.prog 120 #[v, .int .i32 (r : Int)] w' fun e w'' => ∃ v', e = .returned v' ∧ Ro w.heap.size w'' v' (L ++ (Utf8.encode (r : Int)).data.toList) ∧ w'.grownBy w'' v.ownBlock) := fun v w' hr hb => appRune_any r w.heap.size v L w' HVAL.out hr (by omega) hb
            have HEL : Hid ((L ++ (Utf8.encode (r : Int)).data.toList).length ≤ 4 * (p + d)) := by
              show _ ≤ _
              have h9 := encode_le (r : Int)
              rw [List.length_append, list_size]
              omega
            clear HCR HCO HVAL HLOW h34 h92 hr31
            generalize ctl (r : Int) = c1 at *
            generalize among hids (r : Int) = c2 at *
            generalize stray s p = c3 at *
            generalize (Utf8.encode (r : Int)).data.toList = Y at *
            obtain ⟨x, hx⟩ : ∃ x : Int, (r : Int) = x := ⟨_, rfl⟩
            rw [hx] at hnx t34 t92 HSTR HCT HHD HAR
            clear hx
            cases c1 with
            | true =>
              have HF : Hid (Z = (⟨#[]⟩, 0, 26)) := by show _ = _; rw [← HL.out]; exact HR4.out rfl
              clear HR4 HO4 HL
              go_wp2_with fail
              refine (HCT.out _).mono ?_
              rintro e w5 ⟨rfl, rfl⟩
              go_wp2
              go_ret3
              exact ⟨by rw [HF.out]; rfl, HB2.out⟩
            | false =>
              cases c2 with
              | true =>
                have HF : Hid (Z = (⟨#[]⟩, 0, 26)) := by show _ = _; rw [← HL.out]; exact HR4.out rfl
                clear HR4 HO4 HL
                go_wp2_with fail
                refine (HCT.out _).mono ?_
                rintro e w5 ⟨rfl, rfl⟩
                go_wp2_with fail
                refine (HHD.out _ HB2.out).mono ?_
                rintro e w6 ⟨rfl, b6⟩
                have B6 := andThen HB2.out b6
                clear b6
                go_wp2
                go_ret3
                exact ⟨by rw [HF.out]; rfl, B6⟩
              | false =>
                cases c3 with
                | true =>
                  have HF : Hid (Z = (⟨#[]⟩, 0, 26)) := by show _ = _; rw [← HL.out]; exact HR4.out rfl
                  clear HR4 HO4 HL
                  go_wp2_with fail
                  refine (HCT.out _).mono ?_
                  rintro e w5 ⟨rfl, rfl⟩
                  go_wp2_with fail
                  refine (HHD.out _ HB2.out).mono ?_
                  rintro e w6 ⟨rfl, b6⟩
                  have B6 := andThen HB2.out b6
                  clear b6
                  go_wp2_with fail
                  refine (HSTR.out _).mono ?_
                  rintro e w7 ⟨rfl, rfl⟩
                  go_wp2
                  go_ret3
                  exact ⟨by rw [HF.out]; rfl, B6⟩
                | false =>
                  have HN : Hid (con s (p + d) (L ++ Y) E = Z) := by show _ = _; rw [← HL.out]; exact HO4.out rfl
                  clear HR4 HO4 HL
                  go_wp2_with fail
                  refine (HCT.out _).mono ?_
                  rintro e w5 ⟨rfl, rfl⟩
                  go_wp2_with fail
                  refine (HHD.out _ HB2.out).mono ?_
                  rintro e w6 ⟨rfl, b6⟩
                  have B6 := andThen HB2.out b6
                  have HR6 : Hid (Ro w.heap.size w6 (.slice ao3 L.length cap3) L) := HR2.out.kept b6
                  have hI6 := (b6.block w.heap.size (Array.getElem?_eq_some_iff.1 HI2.out).1).trans HI2.out
                  have hs6 := B6.size
                  clear b6
                  go_wp2_with fail
                  refine (HSTR.out _).mono ?_
                  rintro e w7 ⟨rfl, rfl⟩
                  go_wp2_with fail
                  refine (HAR.out _ _ HR6.out hs6).mono ?_
                  rintro e w8 ⟨v8, rfl, hr8, hg8⟩
                  obtain ⟨ao8, cap8, e8⟩ := hr8.shape
                  rw [List.length_append] at e8
                  subst e8
                  have HRL : Hid (Ro w.heap.size w8 (.slice ao8 (L.length + Y.length) cap8) (L ++ Y) ∧ w8.heap[w.heap.size]? = some (.stringIter s (p + d)) ∧ Below w.heap.size w w8) := ⟨hr8, iter_grown HR6.out hI6 hg8, HR6.out.below B6 hg8⟩
                  have HPS : Hid (w8.iterPos w.heap.size = p + d) := iter_pos HRL.out.2.1
                  clear hr8 hg8 HR6 hI6 B6
                  go_wp2
                  go_roundw
                  case rel => exact ⟨p + d, L ++ Y, E, HRL.out.1, rfl, HN.out, HEL.out, by omega, hd.2.1, HRL.out.2.1, HRL.out.2.2⟩
                  case measure => rw [HPS.out, HPOS.out]; omega
    · have hnx : ∀ ty, (Instr.next (.pointer (some ⟨w.heap.size, 0, none⟩)) true ty).run Tryz.prog wr = _ := fun ty => run_next_over wr w.heap.size s p ty hit hlt
      have HF : Hid (Z = (⟨#[]⟩, 0, 25)) := by show _ = _; rw [← HL.out]; exact con_out s p L E hlt
      clear hro hit HL
      go_wp2
      go_ret3
      exact ⟨by rw [HF.out]; rfl, hbel⟩
end Go.Proofs.YtcnnpohnfoaceaaGreatDoor.Text

/-
  Package text: Unquote.
-/
namespace Go.Proofs.YtcnnpohnfoaceaaGreatDoor.Text
open Go Go.RowKit Go.Lib
open Tx

theorem toList_inj {a b : ByteArray} (h : a.toList = b.toList) : a = b := by
  have hs : a.size = b.size := by rw [← toList_len a, ← toList_len b, h]
  apply ByteArray.ext
  apply Array.ext hs
  intro i h1 h2
  have e1 := toList_get a i h1
  rw [h, toList_get b i h2] at e1
  have e2 := Option.some.inj e1
  have q1 : a.get! i = a.data[i] := getElem!_pos a.data i h1
  have q2 : b.get! i = b.data[i] := getElem!_pos b.data i h2
  rw [← q1, ← q2, e2]
/-- what Unquote reads at a place -/
def Tx.unq (s : ByteArray) (at_ : Int) : ByteArray × Int × Int :=
  if at_ < 0 ∨ (s.size : Int) < at_ then (⟨#[]⟩, 0, 1)
  else if at_ = (s.size : Int) ∨ at' s at_.toNat ≠ 34 then (⟨#[]⟩, 0, 24)
  else if (con (s.extract (at_.toNat + 1) s.size) 0 [] 0).2.2 ≠ 0 then (⟨#[]⟩, 0, ((con (s.extract (at_.toNat + 1) s.size) 0 [] 0).2.2 : Int))
  else if quo (con (s.extract (at_.toNat + 1) s.size) 0 [] 0).1 ≠ s.extract at_.toNat (at_.toNat + 1 + (con (s.extract (at_.toNat + 1) s.size) 0 [] 0).2.1) then (⟨#[]⟩, 0, 28)
  else ((con (s.extract (at_.toNat + 1) s.size) 0 [] 0).1, ((at_.toNat + 1 + (con (s.extract (at_.toNat + 1) s.size) 0 [] 0).2.1 : Nat) : Int), 0)

set_option maxRecDepth 100000 in
set_option maxHeartbeats 4000000 in
theorem unq_any (s : ByteArray) (at_ : Int) (w : World) (hs : s.size ≤ 2000000) (hT : TabP 7 .i32 hids w) (hD : w.cell? ⟨9, 15, none⟩ = some (.int .u8 4)) :
    Calls Tryz.prog 83 #[.string s, .int .i64 at_] w fun e w' => e = .returned (.tuple #[.string (unq s at_).1, .int .i64 (unq s at_).2.1, .int .i64 (unq s at_).2.2]) ∧ Below w.heap.size w w' := by
  have HT : Hid (∀ w', Below w.heap.size w w' → TabP 7 .i32 hids w') := fun w' hb => hT.kept hb
  have HD : Hid (∀ w', Below w.heap.size w w' → w'.cell? ⟨9, 15, none⟩ = some (.int .u8 4)) := fun w' hb => (hb.cell (p := ⟨9, 15, none⟩) (World.block_lt_of_cell? _ _ hD)).trans hD
  clear hT hD
  by_cases h0 : at_ < 0
  · have HF : Hid (unq s at_ = (⟨#[]⟩, 0, 1)) := by show _ = _; unfold unq; rw [if_pos (.inl h0)]
    rw [HF.out]
    go_enter Tryz.func83, Tryz.ntmps83
    go_wp2
    go_ret3
    exact ⟨rfl, Below.refl _ _⟩
  by_cases h1 : (s.size : Int) < at_
  · have HF : Hid (unq s at_ = (⟨#[]⟩, 0, 1)) := by show _ = _; unfold unq; rw [if_pos (.inr h1)]
    rw [HF.out]
    go_enter Tryz.func83, Tryz.ntmps83
    go_wp2
    go_ret3
    exact ⟨rfl, Below.refl _ _⟩
  have n1 : ¬ (at_ < 0 ∨ (s.size : Int) < at_) := by omega
  obtain ⟨k, rfl⟩ := Int.eq_ofNat_of_zero_le (by omega : 0 ≤ at_)
  have hk : k ≤ s.size := by omega
  clear h0 h1
  by_cases h2 : k = s.size
  · have HF : Hid (unq s k = (⟨#[]⟩, 0, 24)) := by show _ = _; unfold unq; rw [if_neg n1, if_pos (.inl (by rw [h2]))]
    rw [HF.out]
    have t2 : ((k : Int) == (s.size : Int)) = true := by rw [h2]; exact beq_self_eq_true _
    clear h2 n1
    go_enter Tryz.func83, Tryz.ntmps83
    go_wp2
    go_ret3
    exact ⟨rfl, Below.refl _ _⟩
  have hlt : k < s.size := by omega
  have t2 : ((k : Int) == (s.size : Int)) = false := by rw [beq_eq_false_iff_ne]; omega
  have g0 := at_get s k hlt
  by_cases h3 : at' s k = 34
  · have n3 : ¬ ((k : Int) = (s.size : Int) ∨ at' s (k : Int).toNat ≠ 34) := by rw [Int.toNat_natCast]; omega
    have hx0 : (s[k]'hlt).toNat = 34 := by rw [← g0]; exact h3
    have HC : Hid (∀ w', Below w.heap.size w w' → Calls Tryz.prog 98 #[.string (s.extract (k + 1) s.size)] w' fun e w'' => e = .returned (.tuple #[.string (con (s.extract (k + 1) s.size) 0 [] 0).1, .int .i64 (con (s.extract (k + 1) s.size) 0 [] 0).2.1, .int .i64 (con (s.extract (k + 1) s.size) 0 [] 0).2.2]) ∧ Below w'.heap.size w' w'') := fun w' hb => content_any _ w' (by rw [size_cut s (k + 1) s.size (Nat.le_refl _)]; omega) (HT.out _ hb)
    have hfit := con_fits (s.extract (k + 1) s.size) _ 0 [] 0 (Nat.le_refl _) (by simp) (Nat.zero_le _)
    rw [size_cut s (k + 1) s.size (Nat.le_refl _)] at hfit
    have HU : Hid (unq s k = if (con (s.extract (k + 1) s.size) 0 [] 0).2.2 ≠ 0 then (⟨#[]⟩, 0, ((con (s.extract (k + 1) s.size) 0 [] 0).2.2 : Int)) else if quo (con (s.extract (k + 1) s.size) 0 [] 0).1 ≠ s.extract k (k + 1 + (con (s.extract (k + 1) s.size) 0 [] 0).2.1) then (⟨#[]⟩, 0, 28) else ((con (s.extract (k + 1) s.size) 0 [] 0).1, ((k + 1 + (con (s.extract (k + 1) s.size) 0 [] 0).2.1 : Nat) : Int), 0)) := by
      show _ = _
      unfold unq
      rw [if_neg n1, if_neg n3, Int.toNat_natCast]
    generalize hX : con (s.extract (k + 1) s.size) 0 [] 0 = X at *
    obtain ⟨x1, x2, x3⟩ := X
    dsimp only at hfit HU HC
    clear hX n1 n3 g0 h3
    by_cases he : x3 = 0
    · subst he
      have hQ : ∀ w', Below w.heap.size w w' → Calls Tryz.prog 99 #[.string x1] w' fun e w'' => e = .returned (.string (quo x1)) ∧ Below w'.heap.size w' w'' := fun w' hb => quote_any x1 w' (by omega) (HT.out _ hb) (HD.out _ hb)
      have HQ : Hid (∀ w', Below w.heap.size w w' → Calls Tryz.prog 99 #[.string x1] w' fun e w'' => e = .returned (.string (quo x1)) ∧ Below w'.heap.size w' w'') := hQ
      have hx2 : k + 1 + x2 ≤ s.size := by have := hfit.2.1; omega
      clear hQ hfit
      by_cases hq : quo x1 = s.extract k (k + 1 + x2)
      · have HF : Hid (unq s k = (x1, ((k + 1 + x2 : Nat) : Int), 0)) := by show _ = _; rw [HU.out, if_neg (by decide), if_neg (fun h => h hq)]
        rw [hq] at HQ
        clear hq HU
        go_enter Tryz.func83, Tryz.ntmps83
        go_wp2_with fail
        refine (HC.out _ (Below.refl _ _)).mono ?_
        rintro e w1 ⟨rfl, b1⟩
        go_wp2_with fail
        go_region_held (fun _ => True) (exact trivial) (first
          | (go_at_call 99; refine (HQ.out _ (by repeat (first | exact b1 | refine Below.drew ?_))).mono ?_; rintro e w2 ⟨rfl, b2⟩))
        all_goals
          have B2 := andThen (Below.drew b1) b2
          clear b2
          go_wp2
          go_ret3
          exact ⟨by rw [HF.out]; rfl, B2⟩
      · have HF : Hid (unq s k = (⟨#[]⟩, 0, 28)) := by show _ = _; rw [HU.out, if_neg (by decide), if_pos hq]
        have tq : ((quo x1).toList == (s.extract k (k + 1 + x2)).toList) = false := by rw [beq_eq_false_iff_ne]; exact fun h => hq (toList_inj h)
        clear hq
        clear HU
        generalize quo x1 = Y at *
        go_enter Tryz.func83, Tryz.ntmps83
        go_wp2_with fail
        refine (HC.out _ (Below.refl _ _)).mono ?_
        rintro e w1 ⟨rfl, b1⟩
        go_wp2_with fail
        go_region_held (fun _ => True) (exact trivial) (first
          | (go_at_call 99; refine (HQ.out _ (by repeat (first | exact b1 | refine Below.drew ?_))).mono ?_; rintro e w2 ⟨rfl, b2⟩))
        all_goals
          have B2 := andThen (Below.drew b1) b2
          clear b2
          go_wp2
          go_ret3
          exact ⟨by rw [HF.out]; rfl, B2⟩
    · have HF : Hid (unq s k = (⟨#[]⟩, 0, (x3 : Int))) := by show _ = _; rw [HU.out, if_pos he]
      rw [HF.out]
      have t3 : ((x3 : Int) != (0 : Int)) = true := by rw [bne_iff_ne]; omega
      clear HU he hfit
      go_enter Tryz.func83, Tryz.ntmps83
      go_wp2_with fail
      refine (HC.out _ (Below.refl _ _)).mono ?_
      rintro e w1 ⟨rfl, b1⟩
      go_wp2
      go_ret3
      exact ⟨rfl, b1⟩
  · have HF : Hid (unq s k = (⟨#[]⟩, 0, 24)) := by show _ = _; unfold unq; rw [if_neg n1, if_pos (.inr (by rw [Int.toNat_natCast]; exact h3))]
    rw [HF.out]
    rw [g0] at h3
    have t3 : (((s[k]'hlt).toNat : Int) != (34 : Int)) = true := by rw [bne_iff_ne]; omega
    clear n1 g0 h3 h2
    go_enter Tryz.func83, Tryz.ntmps83
    go_wp2
    go_ret3
    exact ⟨rfl, Below.refl _ _⟩
end Go.Proofs.YtcnnpohnfoaceaaGreatDoor.Text
