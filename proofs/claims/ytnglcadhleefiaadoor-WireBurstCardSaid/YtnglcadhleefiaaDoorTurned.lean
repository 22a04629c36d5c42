/-
  The law package's helper: turned.
-/
import Derived.Test.YtnglcadhleefiaaDoorBurst
import Derived.Test.YtnglcadhleefiaaDoorTorn
import Derived.BigRegion
namespace Go.Proofs.YtnglcadhleefiaaDoor
open Go Go.RowKit
open Wb

/-- the bits that are turned over, among the first i of the mask -/
def mm (mask f E : Nat) : Nat → Nat
  | 0 => 0
  | i + 1 => if mask / 2 ^ i % 2 = 1 ∧ (f + i) / 8 < E then mm mask f E i + 2 ^ i else mm mask f E i
theorem mm_lt (mask f E : Nat) : ∀ i, mm mask f E i < 2 ^ i
  | 0 => by simp [mm]
  | i + 1 => by
    have ih := mm_lt mask f E i
    unfold mm
    rw [Nat.pow_succ]
    split <;> omega
theorem mm_bound (mask f E : Nat) : ∀ i, mm mask f E i * 2 ^ f < 2 ^ (8 * E) ∨ mm mask f E i = 0
  | 0 => .inr rfl
  | i + 1 => by
    have ih := mm_bound mask f E i
    have hlt := mm_lt mask f E i
    unfold mm
    split
    · rename_i h
      left
      have h1 : mm mask f E i + 2 ^ i < 2 ^ (i + 1) := by rw [Nat.pow_succ]; omega
      have h2 : (mm mask f E i + 2 ^ i) * 2 ^ f < 2 ^ (i + 1) * 2 ^ f := Nat.mul_lt_mul_of_pos_right h1 (Nat.two_pow_pos _)
      rw [← Nat.pow_add] at h2
      exact Nat.lt_of_lt_of_le h2 (Nat.pow_le_pow_right (by decide) (by omega))
    · exact ih
theorem mm_flip (mask f E i : Nat) (h : mask / 2 ^ i % 2 = 1 ∧ (f + i) / 8 < E) (l : List Nat) (hl : (f + i) / 8 < l.length) :
    xorL l (mm mask f E (i + 1) * 2 ^ f) = (xorL l (mm mask f E i * 2 ^ f)).set ((f + i) / 8) ((xorL l (mm mask f E i * 2 ^ f)).getD ((f + i) / 8) 0 ^^^ 2 ^ ((f + i) % 8)) := by
  have hlt := mm_lt mask f E i
  have e : mm mask f E (i + 1) * 2 ^ f = (mm mask f E i * 2 ^ f) ^^^ 2 ^ (8 * ((f + i) / 8) + (f + i) % 8) := by
    rw [show 8 * ((f + i) / 8) + (f + i) % 8 = i + f by omega]
    have hmm : mm mask f E (i + 1) = mm mask f E i + 2 ^ i := by rw [mm, if_pos h]
    rw [hmm, Nat.add_mul, ← Nat.pow_add]
    have hb : mm mask f E i * 2 ^ f < 2 ^ (i + f) := by
      rw [Nat.pow_add]
      exact Nat.mul_lt_mul_of_pos_right hlt (Nat.two_pow_pos _)
    generalize mm mask f E i * 2 ^ f = y at *
    have h1 := or_add (i + f) y 1 hb
    rw [Nat.one_mul] at h1
    rw [← h1]
    apply Nat.eq_of_testBit_eq
    intro k
    rw [Nat.testBit_or, Nat.testBit_xor, Nat.testBit_two_pow]
    by_cases hk : i + f = k
    · subst hk
      rw [Nat.testBit_lt_two_pow hb]
      simp
    · simp [hk]
  rw [e, xorL_flip l _ _ _ (Nat.mod_lt _ (by decide)) hl]
theorem mm_skip (mask f E i : Nat) (h : ¬ (mask / 2 ^ i % 2 = 1 ∧ (f + i) / 8 < E)) : mm mask f E (i + 1) = mm mask f E i := by
  rw [mm, if_neg h]

theorem xor_bit (y b : Nat) (hy : y < 256) (hb : b < 8) : bits .xor .u8 (y : Int) (2 ^ b % 256) = ((y ^^^ 2 ^ b : Nat) : Int) := by
  have hlt : 2 ^ b < 256 := Nat.pow_lt_pow_right (by decide) hb
  have e : ((2 : Int) ^ b % 256) = ((2 ^ b : Nat) : Int) := by
    have h1 : ((2 : Int) ^ b) = ((2 ^ b : Nat) : Int) := by rw [Int.natCast_pow]; rfl
    rw [h1]
    generalize (2 ^ b : Nat) = z at *
    omega
  rw [e]
  exact u8_xor_nat y (2 ^ b) hy hlt
theorem own_stored {B g cap a y : Nat} {w : World} {n : Nat} {L : List Nat} (h : Own B w (.slice (some ⟨g, 0, none⟩) n cap) L) (hn : L.length = n) (hy : y < 256) :
    Own B (w.setCell ⟨g, a, none⟩ (.int .u8 (y : Int))).drew (.slice (some ⟨g, 0, none⟩) n cap) (L.set a y) := by
  subst hn
  have h1 := (h.row.stored a (.int .u8 (y : Int))).1
  have e : (bv L).set a (.int .u8 (y : Int)) = bv (L.set a y) := by unfold bv; rw [List.map_set]
  rw [e] at h1
  refine ⟨by rw [List.length_set]; exact h1, fun x hx => ?_⟩
  rcases List.mem_or_eq_of_mem_set hx with h2 | rfl
  · exact h.good x h2
  · exact hy

set_option maxHeartbeats 1000000 in
theorem turned_any (v : Value) (F : List Nat) (f mask E : Nat) (w : World) (h : Bs w v F) (h0 : 0 < F.length) (hE : E ≤ F.length) (hF : F.length ≤ 2000000) (hf : f ≤ 100000000) (hm : mask < 4294967296) :
    Calls Tryd.prog 18 #[v, .int .i64 (f : Int), .int .u32 (mask : Int), .int .i64 (E : Int)] w fun e w' => ∃ v', e = .returned (.tuple #[v', .bool (decide (mm mask f E 32 ≠ 0))]) ∧ Own w.heap.size w' v' (xorL F (mm mask f E 32 * 2 ^ f)) ∧ Below w.heap.size w w' := by
  have hob := h
  obtain ⟨ao, cap, rfl, hl, hmx, _, _⟩ := h.shape
  obtain ⟨V, hV⟩ : ∃ V : Bool, V = decide (mm mask f E 32 ≠ 0) := ⟨_, rfl⟩
  rw [← hV]
  have HV : Hid (V = decide (mm mask f E 32 ≠ 0)) := hV
  clear hV
  go_enter Tryd.func18, Tryd.ntmps18
  go_wp2_with fail
  refine (part_n _ F F.length _ hob (by omega) (by omega)).mono ?_
  rintro e w1 ⟨vp, rfl, hp, b1⟩
  rw [List.take_of_length_le (Nat.le_refl _)] at hp
  obtain ⟨g, capl, rfl⟩ : ∃ g capl, vp = .slice (some ⟨g, 0, none⟩) F.length capl := by
    rcases hp.shape with ⟨_, rfl⟩ | ⟨g, capl, h1, _⟩
    · simp at h0
    · exact ⟨g, capl, h1⟩
  clear hob h
  go_wp2
  go_loopw [2, 11, 12] (fun x a i wr => ∃ j : Nat, j ≤ 32 ∧ i = .int .i64 (j : Int) ∧ x = .int .u32 ((mask / 2 ^ j : Nat) : Int) ∧ a = .bool (decide (mm mask f E j ≠ 0)) ∧ Own w.heap.size wr (.slice (some ⟨g, 0, none⟩) F.length capl) (xorL F (mm mask f E j * 2 ^ f)) ∧ Below w.heap.size w wr) (fun _ _ i _ => 32 - (intOf i).toNat)
  case atStart => exact ⟨0, by omega, rfl, by simp, by simp [mm], by simpa [mm, xorL_zero] using hp, b1⟩
  case round =>
    obtain ⟨j, hj, rfl, rfl, rfl, hown, hbel⟩ := hrel
    clear hp b1
    obtain ⟨Q, hQ⟩ : ∃ Q, Q = mask / 2 ^ j := ⟨_, rfl⟩
    have hQlt : Q < 4294967296 := by rw [hQ]; exact Nat.lt_of_le_of_lt (Nat.div_le_self _ _) hm
    have HQ2 : Hid (Q / 2 = mask / 2 ^ (j + 1)) := by
      show _ = _
      rw [hQ, Nat.div_div_eq_div_mul, Nat.pow_succ]
    have HQ : Hid (Q = mask / 2 ^ j) := hQ
    rw [← hQ]
    clear hQ
    obtain ⟨B, hB⟩ : ∃ B : Bool, B = decide (mm mask f E j ≠ 0) := ⟨_, rfl⟩
    rw [← hB]
    have HB : Hid (B = decide (mm mask f E j ≠ 0)) := hB
    clear hB
    by_cases hlt : j < 32
    · by_cases hodd : Q % 2 = 1
      · have dodd : ((Q : Int) % 2 == 1) = true := beq_iff_eq.2 (by omega)
        by_cases hin : (f + j) / 8 < E
        · have din : ((f : Int) + (j : Int)) / 8 < (E : Int) := by omega
          have HM := mm_flip mask f E j ⟨by rw [← HQ.out]; exact hodd, hin⟩ F (by omega)
          have hLl := xorL_length F (mm mask f E j * 2 ^ f)
          generalize xorL F (mm mask f E j * 2 ^ f) = L at *
          obtain ⟨a, ha⟩ : ∃ a, a = (f + j) / 8 := ⟨_, rfl⟩
          obtain ⟨b, hb⟩ : ∃ b, b = (f + j) % 8 := ⟨_, rfl⟩
          have da : ((f : Int) + (j : Int)) / 8 = (a : Int) := by omega
          have db : ((f : Int) + (j : Int)) % 8 = (b : Int) := by omega
          have hb8 : b < 8 := by omega
          have haE : a < E := by omega
          have haF : a < F.length := by omega
          have hrow := hown.row
          rw [hLl] at hrow
          have hfz := hrow.frozenAt a
          have hcell : wr.cell? ⟨g, a, none⟩ = some (.int .u8 ((L.getD a 0 : Nat) : Int)) := by
            rw [hrow.cellAt a (by omega), bv_get L a (by omega)]
            simp [List.getD, show a < L.length by omega]
          have hy256 := ok_getD hown.good a
          rw [← ha, ← hb] at HM
          have HL : Hid (L.length = F.length) := hLl
          have HMH : Hid (xorL F (mm mask f E (j + 1) * 2 ^ f) = L.set a (L.getD a 0 ^^^ 2 ^ b)) := HM
          clear hin din hLl ha hb HM
          generalize L.getD a 0 = y at *
          have hg : w.heap.size ≤ g := by
            rcases hrow.2 with ⟨h1, _⟩ | ⟨g', _, _, h1, h2, _⟩
            · cases h1
            · simp only [Value.slice.injEq, Option.some.injEq, Addr.mk.injEq, and_true, true_and] at h1
              omega
          have hx := xor_bit y b hy256 hb8
          have hy2 : y ^^^ 2 ^ b < 256 := Nat.xor_lt_two_pow (n := 8) hy256 (Nat.pow_lt_pow_right (by decide) hb8)
          have hNE : mm mask f E (j + 1) ≠ 0 := by
            rw [mm, if_pos ⟨by rw [← HQ.out]; exact hodd, by omega⟩]
            have := Nat.two_pow_pos j
            omega
          have HT : Hid (true = decide (mm mask f E (j + 1) ≠ 0)) := (decide_eq_true hNE).symm
          generalize y ^^^ 2 ^ b = y2 at *
          have R : Hid (Own w.heap.size (wr.setCell ⟨g, a, none⟩ (.int .u8 (y2 : Int))).drew (.slice (some ⟨g, 0, none⟩) F.length capl) (xorL F (mm mask f E (j + 1) * 2 ^ f)) ∧ Below w.heap.size w (wr.setCell ⟨g, a, none⟩ (.int .u8 (y2 : Int))).drew) :=
            ⟨by rw [HMH.out]; exact own_stored hown HL.out hy2, (hbel.setCell (p := ⟨g, a, none⟩) hg _).drew⟩
          clear hNE hown hbel hrow
          go_wp2
          go_region
          go_wp2
          go_roundw
          case rel => exact ⟨j + 1, by omega, by go_num, by rw [← HQ2.out]; go_num, by rw [← HT.out], R.out.1, R.out.2⟩
          case measure => simp [intOf]; omega
        · have din : ¬ ((f : Int) + (j : Int)) / 8 < (E : Int) := by omega
          have HK : Hid (mm mask f E (j + 1) = mm mask f E j) := mm_skip mask f E j (fun h => hin h.2)
          have R : Hid (Own w.heap.size wr (.slice (some ⟨g, 0, none⟩) F.length capl) (xorL F (mm mask f E (j + 1) * 2 ^ f)) ∧ Below w.heap.size w wr) := ⟨by rw [HK.out]; exact hown, hbel⟩
          clear hin hown hbel
          go_wp2
          go_roundw
          case rel => exact ⟨j + 1, by omega, by go_num, by rw [← HQ2.out]; go_num, by rw [HK.out, ← HB.out], R.out.1, R.out.2⟩
          case measure => simp [intOf]; omega
      · have dodd : ((Q : Int) % 2 == 1) = false := beq_eq_false_iff_ne.2 (by omega)
        have HK : Hid (mm mask f E (j + 1) = mm mask f E j) := mm_skip mask f E j (fun h => hodd (by rw [HQ.out]; exact h.1))
        have R : Hid (Own w.heap.size wr (.slice (some ⟨g, 0, none⟩) F.length capl) (xorL F (mm mask f E (j + 1) * 2 ^ f)) ∧ Below w.heap.size w wr) := ⟨by rw [HK.out]; exact hown, hbel⟩
        clear hodd hown hbel
        go_wp2
        go_roundw
        case rel => exact ⟨j + 1, by omega, by go_num, by rw [← HQ2.out]; go_num, by rw [HK.out, ← HB.out], R.out.1, R.out.2⟩
        case measure => simp [intOf]; omega
    · obtain rfl : j = 32 := by omega
      have HE : Hid (B = V) := by show _ = _; rw [HB.out, HV.out]
      go_wp2
      go_ret2
      exact ⟨_, by rw [HE.out]; rfl, hown, hbel⟩
end Go.Proofs.YtnglcadhleefiaaDoor
