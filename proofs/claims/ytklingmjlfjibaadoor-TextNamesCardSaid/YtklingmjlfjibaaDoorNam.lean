/-
  Package text: Name; the reference's Valid, Clip, Name.
-/
import Derived.Test.YtklingmjlfjibaaDoorPcs
namespace Go.Proofs.YtklingmjlfjibaaDoor
open Go Go.RowKit
open Tx

namespace Tx
/-- Name from the n-th rune on, at p -/
def nmE (s : ByteArray) (n p : Nat) : Int × Int :=
  if _h : p < s.size then
    (if 48 ≤ n then (23, (p : Int))
     else if stray s p then (21, (p : Int))
     else if (p = 0 ∧ among lets ((Utf8.decode s p).1 : Int) = false) ∨ nmR ((Utf8.decode s p).1 : Int) = false then (22, (p : Int))
     else nmE s (n + 1) (p + (Utf8.decode s p).2))
  else (0, 0)
termination_by s.size - p
decreasing_by
  have := decode_fits s p (by assumption)
  omega
theorem nmE_out (s : ByteArray) (n p : Nat) (h : ¬ p < s.size) : nmE s n p = (0, 0) := by rw [nmE, dif_neg h]
theorem nmE_long (s : ByteArray) (n p : Nat) (h : p < s.size) (hn : 48 ≤ n) : nmE s n p = (23, (p : Int)) := by rw [nmE, dif_pos h, if_pos hn]
theorem nmE_stray (s : ByteArray) (n p : Nat) (h : p < s.size) (hn : ¬ 48 ≤ n) (hs : stray s p = true) : nmE s n p = (21, (p : Int)) := by rw [nmE, dif_pos h, if_neg hn, if_pos hs]
theorem nmE_bad (s : ByteArray) (n p : Nat) (h : p < s.size) (hn : ¬ 48 ≤ n) (hs : stray s p = false) (hb : (p = 0 ∧ among lets ((Utf8.decode s p).1 : Int) = false) ∨ nmR ((Utf8.decode s p).1 : Int) = false) : nmE s n p = (22, (p : Int)) := by
  rw [nmE, dif_pos h, if_neg hn, if_neg (by simp [hs]), if_pos hb]
theorem nmE_step (s : ByteArray) (n p : Nat) (h : p < s.size) (hn : ¬ 48 ≤ n) (hs : stray s p = false) (hb : ¬ ((p = 0 ∧ among lets ((Utf8.decode s p).1 : Int) = false) ∨ nmR ((Utf8.decode s p).1 : Int) = false)) : nmE s n p = nmE s (n + 1) (p + (Utf8.decode s p).2) := by
  rw [nmE, dif_pos h, if_neg hn, if_neg (by simp [hs]), if_neg hb]
theorem stray_rune (s : ByteArray) (p : Nat) (h : stray s p = true) : (Utf8.decode s p).1 = 65533 := by
  rw [stray_eq] at h
  simp at h
  exact h.1
theorem nmR_no : nmR 65533 = false := by decide +kernel
/-- the answer of Name -/
def nmA (s : ByteArray) : Int × Int := if s.size = 0 then (20, 0) else nmE s 0 0
theorem pcs_get (s : ByteArray) : ∀ (n p : Nat), p ≤ s.size → (∀ h : n < (pcs s p).length, (pcs s p)[n] = offs s n p) ∧ ((pcs s p).length ≤ n → offs s n p = s.size)
  | 0, p, hp => by
    by_cases h : p < s.size
    · simp only [pcs_in s p h]
      refine ⟨fun _ => rfl, fun hl => by simp at hl⟩
    · simp only [pcs_out s p h]
      exact ⟨fun h => absurd h (by simp), fun _ => by show p = s.size; omega⟩
  | n + 1, p, hp => by
    by_cases h : p < s.size
    · have ih := pcs_get s n (p + (Utf8.decode s p).2) (decode_fits s p h).2.1
      simp only [pcs_in s p h, offs, if_pos h]
      exact ⟨fun hl => ih.1 (by simpa using hl), fun hl => ih.2 (by simpa using hl)⟩
    · simp only [pcs_out s p h]
      exact ⟨fun h => absurd h (by simp), fun _ => by rw [offs_end s (n + 1) p h]; omega⟩
theorem pcs_len (s : ByteArray) : ∀ (k p : Nat), s.size - p ≤ k → (pcs s p).length ≤ s.size - p
  | k, p, hk => by
    by_cases h : p < s.size
    · have hf := decode_fits s p h
      rw [pcs_in s p h, List.length_cons]
      match k, hk with
      | 0, hk => omega
      | k + 1, hk =>
        have := pcs_len s k (p + (Utf8.decode s p).2) (by omega)
        omega
    · rw [pcs_out s p h]
      exact Nat.zero_le _
theorem pcs_head (s : ByteArray) (p : Nat) (q : Nat) (r : List Nat) (h : pcs s p = q :: r) : p < s.size ∧ q = p ∧ r = pcs s (p + (Utf8.decode s p).2) := by
  by_cases hp : p < s.size
  · rw [pcs_in s p hp] at h
    simp only [List.cons.injEq] at h
    exact ⟨hp, h.1.symm, h.2.symm⟩
  · rw [pcs_out s p hp] at h
    cases h
theorem pcR_neg (s : ByteArray) (p : Nat) : (stray s p = true ∧ pcR s p = -1) ∨ (stray s p = false ∧ pcR s p = ((Utf8.decode s p).1 : Int)) := by
  unfold pcR
  cases stray s p <;> simp
end Tx

set_option maxRecDepth 100000 in
set_option maxHeartbeats 1000000 in
theorem rvalid_any (s : ByteArray) (w : World) (hs : s.size ≤ 1000000) :
    Calls Tryd.prog 13 #[.string s] w fun e w' => e = .returned (.int .i64 (vld s 0)) ∧ Below w.heap.size w w' := by
  obtain ⟨V, hV⟩ : ∃ V, vld s 0 = V := ⟨_, rfl⟩
  have HV : Hid (vld s 0 = V) := hV
  rw [hV]
  clear hV
  go_enter Tryd.func13, Tryd.ntmps13
  go_wp2_with fail
  refine (pieces_any s _ hs).mono ?_
  rintro e w1 ⟨v1, rfl, ho1, b1⟩
  obtain ⟨ao, cap, rfl, hcap, hao, hcell⟩ := ho1.shape
  clear ho1
  have HR : Hid (∃ R, pcs s 0 = R) := ⟨_, rfl⟩
  obtain ⟨R, hR⟩ := HR.out
  have HRR : Hid (pcs s 0 = R) := hR
  have hRl : R.length ≤ 1000000 := by
    have := pcs_len s s.size 0 (by omega)
    rw [hR] at this
    omega
  rw [hR] at hao hcell
  unfold maxLen at hcap
  have HC : Hid (∀ k (hk : k < R.length), ∃ g, ao = some ⟨g, 0, none⟩ ∧ w1.cell? ⟨g, k * 3, none⟩ = some (.int .i64 (pcR s R[k])) ∧ w1.cell? ⟨g, k * 3 + 1, none⟩ = some (.int .i64 (R[k] : Int))) := fun k hk => by
    obtain ⟨g, hg⟩ := hao k hk
    have := hcell g hg k hk
    exact ⟨g, hg, this.1, this.2.1⟩
  rw [hR]
  clear HR hR hao hcell
  go_wp2
  go_loopw [4] (fun i wr => ∃ (k p : Nat), k ≤ R.length ∧ i = .int .i64 (k : Int) ∧ R.drop k = pcs s p ∧ vld s p = V ∧ wr = w1) (fun i _ => R.length - (intOf i).toNat)
  case atStart => exact ⟨0, 0, Nat.zero_le _, rfl, by rw [List.drop_zero]; exact HRR.out.symm, HV.out, rfl⟩
  case round =>
    obtain ⟨k, p, hk, rfl, hd, hv, rfl⟩ := hrel
    have HD : Hid (R.drop k = pcs s p) := hd
    have HVV : Hid (vld s p = V) := hv
    clear hd hv HV HRR
    by_cases hlt : k < R.length
    · obtain ⟨g, rfl, c0, c1⟩ := HC.out k hlt
      obtain ⟨hp, e1, e2⟩ := pcs_head s p R[k] (R.drop (k + 1)) (by rw [← HD.out, List.drop_eq_getElem_cons hlt])
      rw [e1] at c0 c1
      have HE2 : Hid (R.drop (k + 1) = pcs s (p + (Utf8.decode s p).2)) := e2
      clear e1 e2 HC
      rcases pcR_neg s p with ⟨st, e⟩ | ⟨st, e⟩
      · rw [e] at c0
        have HF : Hid ((p : Int) = V) := by show _ = _; rw [← HVV.out, vld_hit s p hp st]
        clear e st
        go_wp2
        go_ret
        rw [HF.out]
        exact ⟨rfl, b1⟩
      · rw [e] at c0
        have HF : Hid (vld s (p + (Utf8.decode s p).2) = V) := by show _ = _; rw [← HVV.out, vld_step s p hp st]
        clear e st
        generalize (Utf8.decode s p).1 = r at *
        go_wp2
        go_roundw
        case rel => exact ⟨k + 1, _, by omega, by go_num, HE2.out, HF.out, trivial⟩
        case measure => simp [intOf]; omega
    · have HF : Hid (V = -1) := by
        show _ = _
        rw [← HVV.out]
        apply vld_end
        intro hp
        have h1 := HD.out
        rw [List.drop_eq_nil_of_le (by omega), pcs_in s p hp] at h1
        cases h1
      go_wp2
      go_ret
      rw [HF.out]
      exact ⟨rfl, b1⟩

set_option maxRecDepth 100000 in
set_option maxHeartbeats 1000000 in
theorem rclip_any (s : ByteArray) (n : Int) (w : World) (hs : s.size ≤ 1000000) (hn : n < 9223372036854775808) :
    Calls Tryd.prog 15 #[.string s, .int .i64 n] w fun e w' => e = .returned (.string (clip s n)) ∧ Below w.heap.size w w' := by
  have HCL : Hid (clip s n = s.extract 0 (offs s n.toNat 0)) := rfl
  generalize clip s n = c at *
  go_enter Tryd.func15, Tryd.ntmps15
  go_wp2_with fail
  refine (pieces_any s _ hs).mono ?_
  rintro e w1 ⟨v1, rfl, ho1, b1⟩
  obtain ⟨ao, cap, rfl, hcap, hao, hcell⟩ := ho1.shape
  clear ho1
  have hRl : (pcs s 0).length ≤ 1000000 := by
    have := pcs_len s s.size 0 (by omega)
    omega
  have HG : Hid (∀ n, (∀ h : n < (pcs s 0).length, (pcs s 0)[n] = offs s n 0) ∧ ((pcs s 0).length ≤ n → offs s n 0 = s.size)) := fun n => pcs_get s n 0 (Nat.zero_le _)
  generalize pcs s 0 = R at *
  unfold maxLen at hcap
  by_cases h0 : n ≤ 0
  · have HE : Hid (c = ⟨#[]⟩) := by
      show _ = _
      rw [HCL.out, show n.toNat = 0 by omega]
      show s.extract 0 0 = _
      apply ByteArray.ext
      simp
    clear HG hao hcell
    go_wp2
    go_ret
    rw [HE.out]
    exact ⟨rfl, b1⟩
  · by_cases h1 : (R.length : Int) ≤ n
    · have HE : Hid (c = s) := by
        show _ = _
        rw [HCL.out, (HG.out n.toNat).2 (by omega), ByteArray.extract_zero_size]
      clear HG hao hcell
      go_wp2
      go_ret
      rw [HE.out]
      exact ⟨rfl, b1⟩
    · obtain ⟨N, rfl⟩ := Int.eq_ofNat_of_zero_le (show 0 ≤ n by omega)
      have hlt : N < R.length := by omega
      have hN0 : ¬ N = 0 := by omega
      have hN1 : ¬ R.length ≤ N := by omega
      clear hn h0 h1
      obtain ⟨g, rfl⟩ := hao N hlt
      obtain ⟨_, c1, _⟩ := hcell g rfl N hlt
      rw [(HG.out N).1 hlt] at c1
      have hle := offs_le s N 0 (Nat.zero_le _)
      have HE : Hid (c = s.extract 0 (offs s N 0)) := HCL.out
      clear HG hao hcell HCL
      obtain ⟨o, ho⟩ : ∃ o, offs s N 0 = o := ⟨_, rfl⟩
      rw [ho] at c1 hle HE
      clear ho
      go_wp2
      go_ret
      rw [HE.out]
      exact ⟨rfl, b1⟩
end Go.Proofs.YtklingmjlfjibaaDoor
