import Derived.Test.YtneifdbcjicfgaaDoorQJ3
/-
  The reference: escape.
-/
namespace Go.Proofs.YtneifdbcjicfgaaDoor
open Go Go.RowKit Go.Lib
open Tx

namespace Tx
/-- an escape by its second byte -/
theorem esc_end (s : ByteArray) (i : Nat) (hi : i < s.size) (h1 : ¬ i + 1 < s.size) : esc (s.extract i s.size) = (⟨#[]⟩, 0) := by
  have hS := size_cut s i s.size (Nat.le_refl _)
  have no2 : ∀ b : UInt8, ¬ pre (s.extract i s.size) ⟨#[92, b]⟩ = true := fun b hp => by
    have h2 : 2 ≤ (s.extract i s.size).size := pre_size _ _ hp
    omega
  have no3 : ¬ pre (s.extract i s.size) ⟨#[92, 117, 123]⟩ = true := fun hp => by
    have h2 : 3 ≤ (s.extract i s.size).size := pre_size _ _ hp
    omega
  unfold esc
  rw [if_neg (no2 120), if_neg no3, if_neg (no2 34), if_neg (no2 92), if_neg (no2 110), if_neg (no2 116), if_neg (no2 114)]
theorem esc_other (s : ByteArray) (i : Nat) (h1 : i + 1 < s.size) (c : Nat) (hc : at' s (i + 1) = c) (hn : c ≠ 120 ∧ c ≠ 117 ∧ c ≠ 34 ∧ c ≠ 92 ∧ c ≠ 110 ∧ c ≠ 116 ∧ c ≠ 114) : esc (s.extract i s.size) = (⟨#[]⟩, 0) := by
  have a1 := at_from s i 1 h1
  rw [hc] at a1
  unfold esc
  rw [if_neg (pno a1 120 hn.1), if_neg (pnoU a1 hn.2.1), if_neg (pno a1 34 hn.2.2.1), if_neg (pno a1 92 hn.2.2.2.1), if_neg (pno a1 110 hn.2.2.2.2.1), if_neg (pno a1 116 hn.2.2.2.2.2.1), if_neg (pno a1 114 hn.2.2.2.2.2.2)]
theorem has_two (s : ByteArray) (i : Nat) (h0 : at' s i = 92) (h1 : i + 1 < s.size) (b : UInt8) (hc : at' s (i + 1) = b.toNat) : Has (s.extract i s.size) 0 [92, b] := by
  have hS := size_cut s i s.size (Nat.le_refl _)
  have a0 := at_from s i 0 (by omega)
  have a1 := at_from s i 1 h1
  rw [Nat.add_zero, h0] at a0
  rw [hc] at a1
  exact has_cons (by omega) a0 (has1 (by omega) a1)
theorem esc_120 (s : ByteArray) (i : Nat) (h0 : at' s i = 92) (h1 : i + 1 < s.size) (hc : at' s (i + 1) = 120) :
    esc (s.extract i s.size) = if i + 3 < s.size then (match hv (at' s (i + 2)), hv (at' s (i + 3)) with | some a, some b => (⟨#[UInt8.ofNat (16 * a + b)]⟩, 4) | _, _ => (⟨#[]⟩, 0)) else (⟨#[]⟩, 0) := by
  have hS := size_cut s i s.size (Nat.le_refl _)
  have hp := pre_yes (has_two s i h0 h1 120 hc) (by simp; omega)
  unfold esc
  rw [if_pos hp]
  unfold eb
  by_cases h3 : i + 3 < s.size
  · rw [if_neg (by omega), if_pos h3, at_from s i 2 (by omega), at_from s i 3 h3]
    cases hv (at' s (i + 2)) <;> cases hv (at' s (i + 3)) <;> rfl
  · rw [if_pos (by omega), if_neg h3]
end Tx
theorem slB_one (w : World) (t : TypeId) (c : Nat) (hc : c < 256) : SlB (w.alloc (.cells #[.int .u8 (c : Int)] t)) (.slice (some ⟨w.heap.size, 0, none⟩) 1 1) [UInt8.ofNat c] :=
  slB_lit w t [UInt8.ofNat c] #[.int .u8 (c : Int)] (by rw [bc1 c hc])

set_option maxRecDepth 100000 in
set_option maxHeartbeats 1000000 in
theorem resc_any (s : ByteArray) (i : Nat) (w : World) (hs : s.size ≤ 8000000) (hi : i < s.size) (h0 : at' s i = 92) :
    Calls Tryd.prog 64 #[.string s, .int .i64 (i : Int)] w fun e w' => ∃ v, e = .returned (.tuple #[v, .int .i64 (esc (s.extract i s.size)).2]) ∧ EscOK w' v (esc (s.extract i s.size)) ∧ Below w.heap.size w w' := by
  have HNO : Hid (∀ w' : World, EscOK w' (.slice none 0 0) (⟨#[]⟩, 0)) := escOK_no
  by_cases h1 : i + 1 < s.size
  · have g1 := at_get s (i + 1) h1
    have hcl := at_lt s (i + 1)
    obtain ⟨c, hc⟩ : ∃ c, at' s (i + 1) = c := ⟨_, rfl⟩
    have hcc : (s[i + 1]'h1).toNat = c := by rw [← g1]; exact hc
    by_cases c34 : c = 34
    · subst c34
      rw [esc_q (has_two s i h0 h1 34 hc)]
      have HS : Hid (∀ t, EscOK (w.alloc (.cells #[.int .u8 34] t)) (.slice (some ⟨w.heap.size, 0, none⟩) 1 1) (⟨#[34]⟩, 2)) := fun t => ⟨⟨_, _, _, rfl⟩, fun _ => slB_one w t 34 (by decide)⟩
      clear g1 hc h0
      go_enter Tryd.func64, Tryd.ntmps64
      go_wp2
      go_ret2
      exact ⟨_, rfl, HS.out _, up0 _ _⟩
    by_cases c92 : c = 92
    · subst c92
      rw [esc_b (has_two s i h0 h1 92 hc)]
      have HS : Hid (∀ t, EscOK (w.alloc (.cells #[.int .u8 92] t)) (.slice (some ⟨w.heap.size, 0, none⟩) 1 1) (⟨#[92]⟩, 2)) := fun t => ⟨⟨_, _, _, rfl⟩, fun _ => slB_one w t 92 (by decide)⟩
      clear g1 hc h0
      go_enter Tryd.func64, Tryd.ntmps64
      go_wp2
      go_ret2
      exact ⟨_, rfl, HS.out _, up0 _ _⟩
    by_cases c110 : c = 110
    · subst c110
      rw [esc_n (has_two s i h0 h1 110 hc)]
      have HS : Hid (∀ t, EscOK (w.alloc (.cells #[.int .u8 10] t)) (.slice (some ⟨w.heap.size, 0, none⟩) 1 1) (⟨#[10]⟩, 2)) := fun t => ⟨⟨_, _, _, rfl⟩, fun _ => slB_one w t 10 (by decide)⟩
      clear g1 hc h0
      go_enter Tryd.func64, Tryd.ntmps64
      go_wp2
      go_ret2
      exact ⟨_, rfl, HS.out _, up0 _ _⟩
    by_cases c116 : c = 116
    · subst c116
      rw [esc_t (has_two s i h0 h1 116 hc)]
      have HS : Hid (∀ t, EscOK (w.alloc (.cells #[.int .u8 9] t)) (.slice (some ⟨w.heap.size, 0, none⟩) 1 1) (⟨#[9]⟩, 2)) := fun t => ⟨⟨_, _, _, rfl⟩, fun _ => slB_one w t 9 (by decide)⟩
      clear g1 hc h0
      go_enter Tryd.func64, Tryd.ntmps64
      go_wp2
      go_ret2
      exact ⟨_, rfl, HS.out _, up0 _ _⟩
    by_cases c114 : c = 114
    · subst c114
      rw [esc_r (has_two s i h0 h1 114 hc)]
      have HS : Hid (∀ t, EscOK (w.alloc (.cells #[.int .u8 13] t)) (.slice (some ⟨w.heap.size, 0, none⟩) 1 1) (⟨#[13]⟩, 2)) := fun t => ⟨⟨_, _, _, rfl⟩, fun _ => slB_one w t 13 (by decide)⟩
      clear g1 hc h0
      go_enter Tryd.func64, Tryd.ntmps64
      go_wp2
      go_ret2
      exact ⟨_, rfl, HS.out _, up0 _ _⟩
    by_cases c117 : c = 117
    · subst c117
      have HBR : Hid (∀ w', Calls Tryd.prog 77 #[.string s, .int .i64 (i : Int)] w' fun e w'' => ∃ v, e = .returned (.tuple #[v, .int .i64 (esc (s.extract i s.size)).2]) ∧ EscOK w'' v (esc (s.extract i s.size)) ∧ Below w'.heap.size w' w'') := fun w' => braced_any s i w' hs h0 h1 hc
      generalize esc (s.extract i s.size) = X at *
      clear g1 hc h0
      go_enter Tryd.func64, Tryd.ntmps64
      go_wp2_with fail
      refine (HBR.out _).mono ?_
      rintro e w1 ⟨v1, rfl, he1, b1⟩
      obtain ⟨⟨ao, n, cap, rfl⟩, he2⟩ := he1
      have HE : Hid (EscOK w1 (.slice ao n cap) X) := ⟨⟨_, _, _, rfl⟩, he2⟩
      clear he2
      go_wp2
      go_ret2
      exact ⟨_, rfl, HE.out, b1⟩
    by_cases c120 : c = 120
    · subst c120
      rw [esc_120 s i h0 h1 hc]
      by_cases h3 : i + 3 < s.size
      · rw [if_pos h3]
        have h2 : i + 2 < s.size := by omega
        have g2 := at_get s (i + 2) h2
        have g3 := at_get s (i + 3) h3
        have l2 := at_lt s (i + 2)
        have l3 := at_lt s (i + 3)
        generalize at' s (i + 2) = d2 at *
        generalize at' s (i + 3) = d3 at *
        have HD2 : Hid (∀ w' : World, Calls Tryd.prog 76 #[.int .u8 (d2 : Int)] w' fun e w'' => e = .returned (.int .i64 (hvi d2)) ∧ w'' = w') := fun w' => rdig_any _ w' l2
        have HD3 : Hid (∀ w' : World, Calls Tryd.prog 76 #[.int .u8 (d3 : Int)] w' fun e w'' => e = .returned (.int .i64 (hvi d3)) ∧ w'' = w') := fun w' => rdig_any _ w' l3
        have g2' : (s[i + 2]'h2).toNat = d2 := g2.symm
        have g3' : (s[i + 3]'h3).toNat = d3 := g3.symm
        clear g1 g2 g3 hc h0
        cases e2 : hv d2 with
        | none =>
          have HH2 : Hid (hvi d2 = -1) := hvi_none e2
          rw [HH2.out] at HD2
          clear e2 HH2 HD3
          go_enter Tryd.func64, Tryd.ntmps64
          go_wp2_with fail
          refine (HD2.out _).mono ?_
          rintro e w1 ⟨rfl, rfl⟩
          go_wp2
          go_ret2
          exact ⟨_, rfl, HNO.out _, Below.refl _ _⟩
        | some a =>
          have hh2 : hvi d2 = (a : Int) := hvi_some e2
          have ha := hv_lt e2
          have HX2 : Hid (hvi d2 = (a : Int)) := hh2
          rw [HX2.out] at HD2
          clear e2
          cases e3 : hv d3 with
          | none =>
            have HH3 : Hid (hvi d3 = -1) := hvi_none e3
            rw [HH3.out] at HD3
            clear e3 HH3
            go_enter Tryd.func64, Tryd.ntmps64
            go_wp2_with fail
            refine (HD2.out _).mono ?_
            rintro e w1 ⟨rfl, rfl⟩
            go_wp2_with fail
            refine (HD3.out _).mono ?_
            rintro e w1 ⟨rfl, rfl⟩
            go_wp2
            go_ret2
            exact ⟨_, rfl, HNO.out _, Below.refl _ _⟩
          | some b =>
            have hh3 : hvi d3 = (b : Int) := hvi_some e3
            have hb := hv_lt e3
            have HX3 : Hid (hvi d3 = (b : Int)) := hh3
            rw [HX3.out] at HD3
            clear e3
            have HS : Hid (∀ (W : World) (t : TypeId) (z : Int), z = ((16 * a + b : Nat) : Int) → EscOK (W.alloc (.cells #[.int .u8 z] t)) (.slice (some ⟨W.heap.size, 0, none⟩) 1 1) (⟨#[UInt8.ofNat (16 * a + b)]⟩, 4)) := fun W t z hz => by subst hz; exact ⟨⟨_, _, _, rfl⟩, fun _ => slB_one W t (16 * a + b) (by omega)⟩
            go_enter Tryd.func64, Tryd.ntmps64
            go_wp2_with fail
            refine (HD2.out _).mono ?_
            rintro e w1 ⟨rfl, rfl⟩
            go_wp2_with fail
            refine (HD3.out _).mono ?_
            rintro e w1 ⟨rfl, rfl⟩
            have k2 : (i : Int) + 2 < (s.size : Int) := by omega
            have k3 : (i : Int) + 3 < (s.size : Int) := by omega
            have m2 : 0 ≤ (i : Int) + 2 := by omega
            have m3 : 0 ≤ (i : Int) + 3 := by omega
            have n2 : ((i : Int) + 2).toNat = i + 2 := by omega
            have n3 : ((i : Int) + 3).toNat = i + 3 := by omega
            go_wp2_with fail
            have w2 : IntKind.i64.wrap ((i : Int) + 2) = (i : Int) + 2 := IntWalk.i64_in _ (by omega)
            have w3 : IntKind.i64.wrap ((i : Int) + 3) = (i : Int) + 3 := IntWalk.i64_in _ (by omega)
            have w4 : IntKind.i64.wrap ((a : Int) * 16) = (a : Int) * 16 := IntWalk.i64_in _ (by omega)
            have w5 : IntKind.i64.wrap ((a : Int) * 16 + (b : Int)) = (a : Int) * 16 + (b : Int) := IntWalk.i64_in _ (by omega)
            have w6 : IntKind.u8.wrap ((a : Int) * 16 + (b : Int)) = (a : Int) * 16 + (b : Int) := IntWalk.u8_in _ (by omega)
            clear HD2 HD3
            go_region_held (fun _ => True) (exact trivial) (first
              | (go_at_call 76; refine (rdig_any _ _ ?_).mono ?_; (first | exact l2 | exact l3); rintro e w2 ⟨rfl, rfl⟩))
            all_goals
              go_wp2
              go_ret2
              exact ⟨_, rfl, HS.out _ _ _ (by omega), by repeat (first | exact up0 _ _ | exact Below.refl _ _ | refine Below.drew ?_ | refine up ?_ _)⟩
      · rw [if_neg h3]
        clear g1 hc h0
        go_enter Tryd.func64, Tryd.ntmps64
        go_wp2
        go_ret2
        exact ⟨_, rfl, HNO.out _, Below.refl _ _⟩
    rw [esc_other s i h1 c hc ⟨c120, c117, c34, c92, c110, c116, c114⟩]
    have t1 : ((c : Int) == (34 : Int)) = false := by rw [beq_eq_false_iff_ne]; omega
    have t2 : ((c : Int) == (92 : Int)) = false := by rw [beq_eq_false_iff_ne]; omega
    have t3 : ((c : Int) == (110 : Int)) = false := by rw [beq_eq_false_iff_ne]; omega
    have t4 : ((c : Int) == (116 : Int)) = false := by rw [beq_eq_false_iff_ne]; omega
    have t5 : ((c : Int) == (114 : Int)) = false := by rw [beq_eq_false_iff_ne]; omega
    have t6 : ((c : Int) == (120 : Int)) = false := by rw [beq_eq_false_iff_ne]; omega
    have t7 : ((c : Int) == (117 : Int)) = false := by rw [beq_eq_false_iff_ne]; omega
    clear g1 hc h0 c34 c92 c110 c116 c114 c117 c120
    go_enter Tryd.func64, Tryd.ntmps64
    go_wp2
    go_ret2
    exact ⟨_, rfl, HNO.out _, Below.refl _ _⟩
  · rw [esc_end s i hi h1]
    clear h0
    go_enter Tryd.func64, Tryd.ntmps64
    go_wp2
    go_ret2
    exact ⟨_, rfl, HNO.out _, Below.refl _ _⟩
end Go.Proofs.YtneifdbcjicfgaaDoor
