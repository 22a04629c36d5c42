import Derived.Test.YtneifdbcjicfgaaDoorQK
import Derived.Test.YtneifdbcjicfgaaDoorQC
import Derived.Test.YtneifdbcjicfgaaDoorQE
import Derived.Test.YtneifdbcjicfgaaDoorQJ
import Derived.Test.YtneifdbcjicfgaaDoorQA
/-
  Package text: Name; the reference's Valid, Clip, Name.
-/
namespace Go.Proofs.YtneifdbcjicfgaaDoor
open Go Go.RowKit
open Tx

namespace Tx
theorem pcs_get (s : ByteArray) : ∀ (n p : Nat), p ≤ s.size → (∀ h : n < (pcs s p).length, (pcs s p)[n] = offs s n p) ∧ ((pcs s p).length ≤ n → offs s n p = s.size)
  | 0, p, hp => by
    by_cases h : p < s.size
    · simp only [pcs_in s p h]
      refine ⟨fun _ => rfl, fun hl => by simp at hl⟩
    · simp only [pcs_out s p h]
      exact ⟨fun h => absurd h (by simp), fun _ => by show p = s.size; omega⟩
  | n + 1, p, hp => by
    by_cases h : p < s.size
    · have ih := pcs_get s n (p + (Utf8.decode s p).2) (decode_fits s p h).2.1
      simp only [pcs_in s p h, offs, if_pos h]
      exact ⟨fun hl => ih.1 (by simpa using hl), fun hl => ih.2 (by simpa using hl)⟩
    · simp only [pcs_out s p h]
      exact ⟨fun h => absurd h (by simp), fun _ => by rw [offs_end s (n + 1) p h]; omega⟩
theorem pcs_len (s : ByteArray) : ∀ (k p : Nat), s.size - p ≤ k → (pcs s p).length ≤ s.size - p
  | k, p, hk => by
    by_cases h : p < s.size
    · have hf := decode_fits s p h
      rw [pcs_in s p h, List.length_cons]
      match k, hk with
      | 0, hk => omega
      | k + 1, hk =>
        have := pcs_len s k (p + (Utf8.decode s p).2) (by omega)
        omega
    · rw [pcs_out s p h]
      exact Nat.zero_le _
theorem pcs_head (s : ByteArray) (p : Nat) (q : Nat) (r : List Nat) (h : pcs s p = q :: r) : p < s.size ∧ q = p ∧ r = pcs s (p + (Utf8.decode s p).2) := by
  by_cases hp : p < s.size
  · rw [pcs_in s p hp] at h
    simp only [List.cons.injEq] at h
    exact ⟨hp, h.1.symm, h.2.symm⟩
  · rw [pcs_out s p hp] at h
    cases h
theorem pcR_neg (s : ByteArray) (p : Nat) : (stray s p = true ∧ pcR s p = -1) ∨ (stray s p = false ∧ pcR s p = ((Utf8.decode s p).1 : Int)) := by
  unfold pcR
  cases stray s p <;> simp
end Tx

end Go.Proofs.YtneifdbcjicfgaaDoor

/-
  The reference's Name.
-/
namespace Go.Proofs.YtneifdbcjicfgaaDoor
open Go Go.RowKit
open Tx

set_option maxRecDepth 100000 in
set_option maxHeartbeats 2000000 in
theorem rname_any (s : ByteArray) (w : World) (hs : s.size ≤ 2000000) (hT : TabP 1 .i64 lets w) :
    Calls Tryd.prog 24 #[.string s] w fun e w' => e = .returned (.tuple #[.int .i64 (nmA s).1, .int .i64 (nmA s).2]) ∧ Below w.heap.size w w' := by
  have HT : Hid (∀ w', Below w.heap.size w w' → TabP 1 .i64 lets w') := fun w' hb => hT.kept hb
  obtain ⟨A, hA⟩ : ∃ A, nmA s = A := ⟨_, rfl⟩
  have HA0 : Hid (s.size = 0 → A = (20, 0)) := fun h => by rw [← hA]; unfold nmA; rw [if_pos h]
  have HA1 : Hid (¬ s.size = 0 → nmE s 0 0 = A) := fun h => by rw [← hA]; unfold nmA; rw [if_neg h]
  rw [hA]
  clear hA hT
  go_enter Tryd.func24, Tryd.ntmps24
  go_wp2_with fail
  refine (pieces_any s _ hs).mono ?_
  rintro e w1 ⟨v1, rfl, ho1, b1⟩
  obtain ⟨ao, cap, rfl, hcap, hao, hcell⟩ := ho1.shape
  clear ho1
  have hRl : (pcs s 0).length ≤ 2000000 := by
    have := pcs_len s s.size 0 (by omega)
    omega
  by_cases h0 : s.size = 0
  · have HE : Hid (A = (20, 0)) := HA0.out h0
    have hz : (pcs s 0).length = 0 := by rw [pcs_out s 0 (by omega)]; rfl
    rw [hz]
    clear hao hcell HA0 HA1 hRl hz
    go_wp2
    go_ret2
    rw [HE.out]
    exact ⟨rfl, b1⟩
  · have hz : 0 < (pcs s 0).length := by rw [pcs_in s 0 (by omega)]; simp
    have HA : Hid (nmE s 0 0 = A) := HA1.out h0
    obtain ⟨R, hR⟩ : ∃ R, pcs s 0 = R := ⟨_, rfl⟩
    have HRR : Hid (pcs s 0 = R) := hR
    rw [hR] at hao hcell hRl hz
    rw [hR]
    have HC : Hid (∀ wr, Below w1.heap.size w1 wr → ∀ k (hk : k < R.length), ∃ g, ao = some ⟨g, 0, none⟩ ∧ wr.cell? ⟨g, k * 3, none⟩ = some (.int .i64 (pcR s R[k])) ∧ wr.cell? ⟨g, k * 3 + 1, none⟩ = some (.int .i64 (R[k] : Int)) ∧ wr.cell? ⟨g, k * 3 + 2, none⟩ = some (.int .i64 ((Utf8.decode s R[k]).2 : Int))) := fun wr hb k hk => by
      obtain ⟨g, hg⟩ := hao k hk
      obtain ⟨d0, d1, d2⟩ := hcell g hg k hk
      exact ⟨g, hg, (hb.cell (p := ⟨g, _, none⟩) (World.block_lt_of_cell? _ _ d0)).trans d0, (hb.cell (p := ⟨g, _, none⟩) (World.block_lt_of_cell? _ _ d1)).trans d1, (hb.cell (p := ⟨g, _, none⟩) (World.block_lt_of_cell? _ _ d2)).trans d2⟩
    have HB1 : Hid (∀ wr, Below w1.heap.size w1 wr → Below w.heap.size w wr) := fun wr hb => andThen b1 hb
    clear hao hcell HA0 HA1 hR b1 hcap
    have hzb : ((R.length : Int) == 0) = false := by simp; intro e; rw [e] at hz; simp at hz
    go_wp2
    go_loopw [5] (fun i wr => ∃ (k p : Nat), k ≤ R.length ∧ i = .int .i64 (k : Int) ∧ R.drop k = pcs s p ∧ nmE s k p = A ∧ (k = 0 ↔ p = 0) ∧ Below w1.heap.size w1 wr) (fun i _ => R.length - (intOf i).toNat)
    case atStart => exact ⟨0, 0, Nat.zero_le _, rfl, by rw [List.drop_zero]; exact HRR.out.symm, HA.out, Iff.rfl, Below.refl _ _⟩
    case round =>
      obtain ⟨k, p, hk, rfl, hd, ha, hkp, hbel⟩ := hrel
      have HD : Hid (R.drop k = pcs s p) := hd
      have HAA : Hid (nmE s k p = A) := ha
      have HKP : Hid (k = 0 ↔ p = 0) := hkp
      clear hd ha HA HRR hkp
      by_cases hlt : k < R.length
      · obtain ⟨g, rfl, c0, c1, c2⟩ := HC.out wr hbel k hlt
        obtain ⟨hp, e1, e2⟩ := pcs_head s p R[k] (R.drop (k + 1)) (by rw [← HD.out, List.drop_eq_getElem_cons hlt])
        rw [e1] at c0 c1 c2
        have HE2 : Hid (R.drop (k + 1) = pcs s (p + (Utf8.decode s p).2)) := e2
        have hd := decode_fits s p hp
        have HW : Hid (∀ o n, Below w.heap.size w ((wr.alloc o).drewN n)) := fun o n => HB1.out _ (below_drewN (up hbel _) n)
        have HW1 : Hid (∀ o n, Below w1.heap.size w1 ((wr.alloc o).drewN n)) := fun o n => below_drewN (up hbel _) n
        clear e1 e2 HC HD
        by_cases h48 : 48 ≤ k
        · have HF : Hid (A = (23, (p : Int))) := by show _ = _; rw [← HAA.out, nmE_long s k p hp h48]
          generalize pcR s p = r at *
          generalize (Utf8.decode s p).2 = n at *
          go_wp2
          go_quiet (fail)
          go_wp2
          go_ret2
          rw [HF.out]
          exact ⟨rfl, HW.out _ _⟩
        · rcases pcR_neg s p with ⟨st, e⟩ | ⟨st, e⟩
          · rw [e] at c0
            have HF : Hid (A = (21, (p : Int))) := by show _ = _; rw [← HAA.out, nmE_stray s k p hp h48 st]
            clear e st
            generalize (Utf8.decode s p).2 = n at *
            go_wp2
            go_quiet (fail)
            go_wp2
            go_ret2
            rw [HF.out]
            exact ⟨rfl, HW.out _ _⟩
          · rw [e] at c0
            have HBAD : Hid ((p = 0 ∧ among lets ((Utf8.decode s p).1 : Int) = false) ∨ nmR ((Utf8.decode s p).1 : Int) = false → A = (22, (p : Int))) := fun hb => by
              rw [← HAA.out, nmE_bad s k p hp h48 st hb]
            have HGOOD : Hid (¬ ((p = 0 ∧ among lets ((Utf8.decode s p).1 : Int) = false) ∨ nmR ((Utf8.decode s p).1 : Int) = false) → nmE s (k + 1) (p + (Utf8.decode s p).2) = A) := fun hb => by
              rw [← HAA.out, nmE_step s k p hp h48 st hb]
            clear e st HAA
            obtain ⟨r, hr⟩ : ∃ r : Nat, (Utf8.decode s p).1 = r := ⟨_, rfl⟩
            rw [hr] at c0 HBAD HGOOD
            clear hr
            have HRT : Hid (∀ o n, TabP 1 .i64 lets ((wr.alloc o).drewN n)) := fun o n => HT.out _ (HW.out o n)
            by_cases hk0 : k = 0
            · have hp0 := HKP.out.1 hk0
              subst hk0
              rw [Nat.zero_mul] at c0 c1 c2
              rw [Nat.zero_add] at c1 c2
              cases hal : among lets (r : Int) with
              | false =>
                have HF : Hid (A = (22, (p : Int))) := HBAD.out (.inl ⟨hp0, hal⟩)
                have HAL : Hid (among lets (r : Int) = false) := hal
                clear HBAD HGOOD hal hp0
                generalize (Utf8.decode s p).2 = n at *
                go_wp2_with fail
                refine (rletter_any _ _ (HRT.out _ 0)).mono ?_
                rw [HAL.out]
                rintro e w3 ⟨rfl, n3, rfl⟩
                go_wp2
                go_quiet (fail)
                go_wp2
                go_ret2
                rw [HF.out]
                exact ⟨rfl, by first | exact HW.out _ _ | (rw [World.drewN_drewN]; exact HW.out _ _)⟩
              | true =>
                cases hnm : nmR (r : Int) with
                | false =>
                  have HF : Hid (A = (22, (p : Int))) := HBAD.out (.inr hnm)
                  have HAL : Hid (among lets (r : Int) = true) := hal
                  have HNM : Hid (nmR (r : Int) = false) := hnm
                  clear HBAD HGOOD hal hp0 hnm
                  generalize (Utf8.decode s p).2 = n at *
                  go_wp2_with fail
                  refine (rletter_any _ _ (HRT.out _ 0)).mono ?_
                  rw [HAL.out]
                  rintro e w3 ⟨rfl, n3, rfl⟩
                  go_wp2_with fail
                  refine (rnamer_any _ _ (HRT.out _ _)).mono ?_
                  rw [HNM.out]
                  rintro e w4 ⟨rfl, n4, rfl⟩
                  go_wp2
                  go_quiet (fail)
                  go_wp2
                  go_ret2
                  rw [HF.out]
                  exact ⟨rfl, by first | exact HW.out _ _ | (rw [World.drewN_drewN]; exact HW.out _ _)⟩
                | true =>
                  have HF : Hid (nmE s (0 + 1) (p + (Utf8.decode s p).2) = A) := HGOOD.out (by simp [hal, hnm])
                  have HAL : Hid (among lets (r : Int) = true) := hal
                  have HNM : Hid (nmR (r : Int) = true) := hnm
                  clear HBAD HGOOD hal hp0 hnm
                  generalize (Utf8.decode s p).2 = n at *
                  go_wp2_with fail
                  refine (rletter_any _ _ (HRT.out _ 0)).mono ?_
                  rw [HAL.out]
                  rintro e w3 ⟨rfl, n3, rfl⟩
                  go_wp2_with fail
                  refine (rnamer_any _ _ (HRT.out _ _)).mono ?_
                  rw [HNM.out]
                  rintro e w4 ⟨rfl, n4, rfl⟩
                  go_wp2
                  go_roundw
                  case rel => exact ⟨0 + 1, p + n, by omega, by first | rfl | go_num, HE2.out, HF.out, by omega, by first | exact HW1.out _ _ | (rw [World.drewN_drewN]; exact HW1.out _ _)⟩
                  case measure => simp [intOf]; omega
            · have hp0 : ¬ p = 0 := fun e => hk0 (HKP.out.2 e)
              cases hnm : nmR (r : Int) with
              | false =>
                have HF : Hid (A = (22, (p : Int))) := HBAD.out (.inr hnm)
                have HNM : Hid (nmR (r : Int) = false) := hnm
                clear HBAD HGOOD hnm
                generalize (Utf8.decode s p).2 = n at *
                go_wp2_with fail
                refine (rnamer_any _ _ (HRT.out _ 0)).mono ?_
                rw [HNM.out]
                rintro e w4 ⟨rfl, n4, rfl⟩
                go_wp2
                go_quiet (fail)
                go_wp2
                go_ret2
                rw [HF.out]
                exact ⟨rfl, by first | exact HW.out _ _ | (rw [World.drewN_drewN]; exact HW.out _ _)⟩
              | true =>
                have HF : Hid (nmE s (k + 1) (p + (Utf8.decode s p).2) = A) := HGOOD.out (by simp [hp0, hnm])
                have HNM : Hid (nmR (r : Int) = true) := hnm
                clear HBAD HGOOD hnm
                generalize (Utf8.decode s p).2 = n at *
                go_wp2_with fail
                refine (rnamer_any _ _ (HRT.out _ 0)).mono ?_
                rw [HNM.out]
                rintro e w4 ⟨rfl, n4, rfl⟩
                go_wp2
                go_roundw
                case rel => exact ⟨k + 1, p + n, by omega, by go_num, HE2.out, HF.out, by omega, by first | exact HW1.out _ _ | (rw [World.drewN_drewN]; exact HW1.out _ _)⟩
                case measure => simp [intOf]; omega
      · have HF : Hid (A = (0, 0)) := by
          show _ = _
          rw [← HAA.out]
          apply nmE_out
          intro hp
          have h1 := HD.out
          rw [List.drop_eq_nil_of_le (by omega), pcs_in s p hp] at h1
          cases h1
        have HB := HB1.out wr hbel
        clear HC
        go_wp2
        go_ret2
        rw [HF.out]
        exact ⟨rfl, HB⟩
end Go.Proofs.YtneifdbcjicfgaaDoor

/-
  TextRound: the law's walk.
-/
namespace Go.Proofs.YtneifdbcjicfgaaDoor
open Go Go.RowKit Go.Lib
open Tx

namespace Tx
theorem has_mid (a x b : ByteArray) : Has (a ++ x ++ b) a.size x.data.toList := fun j hj => by
  rw [list_size] at hj
  have h1 : a.size + j < (a ++ x ++ b).size := by rw [ByteArray.size_append, ByteArray.size_append]; omega
  refine ⟨h1, ?_⟩
  rw [at_get _ _ h1]
  congr 1
  rw [ByteArray.getElem_append_left (by rw [ByteArray.size_append]; omega), ByteArray.getElem_append_right (by omega)]
  simp only [Nat.add_sub_cancel_left]
  rfl
theorem quo_list (t : ByteArray) : (quo t).data.toList = 34 :: (qs t 0 ++ [34]) := rfl
theorem quo_size (t : ByteArray) : (quo t).size = (qs t 0).length + 2 := by
  rw [← list_size, quo_list]
  simp
theorem qs_len (t : ByteArray) : ∀ (k p : Nat), t.size - p ≤ k → (qs t p).length ≤ 12 * k
  | 0, p, hk => by rw [qs_out t p (by omega)]; simp
  | k + 1, p, hk => by
    by_cases h : p < t.size
    · have hd := decode_fits t p h
      have h1 := qs_len t k (p + (Utf8.decode t p).2) (by omega)
      have h2 := pcW_le t p
      rw [qs_in t p h, List.length_append, list_size]
      omega
    · rw [qs_out t p h]; simp
theorem unq_quo (a t b : ByteArray) : unq (a ++ quo t ++ b) (a.size : Int) = (t, ((a.size + (quo t).size : Nat) : Int), 0) := by
  have hm := has_mid a (quo t) b
  have hsz : (a ++ quo t ++ b).size = a.size + (quo t).size + b.size := by rw [ByteArray.size_append, ByteArray.size_append]
  have hqs := quo_size t
  have hx := has_extract hm (by rw [list_size]; omega)
  rw [list_size] at hx
  rw [quo_list] at hm
  generalize a ++ quo t ++ b = s at *
  have h0 := hm.at0
  have hr := Has.cut (a.size + 1) (Nat.le_refl _) hm.tail
  rw [Nat.sub_self] at hr
  have hc := rnd t (s.extract (a.size + 1) s.size) t.size 0 0 0 (by omega) (Nat.zero_le _) hr (Nat.le_refl _)
  rw [List.take_zero, Nat.zero_add] at hc
  unfold unq
  rw [Int.toNat_natCast, hc, if_neg (by omega), if_neg (by rw [h0.2]; intro hh; rcases hh with hh | hh; omega; exact hh rfl), if_neg (by simp), show a.size + 1 + ((qs t 0).length + 1) = a.size + (quo t).size by omega, hx, if_neg (by intro hh; exact hh rfl)]
end Tx
end Go.Proofs.YtneifdbcjicfgaaDoor

/-
  TextLong: texts of letters, and with one stray byte.
-/
namespace Go.Proofs.YtneifdbcjicfgaaDoor
open Go Go.RowKit Go.Lib
namespace Tx

/-- letters, but for one place, where a stray byte may stand -/
def Lt (s : ByteArray) (k : Nat) : Prop := ∀ i, i < s.size → (97 ≤ at' s i ∧ at' s i ≤ 122) ∨ (i = k ∧ at' s i = 255)
theorem lt_dec {s : ByteArray} {k : Nat} (h : Lt s k) (p : Nat) (hp : p < s.size) : (Utf8.decode s p).2 = 1 := by
  rcases h p hp with ⟨h1, h2⟩ | ⟨_, h1⟩
  · rw [dec_asc s p (by omega)]
  · rw [decode_eq]
    unfold rd
    simp [h1]
theorem lt_stray {s : ByteArray} {k : Nat} (h : Lt s k) (p : Nat) (hp : p < s.size) : stray s p = decide (at' s p = 255) := by
  unfold stray
  rw [lt_dec h p hp]
  rcases h p hp with ⟨h1, h2⟩ | ⟨_, h1⟩
  · rw [decide_eq_false (show ¬ 128 ≤ at' s p by omega), decide_eq_false (show ¬ at' s p = 255 by omega)]
    rfl
  · rw [h1]
    rfl
theorem lt_vld {s : ByteArray} {k : Nat} (h : Lt s k) (hn : ∀ i, i < s.size → at' s i ≠ 255) : ∀ (m p : Nat), s.size - p ≤ m → vld s p = -1
  | m, p, hm => by
    by_cases hp : p < s.size
    · cases m with
      | zero => omega
      | succ m =>
        rw [vld_step s p hp (by rw [lt_stray h p hp]; exact decide_eq_false (hn p hp)), lt_dec h p hp]
        exact lt_vld h hn m (p + 1) (by omega)
    · exact vld_end s p hp
theorem lt_vldk {s : ByteArray} {k : Nat} (h : Lt s k) (hk : k < s.size) (hb : at' s k = 255) : ∀ (m p : Nat), k - p ≤ m → p ≤ k → vld s p = (k : Int)
  | m, p, hm, hp => by
    by_cases e : p = k
    · subst e
      exact vld_hit s p hk (by rw [lt_stray h p hk, hb]; rfl)
    · cases m with
      | zero => omega
      | succ m =>
        have hps : p < s.size := by omega
        have hne : at' s p ≠ 255 := by
          rcases h p hps with ⟨h1, h2⟩ | ⟨h1, _⟩
          · omega
          · exact absurd h1 e
        rw [vld_step s p hps (by rw [lt_stray h p hps]; exact decide_eq_false hne), lt_dec h p hps]
        exact lt_vldk h hk hb m (p + 1) (by omega) (by omega)
theorem lt_offs {s : ByteArray} {k : Nat} (h : Lt s k) : ∀ (m p : Nat), p + m ≤ s.size → offs s m p = p + m
  | 0, p, _ => rfl
  | m + 1, p, hp => by
    rw [offs, if_pos (by omega), lt_dec h p (by omega), lt_offs h m (p + 1) (by omega)]
    omega
theorem wrt_low (c : Nat) (h1 : 97 ≤ c) (h2 : c ≤ 122) : wrt c = ⟨#[UInt8.ofNat c]⟩ := by
  have key : ∀ d : Nat, d < 26 → wrt (97 + d) = ⟨#[UInt8.ofNat (97 + d)]⟩ := by decide +kernel
  have := key (c - 97) (by omega)
  rw [show 97 + (c - 97) = c by omega] at this
  exact this
theorem lt_pc1 {s : ByteArray} {k : Nat} (h : Lt s k) (p : Nat) (hp : p < s.size) (hne : at' s p ≠ 255) : (pcW s p).data.toList = [s.get! p] := by
  have h1 : 97 ≤ at' s p ∧ at' s p ≤ 122 := by
    rcases h p hp with h1 | ⟨_, h1⟩
    · exact h1
    · exact absurd h1 hne
  have e : pcW s p = wrt (at' s p) := by
    unfold pcW
    rw [lt_stray h p hp, decide_eq_false hne, if_neg Bool.false_ne_true, dec_asc s p (by omega)]
  rw [e, wrt_low _ h1.1 h1.2]
  unfold at'
  rw [UInt8.ofNat_toNat]
theorem lt_pc2 {s : ByteArray} {k : Nat} (h : Lt s k) (p : Nat) (hp : p < s.size) (he : at' s p = 255) : (pcW s p).size = 4 := by
  have e : pcW s p = hexB 255 := by
    unfold pcW
    rw [lt_stray h p hp, decide_eq_true he, if_pos rfl, he]
  rw [e]
  rfl
theorem lt_qs {s : ByteArray} {k : Nat} (h : Lt s k) (hn : ∀ i, i < s.size → at' s i ≠ 255) : ∀ (m p : Nat), s.size - p ≤ m → qs s p = s.data.toList.drop p
  | m, p, hm => by
    by_cases hp : p < s.size
    · cases m with
      | zero => omega
      | succ m =>
        have hl : p < s.data.toList.length := by rw [list_size]; exact hp
        rw [qs_in s p hp, lt_dec h p hp, lt_pc1 h p hp (hn p hp), lt_qs h hn m (p + 1) (by omega), List.drop_eq_getElem_cons hl]
        show s.get! p :: _ = _
        congr 1
        have h9 := toList_get s p hp
        rw [ByteArray.toList_eq, List.getElem?_eq_getElem hl] at h9
        exact (Option.some.inj h9).symm
    · rw [qs_out s p hp, List.drop_eq_nil_of_le (by rw [list_size]; omega)]
theorem lt_quo {s : ByteArray} {k : Nat} (h : Lt s k) (hn : ∀ i, i < s.size → at' s i ≠ 255) : quo s = ⟨#[34]⟩ ++ s ++ ⟨#[34]⟩ := by
  apply toList_inj
  rw [ByteArray.toList_eq, ByteArray.toList_eq]
  show (34 :: (qs s 0 ++ [34])) = _
  rw [lt_qs h hn s.size 0 (by omega), List.drop_zero, ByteArray.data_append, ByteArray.data_append, Array.toList_append, Array.toList_append]
  rfl
theorem lt_qlen {s : ByteArray} {k : Nat} (h : Lt s k) (hk : k < s.size) (hb : at' s k = 255) : ∀ (m p : Nat), s.size - p ≤ m → p ≤ s.size → (qs s p).length = (s.size - p) + (if p ≤ k then 3 else 0)
  | m, p, hm, hps => by
    by_cases hp : p < s.size
    · cases m with
      | zero => omega
      | succ m =>
        rw [qs_in s p hp, lt_dec h p hp, List.length_append, lt_qlen h hk hb m (p + 1) (by omega) (by omega)]
        by_cases e : p = k
        · subst e
          rw [list_size, lt_pc2 h p hp hb, if_neg (by omega), if_pos (Nat.le_refl _)]
          omega
        · have hne : at' s p ≠ 255 := by
            rcases h p hp with ⟨h1, h2⟩ | ⟨h1, _⟩
            · omega
            · exact absurd h1 e
          rw [lt_pc1 h p hp hne, List.length_singleton]
          by_cases hlt : p ≤ k
          · rw [if_pos hlt, if_pos (by omega)]
            omega
          · rw [if_neg hlt, if_neg (by omega)]
            omega
    · rw [qs_out s p hp, if_neg (by omega)]
      simp
      omega
/-- the text of n letters -/
def lett (n : Nat) : ByteArray := ⟨((List.range n).map fun i => UInt8.ofNat (97 + i % 26)).toArray⟩
theorem lett_size (n : Nat) : (lett n).size = n := by
  show ((List.range n).map fun i => UInt8.ofNat (97 + i % 26)).toArray.size = n
  simp
theorem lett_at (n i : Nat) (h : i < n) : at' (lett n) i = 97 + i % 26 := by
  rw [at_get _ i (by rw [lett_size]; exact h)]
  have e : (lett n)[i]'(by rw [lett_size]; exact h) = UInt8.ofNat (97 + i % 26) := by
    show (((List.range n).map fun i => UInt8.ofNat (97 + i % 26)).toArray)[i]'_ = _
    simp
  rw [e]
  exact UInt8.toNat_ofNat_of_lt' (show 97 + i % 26 < 256 by omega)
theorem lett_lt (n k : Nat) : Lt (lett n) k := fun i hi => by
  rw [lett_size] at hi
  rw [lett_at n i hi]
  omega
theorem lett_no (n i : Nat) (h : i < (lett n).size) : at' (lett n) i ≠ 255 := by
  rw [lett_size] at h
  rw [lett_at n i h]
  omega
/-- with a stray byte at k -/
def lbad (n k : Nat) : ByteArray := (lett n).extract 0 k ++ ⟨#[255]⟩ ++ (lett n).extract (k + 1) n
theorem lbad_size (n k : Nat) (h : k < n) : (lbad n k).size = n := by
  unfold lbad
  rw [ByteArray.size_append, ByteArray.size_append, size_cut _ _ _ (by rw [lett_size]; omega), size_cut _ _ _ (by rw [lett_size]; omega)]
  have : (⟨#[255]⟩ : ByteArray).size = 1 := rfl
  omega
theorem lbad_at (n k i : Nat) (h : k < n) (hi : i < n) : at' (lbad n k) i = if i = k then 255 else 97 + i % 26 := by
  have hsz := lbad_size n k h
  rw [at_get _ i (by omega)]
  have h1 : ((lett n).extract 0 k).size = k := by rw [size_cut _ _ _ (by rw [lett_size]; omega)]; omega
  have h2 : (⟨#[255]⟩ : ByteArray).size = 1 := rfl
  have h3 : ((lett n).extract 0 k ++ ⟨#[255]⟩).size = k + 1 := by rw [ByteArray.size_append]; omega
  unfold lbad
  by_cases e : i = k
  · subst e
    rw [if_pos rfl, ByteArray.getElem_append_left (by omega), ByteArray.getElem_append_right (by omega)]
    simp only [h1, Nat.sub_self]
    rfl
  · rw [if_neg e]
    by_cases hlt : i < k
    · rw [ByteArray.getElem_append_left (by omega), ByteArray.getElem_append_left (by omega), ← at_get _ i (by omega), at_cut _ 0 k i (by rw [lett_size]; omega) (by omega), Nat.zero_add, lett_at n i hi]
    · rw [ByteArray.getElem_append_right (by omega), ← at_get _ _ (by rw [size_cut _ _ _ (by rw [lett_size]; omega)]; omega), at_cut _ (k + 1) n _ (by rw [lett_size]; omega) (by omega), h3, show k + 1 + (i - (k + 1)) = i by omega, lett_at n i hi]
theorem lbad_lt (n k : Nat) (h : k < n) : Lt (lbad n k) k := fun i hi => by
  rw [lbad_size n k h] at hi
  rw [lbad_at n k i h hi]
  split
  · exact .inr ⟨by assumption, rfl⟩
  · exact .inl (by omega)
/-- all that TextLong asks of the two texts -/
theorem long_facts (n k m : Nat) (hk : k < n) (hm : m ≤ n) :
    vld (lett n) 0 = -1 ∧ vld (lbad n k) 0 = (k : Int) ∧ clip (lett n) (m : Int) = (lett n).extract 0 m ∧ clip (lett n) (n : Int) = lett n ∧ clip (lbad n k) (n : Int) = lbad n k ∧
    quo (lett n) = ⟨#[34]⟩ ++ lett n ++ ⟨#[34]⟩ ∧ (quo (lett n)).size = n + 2 ∧ (quo (lbad n k)).size = n + 5 := by
  have hb := lbad_lt n k hk
  have hbs := lbad_size n k hk
  have hbk : at' (lbad n k) k = 255 := by rw [lbad_at n k k hk hk, if_pos rfl]
  have hq := lt_quo (lett_lt n 0) (lett_no n)
  refine ⟨lt_vld (lett_lt n 0) (lett_no n) n 0 (by rw [lett_size]; omega), lt_vldk hb (by omega) hbk k 0 (by omega) (Nat.zero_le _), ?_, ?_, ?_, hq, ?_, ?_⟩
  · unfold clip
    rw [Int.toNat_natCast, lt_offs (lett_lt n 0) m 0 (by rw [lett_size]; omega), Nat.zero_add]
  · unfold clip
    rw [Int.toNat_natCast, offs_far _ _ 0 (Nat.zero_le _) (by rw [lett_size]; omega), ByteArray.extract_zero_size]
  · unfold clip
    rw [Int.toNat_natCast, offs_far _ _ 0 (Nat.zero_le _) (by rw [hbs]; omega), ByteArray.extract_zero_size]
  · rw [hq, ByteArray.size_append, ByteArray.size_append, lett_size]
    have : (⟨#[34]⟩ : ByteArray).size = 1 := rfl
    omega
  · rw [← list_size]
    show (34 :: (qs (lbad n k) 0 ++ [34])).length = _
    rw [List.length_cons, List.length_append, lt_qlen hb (by omega) hbk n 0 (by omega) (Nat.zero_le _), if_pos (Nat.zero_le _), hbs]
    simp
end Tx
end Go.Proofs.YtneifdbcjicfgaaDoor

/-
  TextLong: letters.
-/
namespace Go.Proofs.YtneifdbcjicfgaaDoor
open Go Go.RowKit Go.Lib
open Tx

def Tx.lls (n : Nat) : List UInt8 := (List.range n).map fun i => UInt8.ofNat (97 + i % 26)
theorem lls_len (n : Nat) : (lls n).length = n := by simp [lls]
theorem lls_succ (n : Nat) : lls (n + 1) = lls n ++ [UInt8.ofNat (97 + n % 26)] := by simp [lls, List.range_succ]
def Tx.abc : ByteArray := ⟨#[97, 98, 99, 100, 101, 102, 103, 104, 105, 106, 107, 108, 109, 110, 111, 112, 113, 114, 115, 116, 117, 118, 119, 120, 121, 122]⟩
theorem abc_get : ∀ j, j < 26 → abc.get! j = UInt8.ofNat (97 + j) := by decide +kernel
theorem abc_at (j : Nat) (h : j < 26) : abc[j]'h = UInt8.ofNat (97 + j) := by
  have e := at_get abc j h
  unfold at' at e
  rw [abc_get j h] at e
  exact (UInt8.toNat_inj.1 e).symm
set_option maxRecDepth 100000 in
set_option maxHeartbeats 4000000 in
theorem letters_any (n : Nat) (w : World) (h0 : 0 < n) (hn : n ≤ 1048576) :
    Calls Tryd.prog 19 #[.int .i64 (n : Int)] w fun e w' => e = .returned (.string (lett n)) ∧ Below w.heap.size w w' := by
  have hin := info5q
  have HR0 : Hid (Ro w.heap.size w (.slice none 0 0) []) := World.ownsRow_nil _ _ _ _
  go_enter Tryd.func19, Tryd.ntmps19
  go_wp2
  go_loopw [3, 4] (fun o j wr => ∃ (k : Nat), k ≤ n ∧ j = .int .i64 (k : Int) ∧ Ro w.heap.size wr o (lls k) ∧ Below w.heap.size w wr) (fun _ j _ => n - (intOf j).toNat)
  case atStart => exact ⟨0, Nat.zero_le _, rfl, HR0.out, Below.refl _ _⟩
  case round =>
    obtain ⟨k, hk, rfl, hro, hbel⟩ := hrel
    have hll := lls_len k
    obtain ⟨ao, cap, rfl⟩ := hro.shape
    rw [hll] at hro ⊢
    by_cases hlt : k < n
    · have HR5 : Hid (∀ o, Ro w.heap.size (wr.alloc o) (.slice ao k cap) (lls k)) := fun o => hro.kept (up0 _ _)
      have HB5 : Hid (∀ o, Below w.heap.size w (wr.alloc o)) := fun o => up hbel o
      have hs5 := hbel.size
      have HG : Hid (abc[k % 26]'(Nat.mod_lt _ (by decide)) = UInt8.ofNat (97 + k % 26)) := abc_at (k % 26) (Nat.mod_lt _ (by decide))
      clear hro hbel HR0

      go_wp2_with (at_builtin; refine wpList_app_one _ rfl (.tmp 10) (.tmp 14) 72 rfl w.heap.size hin Tryd.underlying72 _ (lls k) rfl (HR5.out _) _ (abc[k % 26]'(Nat.mod_lt _ (by decide))) rfl (World.cell?_alloc_new wr _ _ 0) (by omega) (by simp; omega) ?_)
      intro v6 w6 hr6 hg6
      have HR6 : Hid (Ro w.heap.size w6 v6 (lls (k + 1))) := by show Ro _ _ _ _; rw [lls_succ, ← HG.out]; exact hr6
      have HB6 : Hid (Below w.heap.size w w6) := (HR5.out _).below (HB5.out _) hg6
      clear hr6 hg6 HR5 HB5
      go_wp2
      go_roundw
      case rel => exact ⟨k + 1, by omega, by go_num, HR6.out, HB6.out⟩
      case measure => simp [intOf]; omega
    · obtain rfl : k = n := by omega
      have hcv := hro.str (by omega)
      have HFF : Hid (lett k = ⟨(lls k).toArray⟩) := rfl
      rw [← HFF.out] at hcv
      have HB6 : Hid (Below w.heap.size w wr) := hbel
      clear hro hbel HR0
      go_wp2
      go_ret
      exact ⟨rfl, HB6.out⟩
end Go.Proofs.YtneifdbcjicfgaaDoor
