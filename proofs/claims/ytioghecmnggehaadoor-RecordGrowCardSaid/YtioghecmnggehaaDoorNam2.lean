/-
  Package text: Name; the reference's Name.
-/
import Derived.Test.YtioghecmnggehaaDoorNamE
import Derived.Test.YtioghecmnggehaaDoorItr
namespace Go.Proofs.YtioghecmnggehaaDoor.Text
open Go Go.RowKit
open Tx

set_option maxRecDepth 100000 in
set_option maxHeartbeats 2000000 in
theorem name_any (s : ByteArray) (w : World) (hs : s.size ≤ 140737488355000) (hT : TabP 1 .i32 lets w) :
    Calls Tryd.prog 45 #[.string s] w fun e w' => e = .returned (.tuple #[.int .i64 (nmA s).1, .int .i64 (nmA s).2]) ∧ Below w.heap.size w w' := by
  have HT : Hid (∀ w', Below w.heap.size w w' → TabP 1 .i32 lets w') := fun w' hb => hT.kept hb
  clear hT
  by_cases h0 : s.size = 0
  · have e0 : s = ⟨#[]⟩ := by
      apply ByteArray.ext
      exact Array.eq_empty_of_size_eq_zero h0
    subst e0
    have HE : Hid (nmA ⟨#[]⟩ = (20, 0)) := by show _ = _; unfold nmA; rw [if_pos h0]
    rw [HE.out]
    go_enter Tryd.func45, Tryd.ntmps45
    go_wp2
    go_ret2
    exact ⟨rfl, Below.refl _ _⟩
  · obtain ⟨A, hA⟩ : ∃ A, nmA s = A := ⟨_, rfl⟩
    have HA : Hid (nmE s 0 0 = A) := by show _ = _; rw [← hA]; unfold nmA; rw [if_neg h0]
    rw [hA]
    clear hA
    have hne : (s.toList == []) = false := by
      have := toList_len s
      cases hl : s.toList with
      | nil => rw [hl] at this; simp at this; omega
      | cons a b => rfl
    have HI : Hid ((w.iter s 0).heap[w.heap.size]? = some (.stringIter s 0)) := World.iter_heap w s 0
    have HB : Hid (Below w.heap.size w (w.iter s 0)) := up_iter w s 0
    go_enter Tryd.func45, Tryd.ntmps45
    go_wp2
    go_loopw [4] (fun c wr => ∃ (n p : Nat), c = .int .i64 (n : Int) ∧ n ≤ 48 ∧ p ≤ s.size ∧ nmE s n p = A ∧ wr.heap[w.heap.size]? = some (.stringIter s p) ∧ Below w.heap.size w wr) (fun _ wr => s.size - wr.iterPos w.heap.size)
    case atStart => exact ⟨0, 0, rfl, by omega, Nat.zero_le _, HA.out, HI.out, HB.out⟩
    case round =>
      obtain ⟨n, p, rfl, hn, hp, ha, hit, hbel⟩ := hrel
      have HAA : Hid (nmE s n p = A) := ha
      have HIT : Hid (wr.heap[w.heap.size]? = some (.stringIter s p)) := hit
      have HPOS : Hid (wr.iterPos w.heap.size = p) := iter_pos hit
      clear ha HA HI HB
      by_cases hlt : p < s.size
      · have hd := decode_fits s p hlt
        have hnx : ∀ ty, (Instr.next (.pointer (some ⟨w.heap.size, 0, none⟩)) true ty).run Tryd.prog wr = _ := fun ty => run_next_at wr w.heap.size s p ty hit hlt
        have HI2 : Hid ((setIter wr w.heap.size s (p + (Utf8.decode s p).2)).heap[w.heap.size]? = some (.stringIter s (p + (Utf8.decode s p).2))) := iter_at wr w.heap.size s _ _ hit
        have hB2 : Below w.heap.size w (setIter wr w.heap.size s (p + (Utf8.decode s p).2)) := below_iter hbel _ (Nat.le_refl _) s _
        clear hbel hit
        generalize setIter wr w.heap.size s (p + (Utf8.decode s p).2) = w2 at *
        by_cases h48 : n = 48
        · subst h48
          have HF : Hid (A = (23, (p : Int))) := by show _ = _; rw [← HAA.out, nmE_long s 48 p hlt (by omega)]
          go_wp2
          go_ret2
          rw [HF.out]
          exact ⟨rfl, hB2⟩
        · have hn48 : ¬ 48 ≤ n := by omega
          have HO : Hid (∀ w', Calls Tryd.prog 51 #[.string s, .int .i64 (p : Int), .int .i32 ((Utf8.decode s p).1 : Int)] w' fun e w'' => e = .returned (.int .i64 (if stray s p then 21 else 22)) ∧ w'' = w') := fun w' => odd_any s p w' hlt
          have HBAD : Hid ((p = 0 ∧ among lets ((Utf8.decode s p).1 : Int) = false) ∨ nmR ((Utf8.decode s p).1 : Int) = false → A = ((if stray s p then 21 else 22), (p : Int))) := fun hb => by
            cases hst : stray s p with
            | true => rw [← HAA.out, nmE_stray s n p hlt hn48 hst]; rfl
            | false => rw [← HAA.out, nmE_bad s n p hlt hn48 hst hb]; rfl
          have HGOOD : Hid (¬ ((p = 0 ∧ among lets ((Utf8.decode s p).1 : Int) = false) ∨ nmR ((Utf8.decode s p).1 : Int) = false) → nmE s (n + 1) (p + (Utf8.decode s p).2) = A) := fun hb => by
            cases hst : stray s p with
            | true =>
              exfalso
              apply hb
              right
              rw [stray_rune s p hst]
              exact nmR_no
            | false => rw [← HAA.out, nmE_step s n p hlt hn48 hst hb]
          have hr1 := decode_le s p
          generalize (if stray s p then (21 : Int) else 22) = er at *
          obtain ⟨r, hr⟩ : ∃ r : Nat, (Utf8.decode s p).1 = r := ⟨_, rfl⟩
          rw [hr] at hnx HO HBAD HGOOD hr1
          clear hr HAA
          cases hnm : nmR (r : Int) with
          | false =>
            have HF : Hid (A = (er, (p : Int))) := HBAD.out (.inr hnm)
            have HNM : Hid (nmR (r : Int) = false) := hnm
            clear HBAD HGOOD hnm
            go_wp2_with fail
            refine (namer_any _ _ (HT.out _ hB2)).mono ?_
            rw [HNM.out]
            rintro e w3 ⟨rfl, b3⟩
            have hB3 := andThen hB2 b3
            clear b3
            go_wp2_with fail
            refine (HO.out _).mono ?_
            rintro e w4 ⟨rfl, rfl⟩
            go_wp2
            go_ret2
            rw [HF.out]
            exact ⟨rfl, hB3⟩
          | true =>
            have HNM : Hid (nmR (r : Int) = true) := hnm
            by_cases hp0 : p = 0
            · cases hal : among lets (r : Int) with
              | false =>
                have HF : Hid (A = (er, 0)) := by
                  have := HBAD.out (.inl ⟨hp0, hal⟩)
                  rw [hp0] at this
                  exact this
                have HO0 : Hid (∀ w', Calls Tryd.prog 51 #[.string s, .int .i64 0, .int .i32 (r : Int)] w' fun e w'' => e = .returned (.int .i64 er) ∧ w'' = w') := by
                  have := HO.out
                  rw [hp0] at this
                  exact this
                have HAL : Hid (among lets (r : Int) = false) := hal
                clear HBAD HGOOD hnm hal
                go_wp2_with fail
                refine (namer_any _ _ (HT.out _ hB2)).mono ?_
                rw [HNM.out]
                rintro e w3 ⟨rfl, b3⟩
                have hB3 := andThen hB2 b3
                clear b3
                go_wp2_with fail
                refine (letter_any _ _ (HT.out _ hB3)).mono ?_
                rw [HAL.out]
                rintro e w4 ⟨rfl, b4⟩
                have hB4 := andThen hB3 b4
                clear b4
                go_wp2_with fail
                refine (HO0.out _).mono ?_
                rintro e w5 ⟨rfl, rfl⟩
                go_wp2
                go_ret2
                rw [HF.out]
                exact ⟨rfl, hB4⟩
              | true =>
                have HF : Hid (nmE s (n + 1) (p + (Utf8.decode s p).2) = A) := HGOOD.out (by simp [hnm, hal])
                have HAL : Hid (among lets (r : Int) = true) := hal
                clear HBAD HGOOD hnm hal
                go_wp2_with fail
                refine (namer_any _ _ (HT.out _ hB2)).mono ?_
                rw [HNM.out]
                rintro e w3 ⟨rfl, b3⟩
                have hB3 := andThen hB2 b3
                have HI3 : Hid (w3.heap[w.heap.size]? = some (.stringIter s (p + (Utf8.decode s p).2))) := (b3.block w.heap.size (Array.getElem?_eq_some_iff.1 HI2.out).1).trans HI2.out
                clear b3
                go_wp2_with fail
                refine (letter_any _ _ (HT.out _ hB3)).mono ?_
                rw [HAL.out]
                rintro e w4 ⟨rfl, b4⟩
                have hB4 := andThen hB3 b4
                have HI4 : Hid (w4.heap[w.heap.size]? = some (.stringIter s (p + (Utf8.decode s p).2))) := (b4.block w.heap.size (Array.getElem?_eq_some_iff.1 HI3.out).1).trans HI3.out
                have HPS : Hid (w4.iterPos w.heap.size = p + (Utf8.decode s p).2) := iter_pos HI4.out
                clear b4
                go_wp2
                go_roundw
                case rel => exact ⟨n + 1, _, by go_num, by omega, hd.2.1, HF.out, HI4.out, hB4⟩
                case measure => rw [HPS.out, HPOS.out]; omega
            · have HF : Hid (nmE s (n + 1) (p + (Utf8.decode s p).2) = A) := HGOOD.out (by simp [hnm, hp0])
              clear HBAD HGOOD hnm
              go_wp2_with fail
              refine (namer_any _ _ (HT.out _ hB2)).mono ?_
              rw [HNM.out]
              rintro e w3 ⟨rfl, b3⟩
              have hB3 := andThen hB2 b3
              have HI3 : Hid (w3.heap[w.heap.size]? = some (.stringIter s (p + (Utf8.decode s p).2))) := (b3.block w.heap.size (Array.getElem?_eq_some_iff.1 HI2.out).1).trans HI2.out
              have HPS : Hid (w3.iterPos w.heap.size = p + (Utf8.decode s p).2) := iter_pos HI3.out
              clear b3
              go_wp2
              go_roundw
              case rel => exact ⟨n + 1, _, by go_num, by omega, hd.2.1, HF.out, HI3.out, hB3⟩
              case measure => rw [HPS.out, HPOS.out]; omega
      · have hnx : ∀ ty, (Instr.next (.pointer (some ⟨w.heap.size, 0, none⟩)) true ty).run Tryd.prog wr = _ := fun ty => run_next_over wr w.heap.size s p ty hit hlt
        have HF : Hid (A = (0, 0)) := by show _ = _; rw [← HAA.out, nmE_out s n p hlt]
        clear hit
        go_wp2
        go_ret2
        rw [HF.out]
        exact ⟨rfl, hbel⟩
end Go.Proofs.YtioghecmnggehaaDoor.Text
