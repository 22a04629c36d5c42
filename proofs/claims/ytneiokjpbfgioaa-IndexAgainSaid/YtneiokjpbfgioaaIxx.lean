/-
  annalsref5: Decode, the walk.
-/
import Derived.Test.YtneiokjpbfgioaaIxw
namespace Go.Proofs.Ytneiokjpbfgioaa
open Go Go.RowKit Go.ChangeShapes
open Wb

set_option maxRecDepth 100000 in
set_option maxHeartbeats 8000000 in
theorem rixdec_any (bv : Value) (l : List Nat) (w : World) (hb : Bs w bv l) (hl : l.length ≤ 10000000) :
    Calls Try.prog 22 #[bv] w fun e w' => RdPost l w e w' := by
  have hin := infoP
  have HNM : Hid (∀ (ps : List (Int × Int)) (q : Nat) (o : Value) (W : World), q ≤ l.length → RD w bv ps q 0 o W → Calls Try.prog 34 #[.pointer (some ⟨w.heap.size, 0, none⟩)] W fun e W' => e = .returned (.int .u64 ((Ix.rnm l q).1 : Int)) ∧ RD w bv ps (Ix.rnm l q).2.1 (Ix.rnm l q).2.2 o W') := fun ps q o W hq h => rixnum_rd w bv l ps q o W hb (by omega) hq h
  have HLT : Hid (∀ q, q ≤ l.length → (Ix.nm l q).1 < 18446744073709551616) := fun q hq => Ix.nm_lt l hb.good q hq
  obtain ⟨ao, cap, rfl, -⟩ := hb.shape
  have HW0 : Hid (∀ W, W = w.alloc (.cells #[.slice ao l.length cap, .int .i64 0, .int .i64 0] 82) → RD w (.slice ao l.length cap) [] 0 0 (.slice none 0 0) W) := fun W e => by
    subst e
    exact ⟨⟨lb_new w [.slice ao l.length cap, .int .i64 0, .int .i64 0] 82, up0 _ _, Nat.le_refl _⟩, World.ownsRow_nil _ _ _ _⟩
  obtain ⟨A, hA⟩ : ∃ A, Ix.decodeP l = A := ⟨_, rfl⟩
  unfold RdPost
  rw [hA]
  unfold Ix.decodeP at hA
  have HL : Hid (l.length ≤ 10000000) := hl
  clear hb
  go_enter Try.func22, Try.ntmps22
  go_upto_region 2 with fail
  obtain ⟨W0, hW0⟩ : ∃ W0, W0 = w.alloc (.cells #[.slice ao l.length cap, .int .i64 0, .int .i64 0] 82) := ⟨_, rfl⟩
  have HR0 : Hid (RD w (.slice ao l.length cap) [] 0 0 (.slice none 0 0) W0) := HW0.out _ hW0
  rw [← hW0]
  clear hW0 HW0
  have HN0 : Hid (Calls Try.prog 34 #[.pointer (some ⟨w.heap.size, 0, none⟩)] W0 fun e W' => e = .returned (.int .u64 ((Ix.rnm l 0).1 : Int)) ∧ RD w (.slice ao l.length cap) [] (Ix.rnm l 0).2.1 (Ix.rnm l 0).2.2 (.slice none 0 0) W') := HNM.out [] 0 _ W0 (Nat.zero_le _) HR0.out
  have HO : Hid (∃ cnt q0 er, Ix.rnm l 0 = (cnt, q0, er) ∧ cnt < 18446744073709551616 ∧ ∀ W', RD w (.slice ao l.length cap) [] q0 er (.slice none 0 0) W' → OuS w (.slice ao l.length cap) l cnt A (.int .i64 0) (.slice none 0 0) (.int .u64 0) W') := by
    rcases Ix.rnm_cases l 0 (Nat.zero_le _) with ⟨er, h0, e1, e2⟩ | ⟨v, q', h1, h2, e1, e2⟩
    · refine ⟨0, 0, er, e2, by omega, fun W' hW => ⟨0, rfl, Nat.le_refl _, .inr ⟨er, _, _, 0, h0, ?_, rfl, hW⟩⟩⟩
      rw [e1] at hA
      rw [← hA, if_pos h0]
    · refine ⟨v, q', 0, e2, by have := HLT.out 0 (Nat.zero_le _); rw [e1] at this; exact this, fun W' hW => ⟨0, rfl, Nat.zero_le _, .inl ⟨q', 0, [], rfl, ?_, hW, by omega, h2, Nat.zero_le _⟩⟩⟩
      rw [e1] at hA
      rw [← hA, if_neg (by simp)]
      rfl
  obtain ⟨cnt, q0, er0, hrn, hcl, HO⟩ := HO.out
  have HO9 : Hid (∀ W', RD w (.slice ao l.length cap) [] q0 er0 (.slice none 0 0) W' → OuS w (.slice ao l.length cap) l cnt A (.int .i64 0) (.slice none 0 0) (.int .u64 0) W') := HO
  rw [hrn] at HN0
  simp only at HN0
  clear hrn HO hA HR0 hl
  go_wp2_with fail
  refine HN0.out.mono ?_
  rintro e W1 ⟨rfl, r1⟩
  have HR1 : Hid (OuS w (.slice ao l.length cap) l cnt A (.int .i64 0) (.slice none 0 0) (.int .u64 0) W1) := HO9.out W1 r1
  clear r1 HN0 HO9
  go_wp2_with fail
  go_loopw [6, 7, 8] (fun kv o iv wr => OuS w (.slice ao l.length cap) l cnt A kv o iv wr) (fun _ _ iv _ => cnt - (intOf iv).toNat)
  case atStart => exact HR1.out
  case round =>
    clear HR1
    obtain ⟨i, rfl, hi, hrel⟩ := hrel
    rcases hrel with ⟨q, key, kvs, rfl, hA, hR, hkl, hq, hps⟩ | ⟨er, q, ps, key, h0, hA, rfl, hR⟩
    · have x2 : wr.cell? ⟨w.heap.size, 2, none⟩ = some (.int .i64 0) := hR.rj.box.cell 2 _ rfl
      by_cases hlt : i < cnt
      · have HR : Hid (RD w (.slice ao l.length cap) (prs kvs) q 0 u7 wr) := hR
        rw [show cnt - i = (cnt - (i + 1)) + 1 by omega, Ix.decP] at hA
        have hw5 : IntKind.u64.wrap ((i : Int) + 1) = (i : Int) + 1 := IntWalk.u64_in _ (by omega)
        have HN1 : Hid (Calls Try.prog 34 #[.pointer (some ⟨w.heap.size, 0, none⟩)] wr fun e W' => e = .returned (.int .u64 ((Ix.rnm l q).1 : Int)) ∧ RD w (.slice ao l.length cap) (prs kvs) (Ix.rnm l q).2.1 (Ix.rnm l q).2.2 u7 W') := HNM.out _ q _ wr hq hR
        clear hR
        rcases Ix.rnm_cases l q hq with ⟨er, h0, e1, e2⟩ | ⟨v, q', h1, h2, e1, e2⟩
        · rw [e2] at HN1
          simp only at HN1
          have HA : Hid (er ≠ 0 ∧ A = (er, [])) := by
            have ek : (Ix.keyP l q key).2.2 = er := by
              unfold Ix.keyP
              rw [e1, if_pos h0]
            rw [ek, if_pos h0] at hA
            exact ⟨h0, hA.symm⟩
          have hd : ((er : Int) == 0) = false := by simp; exact h0
          clear e1 e2 hA h0 HNM HLT
          go_wp2_with fail
          refine HN1.out.mono ?_
          rintro e W2 ⟨rfl, r2⟩
          have HRE : Hid (RD w (.slice ao l.length cap) (prs kvs) 0 er u7 W2) := r2
          have HC1 : Hid (Calls Try.prog 35 #[.pointer (some ⟨w.heap.size, 0, none⟩), .int .i64 (key : Int), .int .u64 ((0 : Nat) : Int), .int .i64 50] W2 fun e W' => e = .returned (.int .i64 0) ∧ W' = W2) := rixabove_bad w _ _ _ _ _ _ _ W2 r2.rj HA.out.1
          have HC2 : Hid (Calls Try.prog 34 #[.pointer (some ⟨w.heap.size, 0, none⟩)] W2 fun e W' => e = .returned (.int .u64 0) ∧ W' = W2) := rixnum_bad w _ _ _ _ W2 r2.rj HA.out.1
          have y2 := r2.rj.box.cell 2 _ rfl
          clear r2 HN1
          go_wp2_with fail
          refine HC1.out.mono ?_
          rintro e W2 ⟨rfl, rfl⟩
          go_wp2_with fail
          refine HC2.out.mono ?_
          rintro e W2 ⟨rfl, rfl⟩
          go_wp2_with fail
          go_loopw [7, 10, 11] (fun o9 _ kv9 w9 => o9 = u7 ∧ kv9 = .int .u64 0 ∧ w9 = W2) (fun _ _ _ _ => 0)
          case atStart => exact ⟨rfl, rfl, rfl⟩
          case round =>
            obtain ⟨rfl, rfl, rfl⟩ := hrel
            go_wp2_with fail
            go_roundw
            case rel => exact ⟨i + 1, by go_num, by omega, .inr ⟨_, _, _, 0, HA.out.1, HA.out.2, rfl, HRE.out⟩⟩
            case measure => simp [intOf]; omega
        · rw [e2] at HN1
          simp only at HN1
          have hvl : v < 18446744073709551616 := by have := HLT.out q hq; rw [e1] at this; exact this
          by_cases hno : v = 0 ∨ 9223372036854775807 - key < v
          · have HA : Hid (50 ≠ 0 ∧ A = (50, [])) := by
              have ek : (Ix.keyP l q key).2.2 = 50 := by
                unfold Ix.keyP
                rw [e1, if_neg (by simp), if_pos hno]
              rw [ek, if_pos (by decide)] at hA
              exact ⟨by decide, hA.symm⟩
            have HC1 : Hid (∀ W2, RD w (.slice ao l.length cap) (prs kvs) q' 0 u7 W2 → Calls Try.prog 35 #[.pointer (some ⟨w.heap.size, 0, none⟩), .int .i64 (key : Int), .int .u64 (v : Int), .int .i64 50] W2 fun e W' => e = .returned (.int .i64 0) ∧ RD w (.slice ao l.length cap) (prs kvs) q' 50 u7 W') := fun W2 r2 => (rixabove_no w _ _ _ key v 50 W2 r2.rj hkl hvl hno).mono fun _ _ ⟨e1, e2, e3⟩ => ⟨e1, r2.on e2 e3⟩
            clear e1 e2 hA HNM HLT hno hvl
            go_wp2_with fail
            refine HN1.out.mono ?_
            rintro e W2 ⟨rfl, r2⟩
            have HC2 : Hid (Calls Try.prog 35 #[.pointer (some ⟨w.heap.size, 0, none⟩), .int .i64 (key : Int), .int .u64 (v : Int), .int .i64 50] W2 fun e W' => e = .returned (.int .i64 0) ∧ RD w (.slice ao l.length cap) (prs kvs) q' 50 u7 W') := HC1.out W2 r2
            clear r2 HN1 HC1
            go_wp2_with fail
            refine HC2.out.mono ?_
            rintro e W3 ⟨rfl, r3⟩
            have HRE : Hid (RD w (.slice ao l.length cap) (prs kvs) q' 50 u7 W3) := r3
            have HC3 : Hid (Calls Try.prog 34 #[.pointer (some ⟨w.heap.size, 0, none⟩)] W3 fun e W' => e = .returned (.int .u64 0) ∧ W' = W3) := rixnum_bad w _ _ _ _ W3 r3.rj (by decide)
            have y2 : W3.cell? ⟨w.heap.size, 2, none⟩ = some (.int .i64 50) := r3.rj.box.cell 2 _ rfl
            clear r3 HC2
            go_wp2_with fail
            refine HC3.out.mono ?_
            rintro e W3 ⟨rfl, rfl⟩
            go_wp2_with fail
            go_loopw [7, 10, 11] (fun o9 _ kv9 w9 => o9 = u7 ∧ kv9 = .int .u64 0 ∧ w9 = W3) (fun _ _ _ _ => 0)
            case atStart => exact ⟨rfl, rfl, rfl⟩
            case round =>
              obtain ⟨rfl, rfl, rfl⟩ := hrel
              go_wp2_with fail
              go_roundw
              case rel => exact ⟨i + 1, by go_num, by omega, .inr ⟨_, _, _, 0, HA.out.1, HA.out.2, rfl, HRE.out⟩⟩
              case measure => simp [intOf]; omega
          · have hv0 : v ≠ 0 := fun e => hno (.inl e)
            have hvm : key + v ≤ 9223372036854775807 := by
              have : ¬ 9223372036854775807 - key < v := fun e => hno (.inr e)
              omega
            have ek : Ix.keyP l q key = (key + v, q', 0) := by
              unfold Ix.keyP
              rw [e1, if_neg (by simp), if_neg hno]
            rw [ek] at hA
            simp only [ne_eq, not_true_eq_false, if_false] at hA
            have HC1 : Hid (∀ W2, RD w (.slice ao l.length cap) (prs kvs) q' 0 u7 W2 → Calls Try.prog 35 #[.pointer (some ⟨w.heap.size, 0, none⟩), .int .i64 (key : Int), .int .u64 (v : Int), .int .i64 50] W2 fun e W' => e = .returned (.int .i64 ((key + v : Nat) : Int)) ∧ W' = W2) := fun W2 r2 => rixabove_yes w _ _ _ key v 50 W2 r2.rj hv0 hvm
            obtain ⟨key2, hk2⟩ : ∃ x, x = key + v := ⟨_, rfl⟩
            rw [← hk2] at hA HC1 hvm
            have HK2 : Hid (key2 ≤ 9223372036854775807 ∧ (prs kvs).length ≤ q' ∧ q' ≤ l.length) := ⟨hvm, by omega, h2⟩
            have HM1 : Hid (∀ W2, RD w (.slice ao l.length cap) (prs kvs) q' 0 u7 W2 → Calls Try.prog 34 #[.pointer (some ⟨w.heap.size, 0, none⟩)] W2 fun e W' => e = .returned (.int .u64 ((Ix.rnm l q').1 : Int)) ∧ RD w (.slice ao l.length cap) (prs kvs) (Ix.rnm l q').2.1 (Ix.rnm l q').2.2 u7 W') := fun W2 r2 => HNM.out _ q' _ W2 h2 r2
            clear e1 e2 ek hno hv0 hvl hk2 hvm hq hps h1
            rcases Ix.rnm_cases l q' h2 with ⟨er, h0, e1, e2⟩ | ⟨m, q2, h3, h4, e1, e2⟩
            · rw [e2] at HM1
              simp only at HM1
              have HA : Hid (er ≠ 0 ∧ A = (er, [])) := by
                have ek : (Ix.offsP l q').1 = er := by
                  unfold Ix.offsP
                  rw [e1, if_pos h0]
                rw [ek, if_pos h0] at hA
                exact ⟨h0, hA.symm⟩
              have hd : ((er : Int) == 0) = false := by simp; exact h0
              clear e1 e2 hA h0 HNM HLT
              go_wp2_with fail
              refine HN1.out.mono ?_
              rintro e W2 ⟨rfl, r2⟩
              have HC2 : Hid (Calls Try.prog 35 #[.pointer (some ⟨w.heap.size, 0, none⟩), .int .i64 (key : Int), .int .u64 (v : Int), .int .i64 50] W2 fun e W' => e = .returned (.int .i64 (key2 : Int)) ∧ W' = W2) := HC1.out W2 r2
              have HM2 := HM1.out W2 r2
              have HM3 : Hid (Calls Try.prog 34 #[.pointer (some ⟨w.heap.size, 0, none⟩)] W2 _) := HM2
              clear r2 HN1 HC1 HM2 HM1
              go_wp2_with fail
              refine HC2.out.mono ?_
              rintro e W2 ⟨rfl, rfl⟩
              go_wp2_with fail
              refine HM3.out.mono ?_
              rintro e W3 ⟨rfl, r3⟩
              have HRE : Hid (RD w (.slice ao l.length cap) (prs kvs) 0 er u7 W3) := r3
              have y2 := r3.rj.box.cell 2 _ rfl
              clear r3 HM3 HC2
              go_wp2_with fail
              go_loopw [7, 10, 11] (fun o9 _ kv9 w9 => o9 = u7 ∧ kv9 = .int .u64 0 ∧ w9 = W3) (fun _ _ _ _ => 0)
              case atStart => exact ⟨rfl, rfl, rfl⟩
              case round =>
                obtain ⟨rfl, rfl, rfl⟩ := hrel
                go_wp2_with fail
                go_roundw
                case rel => exact ⟨i + 1, by go_num, by omega, .inr ⟨_, _, _, _, HA.out.1, HA.out.2, rfl, HRE.out⟩⟩
                case measure => simp [intOf]; omega
            · rw [e2] at HM1
              simp only at HM1
              have hml : m < 18446744073709551616 := by have := HLT.out q' h2; rw [e1] at this; exact this
              by_cases hm0 : m = 0
              · subst hm0
                have HA : Hid (51 ≠ 0 ∧ A = (51, [])) := by
                  have ek : (Ix.offsP l q').1 = 51 := by
                    unfold Ix.offsP
                    rw [e1, if_neg (by simp), if_pos rfl]
                  rw [ek, if_pos (by decide)] at hA
                  exact ⟨by decide, hA.symm⟩
                clear e1 e2 hA HNM HLT
                go_wp2_with fail
                refine HN1.out.mono ?_
                rintro e W2 ⟨rfl, r2⟩
                have HC2 : Hid (Calls Try.prog 35 #[.pointer (some ⟨w.heap.size, 0, none⟩), .int .i64 (key : Int), .int .u64 (v : Int), .int .i64 50] W2 fun e W' => e = .returned (.int .i64 (key2 : Int)) ∧ W' = W2) := HC1.out W2 r2
                have HM2 := HM1.out W2 r2
                have HM3 : Hid (Calls Try.prog 34 #[.pointer (some ⟨w.heap.size, 0, none⟩)] W2 _) := HM2
                clear r2 HN1 HC1 HM2 HM1
                go_wp2_with fail
                refine HC2.out.mono ?_
                rintro e W2 ⟨rfl, rfl⟩
                go_wp2_with fail
                refine HM3.out.mono ?_
                rintro e W3 ⟨rfl, r3⟩
                have HRE : Hid (RD w (.slice ao l.length cap) (prs kvs) q2 51 u7 (W3.setCell ⟨w.heap.size, 2, none⟩ (.int .i64 51))) := r3.set 51
                have y2 : W3.cell? ⟨w.heap.size, 2, none⟩ = some (.int .i64 0) := r3.rj.box.cell 2 _ rfl
                have f2 := r3.rj.box.free 2
                clear r3 HM3 HC2
                go_wp2_with fail
                go_loopw [7, 10, 11] (fun o9 _ kv9 w9 => o9 = u7 ∧ kv9 = .int .u64 0 ∧ w9 = (W3.setCell ⟨w.heap.size, 2, none⟩ (.int .i64 51))) (fun _ _ _ _ => 0)
                case atStart => exact ⟨rfl, rfl, rfl⟩
                case round =>
                  obtain ⟨rfl, rfl, rfl⟩ := hrel
                  go_wp2_with fail
                  go_roundw
                  case rel => exact ⟨i + 1, by go_num, by omega, .inr ⟨_, _, _, _, HA.out.1, HA.out.2, rfl, HRE.out⟩⟩
                  case measure => simp [intOf]; omega
              · have ek : Ix.offsP l q' = Ix.offP l m true q2 0 [] := by
                  unfold Ix.offsP
                  rw [e1, if_neg (by simp), if_neg hm0]
                rw [ek] at hA
                obtain ⟨B, hB⟩ : ∃ B, Ix.offP l m true q2 0 [] = B := ⟨_, rfl⟩
                rw [hB] at hA
                have HA : Hid ((if B.1 ≠ 0 then (B.1, []) else Ix.decP l (cnt - (i + 1)) B.2.1 key2 (kvs ++ [((key2 : Int), Ix.nums B.2.2)])) = A) := hA
                have HB0 : Hid (Ix.offP l m true q2 0 [] = B) := hB
                have HQ2 : Hid (q2 ≤ l.length ∧ (prs kvs).length ≤ q2) := ⟨h4, by have := HK2.out.2.1; omega⟩
                have hmz : ((m : Int) == 0) = false := by simp; exact hm0
                clear e1 e2 hA hB ek
                go_wp2_with fail
                refine HN1.out.mono ?_
                rintro e W2 ⟨rfl, r2⟩
                have HC2 : Hid (Calls Try.prog 35 #[.pointer (some ⟨w.heap.size, 0, none⟩), .int .i64 (key : Int), .int .u64 (v : Int), .int .i64 50] W2 fun e W' => e = .returned (.int .i64 (key2 : Int)) ∧ W' = W2) := HC1.out W2 r2
                have HM2 := HM1.out W2 r2
                have HM3 : Hid (Calls Try.prog 34 #[.pointer (some ⟨w.heap.size, 0, none⟩)] W2 _) := HM2
                clear r2 HN1 HC1 HM2 HM1
                go_wp2_with fail
                refine HC2.out.mono ?_
                rintro e W2 ⟨rfl, rfl⟩
                go_wp2_with fail
                refine HM3.out.mono ?_
                rintro e W3 ⟨rfl, r3⟩
                have HRE : Hid (RD w (.slice ao l.length cap) (prs kvs) q2 0 u7 W3) := r3
                have y2 : W3.cell? ⟨w.heap.size, 2, none⟩ = some (.int .i64 0) := r3.rj.box.cell 2 _ rfl
                clear r3 HM3 HC2
                go_wp2_with fail
                go_loopw [7, 10, 11] (fun o9 vv9 kv9 w9 => InS w (.slice ao l.length cap) l kvs key2 m B o9 vv9 kv9 w9) (fun _ _ kv9 _ => m - (intOf kv9).toNat)
                case atStart => exact ⟨0, rfl, Nat.zero_le _, .inl ⟨q2, 0, [], rfl, HB0.out, by simpa [Ix.nums] using HRE.out, by omega, HQ2.out.1, by simpa using HQ2.out.2, fun _ => rfl⟩⟩
                case round =>
                  clear HRE HB0 HQ2 y2
                  obtain ⟨k, rfl, hk, hrel⟩ := hrel
                  rcases hrel with ⟨q5, off, acc, rfl, hB, hR, hol, hq5, hps5, hof0⟩ | ⟨er, q5, ps, off, h0, hB, rfl, hR⟩
                  · have z2 : wr.cell? ⟨w.heap.size, 2, none⟩ = some (.int .i64 0) := hR.rj.box.cell 2 _ rfl
                    by_cases hlt5 : k < m
                    · have hw6 : IntKind.u64.wrap ((k : Int) + 1) = (k : Int) + 1 := IntWalk.u64_in _ (by omega)
                      rw [show m - k = (m - (k + 1)) + 1 by omega, Ix.offP] at hB
                      have HLN : Hid ((prs kvs ++ (Ix.nums acc).map fun x => ((key2 : Int), x)).length ≤ 100000000) := by
                        have h9 := HL.out
                        show _ ≤ _
                        rw [List.length_append, List.length_map]
                        unfold Ix.nums
                        rw [List.length_map]
                        omega
                      have HN5 : Hid (Calls Try.prog 34 #[.pointer (some ⟨w.heap.size, 0, none⟩)] wr fun e W' => e = .returned (.int .u64 ((Ix.rnm l q5).1 : Int)) ∧ RD w (.slice ao l.length cap) (prs kvs ++ (Ix.nums acc).map fun x => ((key2 : Int), x)) (Ix.rnm l q5).2.1 (Ix.rnm l q5).2.2 u7 W') := HNM.out _ q5 _ wr hq5 hR
                      obtain ⟨ps5, hps9⟩ : ∃ x, x = prs kvs ++ (Ix.nums acc).map fun x => ((key2 : Int), x) := ⟨_, rfl⟩
                      rw [← hps9] at HLN HN5
                      have HPS : Hid (ps5 = prs kvs ++ (Ix.nums acc).map fun x => ((key2 : Int), x)) := hps9
                      clear hR hps9
                      rcases Ix.rnm_cases l q5 hq5 with ⟨er, h0, e1, e2⟩ | ⟨g, q6, h5, h6, e1, e2⟩
                      · rw [e2] at HN5
                        simp only at HN5
                        rw [e1, if_pos h0] at hB
                        have HB5 : Hid (er ≠ 0 ∧ B.1 = er) := ⟨h0, by rw [← hB]⟩
                        have hd : ((er : Int) == 0) = false := by simp; exact h0
                        clear e1 e2 hB h0 HNM HLT
                        by_cases hk0 : k = 0
                        · subst hk0
                          have hz : IntKind.i64.wrap (bits .and .u64 0 9223372036854775807) = 0 := Ix.most_in 0 (by omega)
                          go_wp2_with fail
                          refine HN5.out.mono ?_
                          rintro e W5 ⟨rfl, r5⟩
                          have HR5 : Hid (RD w (.slice ao l.length cap) ps5 0 er u7 W5) := r5
                          have z5 := r5.rj.box.cell 2 _ rfl
                          clear r5 HN5
                          have HP9 := HR5.out.pair (key2 : Int) 0 _ rfl
                          have HQ9 : Hid ((W5.alloc (.cells #[.int .i64 (key2 : Int), .int .i64 0] 32)).ownsRow (w.heap.size + 1) 32 2 u7 (ps5).length ((ps5).flatMap enP) ∧ (W5.alloc (.cells #[.int .i64 (key2 : Int), .int .i64 0] 32)).rangeAt W5.heap.size 0 (enP ((key2 : Int), 0)) ∧ w.heap.size + 1 ≤ (W5.alloc (.cells #[.int .i64 (key2 : Int), .int .i64 0] 32)).heap.size) := ⟨HP9.1, HP9.2.1, HP9.2.2.1⟩
                          clear HP9
                          go_wp2_with (at_builtin; refine wpList_appP _ rfl (.tmp 88) (.tmp 92) 22 rfl (w.heap.size + 1) hin Try.underlying22 u7 (ps5) rfl HQ9.out.1 W5.heap.size 1 ((key2 : Int), 0) rfl HQ9.out.2.1 HLN.out HQ9.out.2.2 ?_)
                          intro v9 W9 hr9 hg9
                          have HS9 : Hid (RD w (.slice ao l.length cap) (ps5 ++ [((key2 : Int), 0)]) _ _ v9 W9) := HR5.out.app (key2 : Int) 0 _ rfl v9 (by simpa using hr9) hg9
                          clear hr9 hg9 HQ9
                          go_wp2_with fail
                          go_roundw
                          case rel => exact ⟨0 + 1, by go_num, by omega, .inr ⟨er, _, _, 0, HB5.out.1, HB5.out.2, rfl, HS9.out⟩⟩
                          case measure => simp [intOf]; omega
                        · have hdk : ((k : Int) == 0) = false := by simp; exact hk0
                          go_wp2_with fail
                          refine HN5.out.mono ?_
                          rintro e W5 ⟨rfl, r5⟩
                          have HR5 : Hid (RD w (.slice ao l.length cap) ps5 0 er u7 W5) := r5
                          have HC5 : Hid (Calls Try.prog 35 #[.pointer (some ⟨w.heap.size, 0, none⟩), .int .i64 (off : Int), .int .u64 ((0 : Nat) : Int), .int .i64 52] W5 fun e W' => e = .returned (.int .i64 0) ∧ W' = W5) := rixabove_bad w _ _ _ _ _ _ _ W5 r5.rj HB5.out.1
                          have z5 := r5.rj.box.cell 2 _ rfl
                          clear r5 HN5
                          go_wp2_with fail
                          refine HC5.out.mono ?_
                          rintro e W5 ⟨rfl, rfl⟩
                          have HP9 := HR5.out.pair (key2 : Int) 0 _ rfl
                          have HQ9 : Hid ((W5.alloc (.cells #[.int .i64 (key2 : Int), .int .i64 0] 32)).ownsRow (w.heap.size + 1) 32 2 u7 (ps5).length ((ps5).flatMap enP) ∧ (W5.alloc (.cells #[.int .i64 (key2 : Int), .int .i64 0] 32)).rangeAt W5.heap.size 0 (enP ((key2 : Int), 0)) ∧ w.heap.size + 1 ≤ (W5.alloc (.cells #[.int .i64 (key2 : Int), .int .i64 0] 32)).heap.size) := ⟨HP9.1, HP9.2.1, HP9.2.2.1⟩
                          clear HP9
                          go_wp2_with (at_builtin; refine wpList_appP _ rfl (.tmp 88) (.tmp 92) 22 rfl (w.heap.size + 1) hin Try.underlying22 u7 (ps5) rfl HQ9.out.1 W5.heap.size 1 ((key2 : Int), 0) rfl HQ9.out.2.1 HLN.out HQ9.out.2.2 ?_)
                          intro v9 W9 hr9 hg9
                          have HS9 : Hid (RD w (.slice ao l.length cap) (ps5 ++ [((key2 : Int), 0)]) _ _ v9 W9) := HR5.out.app (key2 : Int) 0 _ rfl v9 (by simpa using hr9) hg9
                          clear hr9 hg9 HQ9
                          go_wp2_with fail
                          go_roundw
                          case rel => exact ⟨k + 1, by go_num, by omega, .inr ⟨er, _, _, 0, HB5.out.1, HB5.out.2, rfl, HS9.out⟩⟩
                          case measure => simp [intOf]; omega
                      · rw [e2] at HN5
                        simp only at HN5
                        have hgl : g < 18446744073709551616 := by have := HLT.out q5 hq5; rw [e1] at this; exact this
                        rw [e1] at hB
                        simp only [ne_eq, not_true_eq_false, if_false] at hB
                        by_cases hk0 : k = 0
                        · subst hk0
                          obtain rfl : off = 0 := hof0 rfl
                          simp only [decide_true, Bool.true_eq_false, and_false, false_or, Nat.sub_zero, Nat.zero_add] at hB
                          by_cases hgm : 9223372036854775807 < g
                          · rw [if_pos hgm] at hB
                            have HB5 : Hid (52 ≠ 0 ∧ B.1 = 52) := ⟨by decide, by rw [← hB]⟩
                            have hdg : ((9223372036854775807 : Int) < (g : Int)) = True := by simp; omega
                            clear e1 e2 hB HNM HLT
                            go_wp2_with fail
                            refine HN5.out.mono ?_
                            rintro e W5 ⟨rfl, r5⟩
                            have HR5 : Hid (RD w (.slice ao l.length cap) ps5 q6 52 u7 (W5.setCell ⟨w.heap.size, 2, none⟩ (.int .i64 52))) := r5.set 52
                            have z5 : W5.cell? ⟨w.heap.size, 2, none⟩ = some (.int .i64 0) := r5.rj.box.cell 2 _ rfl
                            have f5 := r5.rj.box.free 2
                            clear r5 HN5
                            obtain ⟨z, hz⟩ : ∃ z, IntKind.i64.wrap (bits .and .u64 (g : Int) 9223372036854775807) = z := ⟨_, rfl⟩
                            have HP9 := HR5.out.pair (key2 : Int) z _ rfl
                            have HQ9 : Hid (((W5.setCell ⟨w.heap.size, 2, none⟩ (.int .i64 52)).alloc (.cells #[.int .i64 (key2 : Int), .int .i64 z] 32)).ownsRow (w.heap.size + 1) 32 2 u7 (ps5).length ((ps5).flatMap enP) ∧ ((W5.setCell ⟨w.heap.size, 2, none⟩ (.int .i64 52)).alloc (.cells #[.int .i64 (key2 : Int), .int .i64 z] 32)).rangeAt W5.heap.size 0 (enP ((key2 : Int), z)) ∧ w.heap.size + 1 ≤ ((W5.setCell ⟨w.heap.size, 2, none⟩ (.int .i64 52)).alloc (.cells #[.int .i64 (key2 : Int), .int .i64 z] 32)).heap.size) := ⟨HP9.1, by have h := HP9.2.1; rwa [show (W5.setCell ⟨w.heap.size, 2, none⟩ (.int .i64 52)).heap.size = W5.heap.size by simp [World.setCell]] at h, HP9.2.2.1⟩
                            clear HP9
                            go_wp2_with (at_builtin; refine wpList_appP _ rfl (.tmp 88) (.tmp 92) 22 rfl (w.heap.size + 1) hin Try.underlying22 u7 (ps5) rfl HQ9.out.1 W5.heap.size 1 ((key2 : Int), z) rfl HQ9.out.2.1 HLN.out HQ9.out.2.2 ?_)
                            intro v9 W9 hr9 hg9
                            have HS9 : Hid (RD w (.slice ao l.length cap) (ps5 ++ [((key2 : Int), z)]) _ _ v9 W9) := HR5.out.app (key2 : Int) z _ rfl v9 (by simpa using hr9) hg9
                            clear hr9 hg9 HQ9
                            go_wp2_with fail
                            go_roundw
                            case rel => exact ⟨0 + 1, by go_num, by omega, .inr ⟨52, _, _, z, HB5.out.1, HB5.out.2, rfl, HS9.out⟩⟩
                            case measure => simp [intOf]; omega
                          · rw [if_neg hgm] at hB
                            have hdg : ((9223372036854775807 : Int) < (g : Int)) = False := by simp; omega
                            have HB5 : Hid (Ix.offP l (m - (0 + 1)) false q6 g (acc ++ [g]) = B) := hB
                            clear e1 e2 hB HNM HLT
                            go_wp2_with fail
                            refine HN5.out.mono ?_
                            rintro e W5 ⟨rfl, r5⟩
                            have HR5 : Hid (RD w (.slice ao l.length cap) ps5 q6 0 u7 W5) := r5
                            have z5 : W5.cell? ⟨w.heap.size, 2, none⟩ = some (.int .i64 0) := r5.rj.box.cell 2 _ rfl
                            have hz : IntKind.i64.wrap (bits .and .u64 (g : Int) 9223372036854775807) = (g : Int) := Ix.most_in g (by omega)
                            clear r5 HN5
                            have HP9 := HR5.out.pair (key2 : Int) (g : Int) _ rfl
                            have HQ9 : Hid ((W5.alloc (.cells #[.int .i64 (key2 : Int), .int .i64 (g : Int)] 32)).ownsRow (w.heap.size + 1) 32 2 u7 (ps5).length ((ps5).flatMap enP) ∧ (W5.alloc (.cells #[.int .i64 (key2 : Int), .int .i64 (g : Int)] 32)).rangeAt W5.heap.size 0 (enP ((key2 : Int), (g : Int))) ∧ w.heap.size + 1 ≤ (W5.alloc (.cells #[.int .i64 (key2 : Int), .int .i64 (g : Int)] 32)).heap.size) := ⟨HP9.1, HP9.2.1, HP9.2.2.1⟩
                            clear HP9
                            go_wp2_with (at_builtin; refine wpList_appP _ rfl (.tmp 88) (.tmp 92) 22 rfl (w.heap.size + 1) hin Try.underlying22 u7 (ps5) rfl HQ9.out.1 W5.heap.size 1 ((key2 : Int), (g : Int)) rfl HQ9.out.2.1 HLN.out HQ9.out.2.2 ?_)
                            intro v9 W9 hr9 hg9
                            have HS9 : Hid (RD w (.slice ao l.length cap) (ps5 ++ [((key2 : Int), (g : Int))]) _ _ v9 W9) := HR5.out.app (key2 : Int) (g : Int) _ rfl v9 (by simpa using hr9) hg9
                            clear hr9 hg9 HQ9
                            go_wp2_with fail
                            go_roundw
                            have HS8 : Hid (RD w (.slice ao l.length cap) (prs kvs ++ (Ix.nums (acc ++ [g])).map fun x => ((key2 : Int), x)) q6 0 v9 W9) := by
                              have h9 := HS9.out
                              rw [HPS.out] at h9
                              unfold Ix.nums at h9 ⊢
                              rw [List.map_append, List.map_append, ← List.append_assoc]
                              exact h9
                            case rel => exact ⟨0 + 1, by go_num, by omega, .inl ⟨q6, g, acc ++ [g], rfl, by rw [show decide (0 + 1 = 0) = false by simp]; exact HB5.out, HS8.out, by omega, h6, by rw [List.length_append, List.length_singleton]; omega, fun e => by omega⟩⟩
                            case measure => simp [intOf]; omega
                        · have hdk : ((k : Int) == 0) = false := by simp; exact hk0
                          have hdk2 : decide (k = 0) = false := by simp; exact hk0
                          rw [hdk2] at hB
                          simp only [and_true] at hB
                          by_cases hno : g = 0 ∨ 9223372036854775807 - off < g
                          · rw [if_pos hno] at hB
                            have HB5 : Hid (52 ≠ 0 ∧ B.1 = 52) := ⟨by decide, by rw [← hB]⟩
                            have HC5 : Hid (∀ W5, RD w (.slice ao l.length cap) ps5 q6 0 u7 W5 → Calls Try.prog 35 #[.pointer (some ⟨w.heap.size, 0, none⟩), .int .i64 (off : Int), .int .u64 (g : Int), .int .i64 52] W5 fun e W' => e = .returned (.int .i64 0) ∧ RD w (.slice ao l.length cap) ps5 q6 52 u7 W') := fun W5 r5 => (rixabove_no w _ _ _ off g 52 W5 r5.rj hol hgl hno).mono fun _ _ ⟨e1, e2, e3⟩ => ⟨e1, r5.on e2 e3⟩
                            clear e1 e2 hB HNM HLT hno
                            go_wp2_with fail
                            refine HN5.out.mono ?_
                            rintro e W5 ⟨rfl, r5⟩
                            have HC6 : Hid (Calls Try.prog 35 #[.pointer (some ⟨w.heap.size, 0, none⟩), .int .i64 (off : Int), .int .u64 (g : Int), .int .i64 52] W5 fun e W' => e = .returned (.int .i64 0) ∧ RD w (.slice ao l.length cap) ps5 q6 52 u7 W') := HC5.out W5 r5
                            clear r5 HN5 HC5
                            go_wp2_with fail
                            refine HC6.out.mono ?_
                            rintro e W6 ⟨rfl, r6⟩
                            have HR6 : Hid (RD w (.slice ao l.length cap) ps5 q6 52 u7 W6) := r6
                            clear r6 HC6
                            have HP9 := HR6.out.pair (key2 : Int) 0 _ rfl
                            have HQ9 : Hid ((W6.alloc (.cells #[.int .i64 (key2 : Int), .int .i64 0] 32)).ownsRow (w.heap.size + 1) 32 2 u7 (ps5).length ((ps5).flatMap enP) ∧ (W6.alloc (.cells #[.int .i64 (key2 : Int), .int .i64 0] 32)).rangeAt W6.heap.size 0 (enP ((key2 : Int), 0)) ∧ w.heap.size + 1 ≤ (W6.alloc (.cells #[.int .i64 (key2 : Int), .int .i64 0] 32)).heap.size) := ⟨HP9.1, HP9.2.1, HP9.2.2.1⟩
                            clear HP9
                            go_wp2_with (at_builtin; refine wpList_appP _ rfl (.tmp 88) (.tmp 92) 22 rfl (w.heap.size + 1) hin Try.underlying22 u7 (ps5) rfl HQ9.out.1 W6.heap.size 1 ((key2 : Int), 0) rfl HQ9.out.2.1 HLN.out HQ9.out.2.2 ?_)
                            intro v9 W9 hr9 hg9
                            have HS9 : Hid (RD w (.slice ao l.length cap) (ps5 ++ [((key2 : Int), 0)]) _ _ v9 W9) := HR6.out.app (key2 : Int) 0 _ rfl v9 (by simpa using hr9) hg9
                            clear hr9 hg9 HQ9
                            go_wp2_with fail
                            go_roundw
                            case rel => exact ⟨k + 1, by go_num, by omega, .inr ⟨52, _, _, 0, HB5.out.1, HB5.out.2, rfl, HS9.out⟩⟩
                            case measure => simp [intOf]; omega
                          · rw [if_neg hno] at hB
                            have hg0 : g ≠ 0 := fun e => hno (.inl e)
                            have hgm : off + g ≤ 9223372036854775807 := by
                              have : ¬ 9223372036854775807 - off < g := fun e => hno (.inr e)
                              omega
                            have HC5 : Hid (∀ W5, RD w (.slice ao l.length cap) ps5 q6 0 u7 W5 → Calls Try.prog 35 #[.pointer (some ⟨w.heap.size, 0, none⟩), .int .i64 (off : Int), .int .u64 (g : Int), .int .i64 52] W5 fun e W' => e = .returned (.int .i64 ((off + g : Nat) : Int)) ∧ W' = W5) := fun W5 r5 => rixabove_yes w _ _ _ off g 52 W5 r5.rj hg0 hgm
                            have HB5 : Hid (Ix.offP l (m - (k + 1)) false q6 (off + g) (acc ++ [off + g]) = B) := hB
                            obtain ⟨off2, ho2⟩ : ∃ x, x = off + g := ⟨_, rfl⟩
                            rw [← ho2] at HC5 HB5 hgm
                            clear e1 e2 hB HNM HLT hno hg0 ho2 hgl hdk2
                            go_wp2_with fail
                            refine HN5.out.mono ?_
                            rintro e W5 ⟨rfl, r5⟩
                            have HR6 : Hid (RD w (.slice ao l.length cap) ps5 q6 0 u7 W5) := r5
                            have HC6 : Hid (Calls Try.prog 35 #[.pointer (some ⟨w.heap.size, 0, none⟩), .int .i64 (off : Int), .int .u64 (g : Int), .int .i64 52] W5 fun e W' => e = .returned (.int .i64 (off2 : Int)) ∧ W' = W5) := HC5.out W5 r5
                            clear r5 HN5 HC5
                            go_wp2_with fail
                            refine HC6.out.mono ?_
                            rintro e W5 ⟨rfl, rfl⟩
                            have HP9 := HR6.out.pair (key2 : Int) (off2 : Int) _ rfl
                            have HQ9 : Hid ((W5.alloc (.cells #[.int .i64 (key2 : Int), .int .i64 (off2 : Int)] 32)).ownsRow (w.heap.size + 1) 32 2 u7 (ps5).length ((ps5).flatMap enP) ∧ (W5.alloc (.cells #[.int .i64 (key2 : Int), .int .i64 (off2 : Int)] 32)).rangeAt W5.heap.size 0 (enP ((key2 : Int), (off2 : Int))) ∧ w.heap.size + 1 ≤ (W5.alloc (.cells #[.int .i64 (key2 : Int), .int .i64 (off2 : Int)] 32)).heap.size) := ⟨HP9.1, HP9.2.1, HP9.2.2.1⟩
                            clear HP9
                            go_wp2_with (at_builtin; refine wpList_appP _ rfl (.tmp 88) (.tmp 92) 22 rfl (w.heap.size + 1) hin Try.underlying22 u7 (ps5) rfl HQ9.out.1 W5.heap.size 1 ((key2 : Int), (off2 : Int)) rfl HQ9.out.2.1 HLN.out HQ9.out.2.2 ?_)
                            intro v9 W9 hr9 hg9
                            have HS9 : Hid (RD w (.slice ao l.length cap) (ps5 ++ [((key2 : Int), (off2 : Int))]) _ _ v9 W9) := HR6.out.app (key2 : Int) (off2 : Int) _ rfl v9 (by simpa using hr9) hg9
                            clear hr9 hg9 HQ9
                            go_wp2_with fail
                            go_roundw
                            have HS8 : Hid (RD w (.slice ao l.length cap) (prs kvs ++ (Ix.nums (acc ++ [off2])).map fun x => ((key2 : Int), x)) q6 0 v9 W9) := by
                              have h9 := HS9.out
                              rw [HPS.out] at h9
                              unfold Ix.nums at h9 ⊢
                              rw [List.map_append, List.map_append, ← List.append_assoc]
                              exact h9
                            case rel => exact ⟨k + 1, by go_num, by omega, .inl ⟨q6, off2, acc ++ [off2], rfl, by rw [show decide (k + 1 = 0) = false by simp]; exact HB5.out, HS8.out, hgm, h6, by rw [List.length_append, List.length_singleton]; omega, fun e => by omega⟩⟩
                            case measure => simp [intOf]; omega
                    · obtain rfl : m = k := by omega
                      rw [Nat.sub_self, Ix.offP] at hB
                      have HS9 : Hid (OuS w (.slice ao l.length cap) l cnt A (.int .i64 (key2 : Int)) u7 (.int .u64 ((i + 1 : Nat) : Int)) wr) := by
                        have h9 := HA.out
                        rw [← hB] at h9
                        simp only [ne_eq, not_true_eq_false, if_false] at h9
                        refine ⟨i + 1, rfl, by omega, .inl ⟨q5, key2, _, rfl, h9, ?_, HK2.out.1, hq5, ?_⟩⟩
                        · rw [Ix.prs_end]
                          exact hR
                        · rw [Ix.prs_end, List.length_append, List.length_map]
                          unfold Ix.nums
                          rw [List.length_map]
                          exact hps5
                      clear hR hB
                      go_wp2_with fail
                      go_roundw
                      case rel => exact HS9.out
                      case measure => simp [intOf]; omega
                  · have z2 := hR.rj.box.cell 2 _ rfl
                    have hd : ((er : Int) == 0) = false := by simp; exact h0
                    have HS9 : Hid (OuS w (.slice ao l.length cap) l cnt A (.int .i64 (key2 : Int)) u7 (.int .u64 ((i + 1 : Nat) : Int)) wr) := by
                      have h9 := HA.out
                      rw [hB, if_pos h0] at h9
                      exact ⟨i + 1, rfl, by omega, .inr ⟨er, q5, ps, _, h0, h9.symm, rfl, hR⟩⟩
                    clear hR hB h0
                    by_cases hlt5 : k < m
                    · go_wp2_with fail
                      go_roundw
                      case rel => exact HS9.out
                      case measure => simp [intOf]; omega
                    · go_wp2_with fail
                      go_roundw
                      case rel => exact HS9.out
                      case measure => simp [intOf]; omega
      · obtain rfl : cnt = i := by omega
        rw [Nat.sub_self, Ix.decP] at hA
        have x1 : wr.cell? ⟨w.heap.size, 1, none⟩ = some (.int .i64 (q : Int)) := hR.rj.box.cell 1 _ rfl
        have f2 := hR.rj.box.free 2
        have HR : Hid (RD w (.slice ao l.length cap) (prs kvs) q 0 u7 wr) := hR
        clear hR
        by_cases hqe : q = l.length
        · rw [if_pos hqe] at hA
          have hd : ((q : Int) != (l.length : Int)) = false := by rw [hqe]; simp
          have HA : Hid ((0, kvs) = A) := hA
          clear hA hqe hq hps
          go_wp2_with fail
          go_returns
          rw [← HA.out]
          exact ⟨_, rfl, fun _ => Pr.of HR.out.row, HR.out.rj.bel⟩
        · rw [if_neg hqe] at hA
          have hd : ((q : Int) != (l.length : Int)) = true := by simp; omega
          have HB : Hid (Below w.heap.size w (wr.setCell ⟨w.heap.size, 2, none⟩ (.int .i64 53)) ∧ A = (53, []) ∧ 53 ≠ 0) := ⟨(HR.out.set 53).rj.bel, hA.symm, by decide⟩
          clear hA hqe hq hps
          go_wp2_with fail
          go_quiet (fail)
          go_wp2_with fail
          go_returns
          rw [HB.out.2.1]
          exact ⟨_, rfl, fun e => absurd e HB.out.2.2, bel_drewI HB.out.1 _⟩
    · have x2 := hR.rj.box.cell 2 _ rfl
      have hd : ((er : Int) == 0) = false := by simp; exact h0
      have hd2 : ((er : Int) != 0) = true := by simp; exact h0
      have HB : Hid (Below w.heap.size w wr ∧ A = (er, []) ∧ er ≠ 0) := ⟨hR.rj.bel, hA, h0⟩
      clear hR hA h0
      by_cases hlt : i < cnt
      · go_wp2_with fail
        go_quiet (fail)
        go_wp2_with fail
        go_returns
        rw [HB.out.2.1]
        exact ⟨_, rfl, fun e => absurd e HB.out.2.2, bel_drewI HB.out.1 _⟩
      · go_wp2_with fail
        go_quiet (fail)
        go_wp2_with fail
        go_returns
        rw [HB.out.2.1]
        exact ⟨_, rfl, fun e => absurd e HB.out.2.2, bel_drewI HB.out.1 _⟩
end Go.Proofs.Ytneiokjpbfgioaa
