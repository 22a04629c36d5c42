import Derived.Lib.ItoaNum
import Derived.Lib.AtoiAllCases
import Derived.WalkMore
import Derived.BigQuiet
import Derived.Deep.MidRow
import Derived.Deep.RegionHeld3
import Derived.Test.YtcnnpohnfoaceaaGreatDoorQT4
import Derived.Test.YtcnnpohnfoaceaaGreatDoorQT1
import Derived.Test.YtcnnpohnfoaceaaGreatDoorQT3
/-
  Package text, Words: the words of a line, as a plain function of the line.
-/
namespace Go.Proofs.YtcnnpohnfoaceaaGreatDoor.Text
open Go Go.RowKit
namespace Tx

def sgnL : List Nat := [58, 44, 59, 126, 33, 61, 47, 64, 42, 43, 40, 41]
def sgn (r : Nat) : Bool := sgnL.contains r
def blk (r : Nat) : Bool := decide (r = 32) || decide (r = 9)
/-- a word -/
structure Wd where
  k : Int
  at_ : Int
  t : ByteArray
  n : Int
/-- behind the runes of names from p on -/
def nEnd (s : ByteArray) (p : Nat) : Nat :=
  if _h : p < s.size then (if nmR ((Utf8.decode s p).1 : Int) = true then nEnd s (p + (Utf8.decode s p).2) else p) else s.size
termination_by s.size - p
decreasing_by
  have := decode_fits s p (by assumption)
  omega
theorem nEnd_in (s : ByteArray) (p : Nat) (h : p < s.size) (hr : nmR ((Utf8.decode s p).1 : Int) = true) : nEnd s p = nEnd s (p + (Utf8.decode s p).2) := by
  rw [nEnd, dif_pos h, if_pos hr]
theorem nEnd_no (s : ByteArray) (p : Nat) (h : p < s.size) (hr : nmR ((Utf8.decode s p).1 : Int) = false) : nEnd s p = p := by
  rw [nEnd, dif_pos h, if_neg (by simp [hr])]
theorem nEnd_out (s : ByteArray) (p : Nat) (h : ¬ p < s.size) : nEnd s p = s.size := by rw [nEnd, dif_neg h]
/-- behind the digits from p on -/
def dEnd (s : ByteArray) (p : Nat) : Nat :=
  if _h : p < s.size then (if dig (at' s p : Int) = true then dEnd s (p + 1) else p) else s.size
termination_by s.size - p
theorem dEnd_in (s : ByteArray) (p : Nat) (h : p < s.size) (hr : dig (at' s p : Int) = true) : dEnd s p = dEnd s (p + 1) := by
  rw [dEnd, dif_pos h, if_pos hr]
theorem dEnd_no (s : ByteArray) (p : Nat) (h : p < s.size) (hr : dig (at' s p : Int) = false) : dEnd s p = p := by
  rw [dEnd, dif_pos h, if_neg (by simp [hr])]
theorem dEnd_out (s : ByteArray) (p : Nat) (h : ¬ p < s.size) : dEnd s p = s.size := by rw [dEnd, dif_neg h]
/-- the value of a number that is written as it would be -/
def numP (t : List UInt8) : Option Int :=
  match Lib.atoiAll t with
  | .ok v => if Lib.itoa v = t then some v else none
  | _ => none
/-- where the digits of a number begin -/
def nFrom (s : ByteArray) (i : Nat) : Nat := if (Utf8.decode s i).1 = 45 then i + 1 else i
/-- the word at i and where it ends; or the error and its place -/
def wordP (s : ByteArray) (i : Nat) : (Wd × Nat) ⊕ (Int × Int) :=
  if among lets ((Utf8.decode s i).1 : Int) = true then
    if (nmA (s.extract i (nEnd s i))).1 ≠ 0 then .inr ((nmA (s.extract i (nEnd s i))).1, (i : Int) + (nmA (s.extract i (nEnd s i))).2)
    else .inl (⟨1, (i : Int), s.extract i (nEnd s i), 0⟩, nEnd s i)
  else if dig ((Utf8.decode s i).1 : Int) = true ∨ (Utf8.decode s i).1 = 45 then
    if dEnd s (nFrom s i) = (nFrom s i) then .inr (22, (i : Int))
    else match numP (s.extract i (dEnd s (nFrom s i))).data.toList with
      | none => .inr (29, (i : Int))
      | some v => .inl (⟨2, (i : Int), s.extract i (dEnd s (nFrom s i)), v⟩, dEnd s (nFrom s i))
  else if (Utf8.decode s i).1 = 34 then
    if (unq s (i : Int)).2.2 ≠ 0 then .inr ((unq s (i : Int)).2.2, (i : Int))
    else .inl (⟨3, (i : Int), (unq s (i : Int)).1, 0⟩, (unq s (i : Int)).2.1.toNat)
  else if sgn (Utf8.decode s i).1 = true then .inl (⟨4, (i : Int), s.extract i (i + 1), 0⟩, i + 1)
  else .inr (if stray s i = true then 21 else 22, (i : Int))
/-- the words from i on, the error, its place -/
def wds (s : ByteArray) (i : Nat) : List Wd × Int × Int :=
  if _h : i < s.size then
    if at' s i = 35 then ([], 0, 0)
    else if blk (at' s i) = true then wds s (i + 1)
    else match wordP s i with
      | .inr ep => ([], ep)
      | .inl (w, e) =>
        if w.k ≠ 4 ∧ max e (i + 1) < s.size ∧ at' s (max e (i + 1)) ≠ 35 ∧ blk (at' s (max e (i + 1))) = false ∧ sgn (at' s (max e (i + 1))) = false then ([], if stray s (max e (i + 1)) = true then 21 else 22, ((max e (i + 1) : Nat) : Int))
        else if (wds s (max e (i + 1))).2.1 = 0 then (w :: (wds s (max e (i + 1))).1, 0, 0)
        else ([], (wds s (max e (i + 1))).2)
  else ([], 0, 0)
termination_by s.size - i
decreasing_by all_goals omega
theorem wds_out (s : ByteArray) (i : Nat) (h : ¬ i < s.size) : wds s i = ([], 0, 0) := by rw [wds, dif_neg h]
theorem wds_hash (s : ByteArray) (i : Nat) (h : i < s.size) (h1 : at' s i = 35) : wds s i = ([], 0, 0) := by rw [wds, dif_pos h, if_pos h1]
theorem wds_blank (s : ByteArray) (i : Nat) (h : i < s.size) (h1 : ¬ at' s i = 35) (h2 : blk (at' s i) = true) : wds s i = wds s (i + 1) := by rw [wds, dif_pos h, if_neg h1, if_pos h2]
theorem wds_bad (s : ByteArray) (i : Nat) (h : i < s.size) (h1 : ¬ at' s i = 35) (h2 : blk (at' s i) = false) (ep : Int × Int) (h3 : wordP s i = .inr ep) : wds s i = ([], ep) := by
  rw [wds, dif_pos h, if_neg h1, if_neg (by simp [h2]), h3]
/-- what comes at once behind a word of that kind which ends at e -/
def bhd (s : ByteArray) (k : Int) (e : Nat) : List Wd × Int × Int :=
  if k ≠ 4 ∧ e < s.size ∧ at' s e ≠ 35 ∧ blk (at' s e) = false ∧ sgn (at' s e) = false then ([], if stray s e = true then 21 else 22, (e : Int)) else wds s e
/-- words ahead of what comes -/
def fin (acc : List Wd) (r : List Wd × Int × Int) : List Wd × Int × Int := if r.2.1 = 0 then (acc ++ r.1, r.2) else ([], r.2)
theorem bhd_err (s : ByteArray) (k : Int) (e : Nat) (h : (k ≠ 4 ∧ e < s.size ∧ at' s e ≠ 35 ∧ blk (at' s e) = false ∧ sgn (at' s e) = false)) : bhd s k e = ([], if stray s e = true then 21 else 22, (e : Int)) := by
  unfold bhd
  rw [if_pos h]
theorem wordP_err (s : ByteArray) (i : Nat) (ep : Int × Int) (h : wordP s i = .inr ep) : ep.1 ≠ 0 := by
  unfold wordP at h
  split at h
  · split at h
    · rename_i h1
      injection h with h
      subst h
      exact h1
    · cases h
  · split at h
    · split at h
      · injection h with h
        subst h
        show (22 : Int) ≠ 0
        decide
      · split at h
        · injection h with h
          subst h
          show (29 : Int) ≠ 0
          decide
        · cases h
    · split at h
      · split at h
        · rename_i h1
          injection h with h
          subst h
          exact h1
        · cases h
      · split at h
        · cases h
        · injection h with h
          subst h
          show (if stray s i = true then (21 : Int) else 22) ≠ 0
          split <;> decide
theorem wds_ok_place (s : ByteArray) : ∀ (n i : Nat), s.size - i ≤ n → (wds s i).2.1 = 0 → (wds s i).2.2 = 0 := by
  intro n
  induction n with
  | zero => intro i hi _; rw [wds_out s i (by omega)]
  | succ n ih =>
    intro i hi h
    by_cases hlt : i < s.size
    · rw [wds, dif_pos hlt] at h ⊢
      split
      · rfl
      · rename_i h1
        rw [if_neg h1] at h
        split
        · rename_i h2
          rw [if_pos h2] at h
          exact ih (i + 1) (by omega) h
        · rename_i h2
          rw [if_neg h2] at h
          split
          · rename_i ep h3
            rw [h3] at h
            simp only at h
            exfalso
            revert h
            exact wordP_err s i ep h3
          · rename_i w e h3
            rw [h3] at h
            simp only at h
            split
            · rename_i h4
              rw [if_pos h4] at h
              simp only at h
              split at h <;> simp at h
            · rename_i h4
              rw [if_neg h4] at h
              split
              · rfl
              · rename_i h5
                rw [if_neg h5] at h
                exact absurd h h5
    · rw [wds_out s i hlt]
end Tx
end Go.Proofs.YtcnnpohnfoaceaaGreatDoor.Text

/-
  The library: strings.IndexRune and ContainsRune over the signs of a line.
-/
namespace Go.Proofs.YtcnnpohnfoaceaaGreatDoor.Text
open Go Go.RowKit Go.Lib
open Tx

def Tx.sgs : ByteArray := ⟨#[58, 44, 59, 126, 33, 61, 47, 64, 42, 43, 40, 41]⟩
def Tx.sgi (r : Nat) : Int := if r < 128 then firstIdx sgs r.toUInt8 else -1
theorem sgi_far (r : Nat) (h : 128 ≤ r) : sgi r = -1 := by
  unfold sgi
  rw [if_neg (by omega)]
theorem sgs_dec : ∀ p, p < 12 → (Utf8.decode sgs p).2 = 1 ∧ (Utf8.decode sgs p).1 < 128 := by decide +kernel
theorem sgs_size : sgs.size = 12 := by decide +kernel
set_option maxRecDepth 100000 in
theorem isgn_low (r : Nat) (w : World) (h : r < 128) :
    Calls Tryz.prog 94 #[.string sgs, .int .i32 (r : Int)] w fun e w' => e = .returned (.int .i64 (sgi r)) ∧ w' = w := by
  have HC : Hid (∀ w', Calls Tryz.prog 108 #[.string sgs, .int .u8 (r : Int)] w' fun e w1 => e = .returned (.int .i64 (sgi r)) ∧ w1 = w') := fun w' => by
    show Calls _ _ _ _ _
    have h1 := indexByte_any sgs r w'
    rw [show firstIdx sgs r.toUInt8 = sgi r by unfold sgi; rw [if_pos h]] at h1
    exact h1
  generalize sgi r = k at *
  generalize sgs = S at *
  go_enter Tryz.func94, Tryz.ntmps94
  go_wp2_with fail
  refine (HC.out _).mono ?_
  rintro e w1 ⟨rfl, rfl⟩
  go_wp2
  go_ret
  exact ⟨rfl, rfl⟩
set_option maxRecDepth 100000 in
theorem isgn_bad (w : World) :
    Calls Tryz.prog 94 #[.string sgs, .int .i32 65533] w fun e w' => e = .returned (.int .i64 (-1)) ∧ Below w.heap.size w w' := by
  have HS := sgs_size
  have HD : Hid (∀ p, p < 12 → (Utf8.decode sgs p).2 = 1 ∧ (Utf8.decode sgs p).1 < 128) := sgs_dec
  generalize sgs = s at *
  have HI : Hid ((w.iter s 0).heap[w.heap.size]? = some (.stringIter s 0)) := World.iter_heap w s 0
  have HB : Hid (Below w.heap.size w (w.iter s 0)) := up_iter w s 0
  go_enter Tryz.func94, Tryz.ntmps94
  go_wp2
  go_loopw [] (fun wr => ∃ (p : Nat), p ≤ s.size ∧ wr.heap[w.heap.size]? = some (.stringIter s p) ∧ Below w.heap.size w wr) (fun wr => s.size - wr.iterPos w.heap.size)
  case atStart => exact ⟨0, Nat.zero_le _, HI.out, HB.out⟩
  case round =>
    obtain ⟨p, hp, hit, hbel⟩ := hrel
    have HPOS : Hid (wr.iterPos w.heap.size = p) := iter_pos hit
    clear HI HB
    by_cases hlt : p < s.size
    · have hd := HD.out p (by omega)
      have hnx : ∀ ty, (Instr.next (.pointer (some ⟨w.heap.size, 0, none⟩)) true ty).run Tryz.prog wr = _ := fun ty => run_next_at wr w.heap.size s p ty hit hlt
      have HI2 : Hid ((setIter wr w.heap.size s (p + (Utf8.decode s p).2)).heap[w.heap.size]? = some (.stringIter s (p + (Utf8.decode s p).2))) := iter_at wr w.heap.size s _ _ hit
      have hB2 : Below w.heap.size w (setIter wr w.heap.size s (p + (Utf8.decode s p).2)) := below_iter hbel _ (Nat.le_refl _) s _
      clear hbel hit
      rw [hd.1] at HI2 hB2
      have hd1 := hd.1
      have hd2 := hd.2
      simp only [hd1] at hnx
      clear hd hd1
      generalize setIter wr w.heap.size s (p + 1) = w2 at *
      obtain ⟨x, hx⟩ : ∃ x : Nat, (Utf8.decode s p).1 = x := ⟨_, rfl⟩
      rw [hx] at hnx hd2
      clear hx
      go_wp2
      go_roundw
      case rel => exact ⟨p + 1, by omega, HI2.out, hB2⟩
      case measure => rw [iter_pos HI2.out, HPOS.out]; omega
    · have hnx : ∀ ty, (Instr.next (.pointer (some ⟨w.heap.size, 0, none⟩)) true ty).run Tryz.prog wr = _ := fun ty => run_next_over wr w.heap.size s p ty hit hlt
      clear hit
      go_wp2
      go_ret
      exact ⟨rfl, hbel⟩
theorem sgs_part : ∀ k, k < 5 → ∀ i, i < (sgs.extract k 12).size → ((sgs.extract k 12).get! i).toNat < 128 := by decide +kernel
theorem idxs_part (k : Nat) (hk : k < 5) (c : Nat) (h : 128 ≤ c) (h2 : c < 256) : firstIdx (sgs.extract k 12) c.toUInt8 = -1 := by
  refine no_high _ _ (by rw [show c.toUInt8.toNat = c from by simp; omega]; exact h) fun i hi => ?_
  have h3 : at' (sgs.extract k 12) i < 128 := sgs_part k hk i hi
  rwa [at_get _ i hi] at h3
set_option maxRecDepth 100000 in
set_option maxHeartbeats 2000000 in
theorem isgn_far2 (S E : ByteArray) (x : Int) (w : World) (h : 128 ≤ x) (h1 : x ≤ 1114111) (h2 : x ≠ 65533) (hv : Utf8.valid x = true) (hE : Utf8.encode x = E) (hn : E.size = 2) (c : Nat) (hc : (E[1]'(by omega)).toNat = c) (hc0 : 128 ≤ c) (hc1 : c < 256)
    (hx1 : S.size = 12) (hx2 : (S[1]'(by omega)).toNat = 44) (HI : Hid (∀ w', Calls Tryz.prog 108 #[.string (S.extract 2 12), .int .u8 (c : Int)] w' fun e w1 => e = .returned (.int .i64 (-1)) ∧ w1 = w')) :
    Calls Tryz.prog 94 #[.string S, .int .i32 x] w fun e w' => e = .returned (.int .i64 (-1)) ∧ Below w.heap.size w w' := by
  have hcv : ∀ w', (convert 21 9 (.int .i32 x)).run Tryz.prog w' = .ok (.string E) w' := fun w' => by rw [← hE]; exact run_convert_int_string w' 21 9 .i32 x (by kernel_rfl) Tryz.underlying9
  have hw2 : IntKind.i64.wrap 2 = 2 := by decide
  have HV : Hid (Utf8.valid x = true) := hv
  clear hv
  go_enter Tryz.func94, Tryz.ntmps94
  go_wp2_with fail
  refine (validRune_any _ _).mono ?_
  rw [HV.out]
  rintro e w1 ⟨rfl, rfl⟩
  go_wp2
  go_step3
  go_wp2
  go_loopw [9, 10] (fun i k wr => i = .int .i64 1 ∧ k = .int .i64 0 ∧ wr = w1) (fun _ _ _ => 0)
  case atStart => exact ⟨by go_num, rfl, rfl⟩
  case round =>
    obtain ⟨rfl, rfl, rfl⟩ := hrel
    go_wp2
    go_step3
    go_wp2
    go_quiet (fail)
    have B5 := below_drewN (Below.refl wr.heap.size wr) nq
    generalize wr.drewN nq = w5 at *
    go_wp2
    go_quiet (first | (go_at_call 108; refine Calls.quiet_of_same (HI.out _)))
    go_wp2
    dsimp +zetaDelta only [Exit.noGoto, Exit.inBlock, Exit.then]
    go_ret
    exact ⟨rfl, below_drewN B5 _⟩
set_option maxRecDepth 100000 in
set_option maxHeartbeats 2000000 in
theorem isgn_far3 (S E : ByteArray) (x : Int) (w : World) (h : 128 ≤ x) (h1 : x ≤ 1114111) (h2 : x ≠ 65533) (hv : Utf8.valid x = true) (hE : Utf8.encode x = E) (hn : E.size = 3) (c : Nat) (hc : (E[2]'(by omega)).toNat = c) (hc0 : 128 ≤ c) (hc1 : c < 256)
    (hx1 : S.size = 12) (hx2 : (S[2]'(by omega)).toNat = 59) (HI : Hid (∀ w', Calls Tryz.prog 108 #[.string (S.extract 3 12), .int .u8 (c : Int)] w' fun e w1 => e = .returned (.int .i64 (-1)) ∧ w1 = w')) :
    Calls Tryz.prog 94 #[.string S, .int .i32 x] w fun e w' => e = .returned (.int .i64 (-1)) ∧ Below w.heap.size w w' := by
  have hcv : ∀ w', (convert 21 9 (.int .i32 x)).run Tryz.prog w' = .ok (.string E) w' := fun w' => by rw [← hE]; exact run_convert_int_string w' 21 9 .i32 x (by kernel_rfl) Tryz.underlying9
  have hw2 : IntKind.i64.wrap 3 = 3 := by decide
  have HV : Hid (Utf8.valid x = true) := hv
  clear hv
  go_enter Tryz.func94, Tryz.ntmps94
  go_wp2_with fail
  refine (validRune_any _ _).mono ?_
  rw [HV.out]
  rintro e w1 ⟨rfl, rfl⟩
  go_wp2
  go_step3
  go_wp2
  go_loopw [9, 10] (fun i k wr => i = .int .i64 2 ∧ k = .int .i64 0 ∧ wr = w1) (fun _ _ _ => 0)
  case atStart => exact ⟨by go_num, rfl, rfl⟩
  case round =>
    obtain ⟨rfl, rfl, rfl⟩ := hrel
    go_wp2
    go_step3
    go_wp2
    go_quiet (fail)
    have B5 := below_drewN (Below.refl wr.heap.size wr) nq
    generalize wr.drewN nq = w5 at *
    go_wp2
    go_quiet (first | (go_at_call 108; refine Calls.quiet_of_same (HI.out _)))
    go_wp2
    dsimp +zetaDelta only [Exit.noGoto, Exit.inBlock, Exit.then]
    go_ret
    exact ⟨rfl, below_drewN B5 _⟩
set_option maxRecDepth 100000 in
set_option maxHeartbeats 2000000 in
theorem isgn_far4 (S E : ByteArray) (x : Int) (w : World) (h : 128 ≤ x) (h1 : x ≤ 1114111) (h2 : x ≠ 65533) (hv : Utf8.valid x = true) (hE : Utf8.encode x = E) (hn : E.size = 4) (c : Nat) (hc : (E[3]'(by omega)).toNat = c) (hc0 : 128 ≤ c) (hc1 : c < 256)
    (hx1 : S.size = 12) (hx2 : (S[3]'(by omega)).toNat = 126) (HI : Hid (∀ w', Calls Tryz.prog 108 #[.string (S.extract 4 12), .int .u8 (c : Int)] w' fun e w1 => e = .returned (.int .i64 (-1)) ∧ w1 = w')) :
    Calls Tryz.prog 94 #[.string S, .int .i32 x] w fun e w' => e = .returned (.int .i64 (-1)) ∧ Below w.heap.size w w' := by
  have hcv : ∀ w', (convert 21 9 (.int .i32 x)).run Tryz.prog w' = .ok (.string E) w' := fun w' => by rw [← hE]; exact run_convert_int_string w' 21 9 .i32 x (by kernel_rfl) Tryz.underlying9
  have hw2 : IntKind.i64.wrap 4 = 4 := by decide
  have HV : Hid (Utf8.valid x = true) := hv
  clear hv
  go_enter Tryz.func94, Tryz.ntmps94
  go_wp2_with fail
  refine (validRune_any _ _).mono ?_
  rw [HV.out]
  rintro e w1 ⟨rfl, rfl⟩
  go_wp2
  go_step3
  go_wp2
  go_loopw [9, 10] (fun i k wr => i = .int .i64 3 ∧ k = .int .i64 0 ∧ wr = w1) (fun _ _ _ => 0)
  case atStart => exact ⟨by go_num, rfl, rfl⟩
  case round =>
    obtain ⟨rfl, rfl, rfl⟩ := hrel
    go_wp2
    go_step3
    go_wp2
    go_quiet (fail)
    have B5 := below_drewN (Below.refl wr.heap.size wr) nq
    generalize wr.drewN nq = w5 at *
    go_wp2
    go_quiet (first | (go_at_call 108; refine Calls.quiet_of_same (HI.out _)))
    go_wp2
    dsimp +zetaDelta only [Exit.noGoto, Exit.inBlock, Exit.then]
    go_ret
    exact ⟨rfl, below_drewN B5 _⟩

theorem parts_idx (k : Nat) (hk : k < 5) (c : Nat) (h0 : 128 ≤ c) (h1 : c < 256) (w' : World) : Calls Tryz.prog 108 #[.string (sgs.extract k 12), .int .u8 (c : Int)] w' fun e w1 => e = .returned (.int .i64 (-1)) ∧ w1 = w' := by
  have h := indexByte_any (sgs.extract k 12) c w'
  rw [idxs_part k hk c h0 h1] at h
  exact h
theorem sgs_at : ∀ k, (h : k < sgs.size) → k < 4 → (sgs[k]'h).toNat = [58, 44, 59, 126].getD k 0 := by decide +kernel
theorem isgn_b2 (r : Nat) (w : World) (hv : Utf8.valid (r : Int) = true) (h1 : 128 ≤ r) (h3 : r ≤ 2047) :
    Calls Tryz.prog 94 #[.string sgs, .int .i32 (r : Int)] w fun e w' => e = .returned (.int .i64 (-1)) ∧ Below w.heap.size w w' := by
  have hl := enc2 r h1 h3
  have hs : (Utf8.encode (r : Int)).size = 2 := by rw [size_list, hl]; rfl
  have hb := (last_byte _ _ hl 2 rfl 1 _ rfl (by omega)).2.trans (tail_byte r)
  have b0 : (128 : Int) ≤ r := by omega
  have b1 : (r : Int) ≤ 1114111 := by omega
  have b2 : (r : Int) ≠ 65533 := by omega
  exact isgn_far2 sgs _ (r : Int) w b0 b1 b2 hv rfl hs (128 + r % 64) hb (by omega) (by omega) sgs_size (sgs_at 1 _ (by omega)) (parts_idx 2 (by omega) _ (by omega) (by omega))
theorem isgn_b3 (r : Nat) (w : World) (hv : Utf8.valid (r : Int) = true) (h1 : 2048 ≤ r) (h3 : r ≤ 65535) (b1 : (r : Int) ≤ 1114111) (b2 : (r : Int) ≠ 65533) :
    Calls Tryz.prog 94 #[.string sgs, .int .i32 (r : Int)] w fun e w' => e = .returned (.int .i64 (-1)) ∧ Below w.heap.size w w' := by
  have hl := enc3 r h1 h3 hv
  have hs : (Utf8.encode (r : Int)).size = 3 := by rw [size_list, hl]; rfl
  have hb := (last_byte _ _ hl 3 rfl 2 _ rfl (by omega)).2.trans (tail_byte r)
  have b0 : (128 : Int) ≤ r := by omega
  exact isgn_far3 sgs _ (r : Int) w b0 b1 b2 hv rfl hs (128 + r % 64) hb (by omega) (by omega) sgs_size (sgs_at 2 _ (by omega)) (parts_idx 3 (by omega) _ (by omega) (by omega))
theorem isgn_b4 (r : Nat) (w : World) (hv : Utf8.valid (r : Int) = true) (h1 : 65536 ≤ r) (b1 : (r : Int) ≤ 1114111) (b2 : (r : Int) ≠ 65533) :
    Calls Tryz.prog 94 #[.string sgs, .int .i32 (r : Int)] w fun e w' => e = .returned (.int .i64 (-1)) ∧ Below w.heap.size w w' := by
  have hl := enc4 r h1 hv
  have hs : (Utf8.encode (r : Int)).size = 4 := by rw [size_list, hl]; rfl
  have hb := (last_byte _ _ hl 4 rfl 3 _ rfl (by omega)).2.trans (tail_byte r)
  have b0 : (128 : Int) ≤ r := by omega
  exact isgn_far4 sgs _ (r : Int) w b0 b1 b2 hv rfl hs (128 + r % 64) hb (by omega) (by omega) sgs_size (sgs_at 3 _ (by omega)) (parts_idx 4 (by omega) _ (by omega) (by omega))
theorem isgn_any (r : Nat) (w : World) (hv : Utf8.valid (r : Int) = true) :
    Calls Tryz.prog 94 #[.string sgs, .int .i32 (r : Int)] w fun e w' => e = .returned (.int .i64 (sgi r)) ∧ Below w.heap.size w w' := by
  by_cases h1 : r < 128
  · refine (isgn_low r w h1).mono ?_
    rintro e w' ⟨rfl, rfl⟩
    exact ⟨rfl, Below.refl _ _⟩
  rw [sgi_far r (by omega)]
  have hv2 := valid_two r hv
  have b1 : (r : Int) ≤ 1114111 := by omega
  by_cases b2 : (r : Int) = 65533
  · rw [b2]
    exact isgn_bad w
  by_cases h3 : r ≤ 2047
  · exact isgn_b2 r w hv (by omega) h3
  by_cases h4 : r ≤ 65535
  · exact isgn_b3 r w hv (by omega) h4 b1 b2
  · exact isgn_b4 r w hv (by omega) b1 b2
theorem sgi_sgn_low : ∀ r, r < 128 → decide (0 ≤ firstIdx sgs r.toUInt8) = sgn r := by decide +kernel
theorem sgi_sgn (r : Nat) : decide (0 ≤ sgi r) = sgn r := by
  by_cases h : r < 128
  · unfold sgi
    rw [if_pos h]
    exact sgi_sgn_low r h
  · rw [sgi_far r (by omega)]
    unfold sgn sgnL
    simp
    omega
set_option maxRecDepth 100000 in
theorem contS_any (r : Nat) (w : World) (hv : Utf8.valid (r : Int) = true) :
    Calls Tryz.prog 77 #[.string sgs, .int .i32 (r : Int)] w fun e w' => e = .returned (.bool (sgn r)) ∧ Below w.heap.size w w' := by
  have HC : Hid (∀ w', Calls Tryz.prog 94 #[.string sgs, .int .i32 (r : Int)] w' fun e w1 => e = .returned (.int .i64 (sgi r)) ∧ Below w'.heap.size w' w1) := fun w' => isgn_any r w' hv
  rw [← sgi_sgn]
  generalize sgi r = k at *
  generalize sgs = S at *
  clear hv
  go_enter Tryz.func77, Tryz.ntmps77
  go_wp2_with fail
  refine (HC.out _).mono ?_
  rintro e w1 ⟨rfl, hb⟩
  go_wp2
  go_ret
  exact ⟨by simp, hb⟩
set_option maxRecDepth 100000 in
theorem sign_any (r : Nat) (w : World) (hv : Utf8.valid (r : Int) = true) :
    Calls Tryz.prog 53 #[.int .i32 (r : Int)] w fun e w' => e = .returned (.bool (sgn r)) ∧ Below w.heap.size w w' := by
  have HC : Hid (∀ w', Calls Tryz.prog 77 #[.string sgs, .int .i32 (r : Int)] w' fun e w1 => e = .returned (.bool (sgn r)) ∧ Below w'.heap.size w' w1) := fun w' => contS_any r w' hv
  generalize sgn r = k at *
  unfold sgs at HC
  clear hv
  go_enter Tryz.func53, Tryz.ntmps53
  go_wp2_with fail
  refine (HC.out _).mono ?_
  rintro e w1 ⟨rfl, hb⟩
  go_wp2
  go_ret
  exact ⟨rfl, hb⟩
set_option maxRecDepth 100000 in
theorem blank_any (r : Nat) (w : World) : Calls Tryz.prog 31 #[.int .i32 (r : Int)] w fun e w' => e = .returned (.bool (blk r)) ∧ Below w.heap.size w w' := by
  by_cases h1 : r = 32
  · subst h1
    go_enter Tryz.func31, Tryz.ntmps31
    go_wp2
    go_ret
    exact ⟨rfl, Below.refl _ _⟩
  · by_cases h2 : r = 9
    · subst h2
      go_enter Tryz.func31, Tryz.ntmps31
      go_wp2
      go_ret
      exact ⟨rfl, Below.refl _ _⟩
    · have HE : Hid (blk r = false) := by
        show _ = _
        unfold blk
        rw [decide_eq_false h1, decide_eq_false h2]
        rfl
      have h3 : ¬ (r : Int) = 32 := by omega
      have h4 : ¬ (r : Int) = 9 := by omega
      have b3 : ((r : Int) == 32) = false := by simp [h3]
      have b4 : ((r : Int) == 9) = false := by simp [h4]
      rw [HE.out]
      go_enter Tryz.func31, Tryz.ntmps31
      go_wp2
      go_ret
      exact ⟨rfl, Below.refl _ _⟩
end Go.Proofs.YtcnnpohnfoaceaaGreatDoor.Text

/-
  TextOne: the law's walk.
-/
namespace Go.Proofs.YtcnnpohnfoaceaaGreatDoor.Text
open Go Go.RowKit Go.Lib
open Tx

theorem unq_yes (s : ByteArray) (a : Int) (h : (unq s a).2.2 = 0) : ∃ k e : Nat, a = (k : Int) ∧ (unq s a).2.1 = (e : Int) ∧ k < e ∧ e ≤ s.size ∧ quo (unq s a).1 = s.extract k e ∧ (unq s a).1.size ≤ 4 * s.size := by
  revert h
  unfold unq
  split
  · intro h; cases h
  · rename_i n1
    obtain ⟨k, rfl⟩ := Int.eq_ofNat_of_zero_le (by omega : 0 ≤ a)
    split
    · intro h; cases h
    · rename_i n2
      rw [Int.toNat_natCast] at *
      have hk : k < s.size := by omega
      have hfit := con_fits (s.extract (k + 1) s.size) _ 0 [] 0 (Nat.le_refl _) (by simp) (Nat.zero_le _)
      rw [size_cut s (k + 1) s.size (Nat.le_refl _)] at hfit
      generalize con (s.extract (k + 1) s.size) 0 [] 0 = X at *
      obtain ⟨x1, x2, x3⟩ := X
      dsimp only at *
      split
      · rename_i h3
        intro h
        have h' : (x3 : Int) = 0 := h
        omega
      · rename_i h3
        split
        · intro h; cases h
        · rename_i h4
          intro _
          refine ⟨k, k + 1 + x2, rfl, rfl, by omega, ?_, ?_, ?_⟩
          · have := hfit.2.1
            omega
          · exact Classical.not_not.1 h4
          · have := hfit.1
            show x1.size ≤ _
            omega
theorem unq_no (s : ByteArray) (a : Int) (h : (unq s a).2.2 ≠ 0) : (unq s a).1 = ⟨#[]⟩ ∧ (unq s a).2.1 = 0 := by
  revert h
  unfold unq
  split
  · intro _; exact ⟨rfl, rfl⟩
  · split
    · intro _; exact ⟨rfl, rfl⟩
    · split
      · intro _; exact ⟨rfl, rfl⟩
      · split
        · intro _; exact ⟨rfl, rfl⟩
        · intro h; exact (h rfl).elim
theorem con_a : con ⟨#[97, 34]⟩ 0 [] 0 = (⟨#[97]⟩, 2, 0) := by
  rw [← con_on ⟨#[97, 34]⟩ 0 [] 0 (by decide) (by decide) (by decide +kernel) (by decide +kernel) (by decide +kernel)]
  rw [show 0 + (Utf8.decode ⟨#[97, 34]⟩ 0).2 = 1 by decide +kernel, show [] ++ (Utf8.encode ((Utf8.decode ⟨#[97, 34]⟩ 0).1 : Int)).data.toList = [97] by decide +kernel]
  rw [con_q ⟨#[97, 34]⟩ 1 [97] 0 (by decide) (by decide) (by decide +kernel)]
theorem quo_a : quo ⟨#[97]⟩ = ⟨#[34, 97, 34]⟩ := by
  unfold quo
  rw [qs_in ⟨#[97]⟩ 0 (by decide), qs_out ⟨#[97]⟩ _ (by decide +kernel)]
  rw [show (pcW ⟨#[97]⟩ 0).data.toList = [97] by decide +kernel]
  rfl
theorem unq_a : unq ⟨#[34, 97, 34]⟩ 0 = (⟨#[97]⟩, 3, 0) := by
  unfold unq
  rw [if_neg (by decide), if_neg (by decide +kernel)]
  rw [show (⟨#[34, 97, 34]⟩ : ByteArray).extract ((0 : Int).toNat + 1) (⟨#[34, 97, 34]⟩ : ByteArray).size = ⟨#[97, 34]⟩ by decide +kernel, con_a]
  rw [if_neg (by decide), quo_a, if_neg (by decide +kernel)]
  rfl
end Go.Proofs.YtcnnpohnfoaceaaGreatDoor.Text

/-
  Package text, Words: where a word ends; what comes behind it.
-/
namespace Go.Proofs.YtcnnpohnfoaceaaGreatDoor.Text
open Go Go.RowKit
namespace Tx

theorem bnd_ascii (s : ByteArray) : ∀ (n p q : Nat), q - p ≤ n → p ≤ q → q < s.size → at' s q < 128 → ∃ m, offs s m p = q + 1 := by
  intro n
  induction n with
  | zero =>
    intro p q hn hpq hq ha
    obtain rfl : p = q := by omega
    refine ⟨1, ?_⟩
    rw [offs, if_pos hq, dec_asc s p ha]
    rfl
  | succ n ih =>
    intro p q hn hpq hq ha
    by_cases e : p = q
    · subst e
      refine ⟨1, ?_⟩
      rw [offs, if_pos hq, dec_asc s p ha]
      rfl
    · have hf := decode_fits s p (by omega)
      have hw : p + (Utf8.decode s p).2 ≤ q := by
        rcases Nat.lt_or_ge q (p + (Utf8.decode s p).2) with hlt | hge
        · have h9 := dec_tail s p (q - p) (by omega) (by omega)
          rw [show p + (q - p) = q by omega] at h9
          omega
        · exact hge
      obtain ⟨m, hm⟩ := ih (p + (Utf8.decode s p).2) q (by omega) hw hq ha
      refine ⟨m + 1, ?_⟩
      rw [offs, if_pos (by omega)]
      exact hm
theorem nEnd_bnd (s : ByteArray) : ∀ (n p : Nat), s.size - p ≤ n → p ≤ s.size → p ≤ nEnd s p ∧ nEnd s p ≤ s.size ∧ ∃ m, offs s m p = nEnd s p := by
  intro n
  induction n with
  | zero =>
    intro p hn hp
    rw [nEnd_out s p (by omega)]
    exact ⟨hp, Nat.le_refl _, 0, by show p = _; omega⟩
  | succ n ih =>
    intro p hn hp
    by_cases h : p < s.size
    · have hf := decode_fits s p h
      by_cases hr : nmR ((Utf8.decode s p).1 : Int) = true
      · obtain ⟨h1, h2, m, h3⟩ := ih (p + (Utf8.decode s p).2) (by omega) hf.2.1
        rw [nEnd_in s p h hr]
        exact ⟨by omega, h2, m + 1, by rw [offs, if_pos h]; exact h3⟩
      · rw [nEnd_no s p h (by simpa using hr)]
        exact ⟨Nat.le_refl _, hp, 0, rfl⟩
    · rw [nEnd_out s p h]
      exact ⟨hp, Nat.le_refl _, 0, by show p = _; omega⟩
theorem dEnd_digs (s : ByteArray) : ∀ (n p : Nat), s.size - p ≤ n → p ≤ s.size → p ≤ dEnd s p ∧ dEnd s p ≤ s.size ∧ (∀ q, p ≤ q → q < dEnd s p → dig (at' s q : Int) = true) ∧ (dEnd s p < s.size → dig (at' s (dEnd s p) : Int) = false) := by
  intro n
  induction n with
  | zero =>
    intro p hn hp
    rw [dEnd_out s p (by omega)]
    exact ⟨hp, Nat.le_refl _, fun q h1 h2 => by omega, fun h => by omega⟩
  | succ n ih =>
    intro p hn hp
    by_cases h : p < s.size
    · by_cases hr : dig (at' s p : Int) = true
      · obtain ⟨h1, h2, h3, h4⟩ := ih (p + 1) (by omega) (by omega)
        rw [dEnd_in s p h hr]
        refine ⟨by omega, h2, fun q hq hq2 => ?_, h4⟩
        by_cases e : q = p
        · rw [e]; exact hr
        · exact h3 q (by omega) hq2
      · have hr' : dig (at' s p : Int) = false := by simpa using hr
        rw [dEnd_no s p h hr']
        exact ⟨Nat.le_refl _, hp, fun q h1 h2 => by omega, fun _ => hr'⟩
    · rw [dEnd_out s p h]
      exact ⟨hp, Nat.le_refl _, fun q h1 h2 => by omega, fun h => by omega⟩
theorem dig_lt {c : Nat} (h : dig (c : Int) = true) : 48 ≤ c ∧ c ≤ 57 := by
  unfold dig at h
  simp only [Bool.and_eq_true, decide_eq_true_eq] at h
  omega
theorem among_nmR {r : Int} (h : among lets r = true) : nmR r = true := by
  unfold nmR
  rw [h, Bool.true_or]
theorem sgn_lt {r : Nat} (h : sgn r = true) : r < 128 ∧ r ≠ 35 := by
  unfold sgn sgnL at h
  simp at h
  omega
theorem quo_last (t : ByteArray) : at' (quo t) ((quo t).size - 1) < 128 := by
  have hs : (quo t).size = (qs t 0).length + 2 := by
    show (34 :: (qs t 0 ++ [34])).toArray.size = _
    simp
  have h9 : (quo t).toList[(qs t 0).length + 1]? = some ((quo t).get! ((qs t 0).length + 1)) := toList_get _ _ (by omega)
  have h8 : (quo t).toList = 34 :: (qs t 0 ++ [34]) := by
    rw [ByteArray.toList_eq]
    rfl
  rw [h8] at h9
  have h7 : (34 :: (qs t 0 ++ [34]))[(qs t 0).length + 1]? = some (34 : UInt8) := by
    rw [List.getElem?_cons_succ, List.getElem?_append_right (Nat.le_refl _), Nat.sub_self]
    rfl
  rw [h7] at h9
  have h6 := Option.some.inj h9
  rw [hs]
  show ((quo t).get! ((qs t 0).length + 2 - 1)).toNat < 128
  rw [show (qs t 0).length + 2 - 1 = (qs t 0).length + 1 by omega, ← h6]
  decide
theorem word_end (s : ByteArray) (i : Nat) (hi : i < s.size) (w : Wd) (e : Nat) (h : wordP s i = .inl (w, e)) : i < e ∧ e ≤ s.size ∧ ∃ m, offs s m i = e := by
  unfold wordP at h
  split at h
  · rename_i h1
    split at h
    · cases h
    · injection h with h
      injection h with h2 h3
      subst h3
      have hb := nEnd_bnd s s.size i (by omega) (by omega)
      refine ⟨?_, hb.2.1, hb.2.2⟩
      rw [nEnd_in s i hi (among_nmR h1)]
      have hf := decode_fits s i hi
      have := (nEnd_bnd s s.size (i + (Utf8.decode s i).2) (by omega) hf.2.1).1
      omega
  · split at h
    · rename_i h1
      obtain ⟨f, hf⟩ : ∃ f, f = nFrom s i := ⟨_, rfl⟩
      rw [← hf] at h
      have hfs : i ≤ f ∧ f ≤ s.size := by
        rw [hf]
        unfold nFrom
        split <;> omega
      split at h
      · cases h
      · rename_i h2
        split at h
        · cases h
        · injection h with h
          injection h with h3 h4
          subst h4
          have hd := dEnd_digs s s.size f (by omega) hfs.2
          have hq := hd.2.2.1 (dEnd s f - 1) (by omega) (by omega)
          have hl := dig_lt hq
          obtain ⟨m, hm⟩ := bnd_ascii s s.size i (dEnd s f - 1) (by omega) (by omega) (by omega) (by omega)
          exact ⟨by omega, hd.2.1, m, by rw [hm]; omega⟩
    · split at h
      · rename_i h1
        split at h
        · cases h
        · rename_i h2
          injection h with h
          injection h with h3 h4
          subst h4
          obtain ⟨k, e, e1, e2, e3, e4, e5, _⟩ := unq_yes s (i : Int) (Classical.not_not.1 h2)
          obtain rfl : k = i := by omega
          have he : (unq s (k : Int)).2.1.toNat = e := by omega
          rw [he]
          have h9 := quo_last (unq s (k : Int)).1
          rw [e5] at h9
          have hz := size_cut s k e e4
          rw [hz, at_cut s k e _ e4 (by omega), show k + (e - k - 1) = e - 1 by omega] at h9
          obtain ⟨m, hm⟩ := bnd_ascii s s.size k (e - 1) (by omega) (by omega) (by omega) (by omega)
          exact ⟨e3, e4, m, by rw [hm]; omega⟩
      · split at h
        · rename_i h1
          injection h with h
          injection h with h3 h4
          subst h4
          have hs := dec_small s i (sgn_lt h1).1
          refine ⟨by omega, by omega, 1, ?_⟩
          rw [offs, if_pos hi, hs.2]
          rfl
        · cases h
theorem wds_word (s : ByteArray) (i : Nat) (h : i < s.size) (h1 : ¬ at' s i = 35) (h2 : blk (at' s i) = false) (w : Wd) (e : Nat) (h3 : wordP s i = .inl (w, e)) : wds s i = fin [w] (bhd s w.k e) := by
  have he := word_end s i h w e h3
  have hm : max e (i + 1) = e := by omega
  rw [wds, dif_pos h, if_neg h1, if_neg (by simp [h2]), h3]
  simp only [hm]
  unfold fin
  by_cases hc : w.k ≠ 4 ∧ e < s.size ∧ at' s e ≠ 35 ∧ blk (at' s e) = false ∧ sgn (at' s e) = false
  · have her : ¬ (if stray s e = true then (21 : Int) else 22) = 0 := by split <;> decide
    rw [bhd_err s w.k e hc, if_pos hc]
    generalize (if stray s e = true then (21 : Int) else 22) = er at *
    rw [if_neg her]
  · have hb : bhd s w.k e = wds s e := by
      unfold bhd
      rw [if_neg hc]
    rw [hb, if_neg hc]
    by_cases h5 : (wds s e).2.1 = 0
    · rw [if_pos h5, if_pos h5, Prod.ext_iff]
      refine ⟨rfl, ?_⟩
      show (0, 0) = (wds s e).2
      rw [Prod.ext_iff]
      exact ⟨h5.symm, (wds_ok_place s s.size e (by omega) h5).symm⟩
    · rw [if_neg h5, if_neg h5]
theorem fin_fin (a b : List Wd) (r : List Wd × Int × Int) : fin a (fin b r) = fin (a ++ b) r := by
  unfold fin
  by_cases h : r.2.1 = 0
  · rw [if_pos h]
    simp only
    rw [if_pos h, if_pos h, List.append_assoc]
  · rw [if_neg h, if_neg h]
    simp only
    rw [if_neg h]
end Tx
end Go.Proofs.YtcnnpohnfoaceaaGreatDoor.Text

/-
  Package text: parts, behind.
-/
namespace Go.Proofs.YtcnnpohnfoaceaaGreatDoor.Text
open Go Go.RowKit
open Tx

set_option maxRecDepth 100000 in
theorem parts_any (r : Nat) (w : World) (hv : Utf8.valid (r : Int) = true) : Calls Tryz.prog 29 #[.int .i32 (r : Int)] w fun e w' => e = .returned (.bool (blk r || sgn r)) ∧ Below w.heap.size w w' := by
  have HB : Hid (∀ w', Calls Tryz.prog 31 #[.int .i32 (r : Int)] w' fun e w'' => e = .returned (.bool (blk r)) ∧ Below w'.heap.size w' w'') := fun w' => blank_any r w'
  have HS : Hid (∀ w', Calls Tryz.prog 53 #[.int .i32 (r : Int)] w' fun e w'' => e = .returned (.bool (sgn r)) ∧ Below w'.heap.size w' w'') := fun w' => sign_any r w' hv
  generalize sgn r = k at *
  clear hv
  cases hb : blk r with
  | true =>
    rw [hb] at HB
    go_enter Tryz.func29, Tryz.ntmps29
    go_wp2_with fail
    refine (HB.out _).mono ?_
    rintro e w1 ⟨rfl, b1⟩
    go_wp2
    go_ret
    exact ⟨by simp, b1⟩
  | false =>
    rw [hb] at HB
    go_enter Tryz.func29, Tryz.ntmps29
    go_wp2_with fail
    refine (HB.out _).mono ?_
    rintro e w1 ⟨rfl, b1⟩
    go_wp2_with fail
    refine (HS.out _).mono ?_
    rintro e w2 ⟨rfl, b2⟩
    have B2 := andThen b1 b2
    clear b1 b2
    go_wp2
    go_ret
    exact ⟨by simp, B2⟩
theorem dEnd_rune (s : ByteArray) (q : Nat) (h : q < s.size) (hr : dig ((Utf8.decode s q).1 : Int) = true) : dEnd s q = dEnd s (q + (Utf8.decode s q).2) := by
  have h9 := dec_small s q (by have := dig_lt hr; omega)
  rw [h9.2] at hr ⊢
  exact dEnd_in s q h hr
theorem dEnd_stop (s : ByteArray) (q : Nat) (h : q < s.size) (hr : dig ((Utf8.decode s q).1 : Int) = false) : dEnd s q = q := by
  refine dEnd_no s q h ?_
  by_cases ha : at' s q < 128
  · rw [dec_asc s q ha] at hr
    exact hr
  · unfold dig
    rw [decide_eq_false (p := ((at' s q : Nat) : Int) ≤ 57) (by omega), Bool.and_false]
set_option maxRecDepth 100000 in
set_option maxHeartbeats 2000000 in
theorem behindN_any (s : ByteArray) (a : Nat) (w : World) (ha : a ≤ s.size) (hs : s.size ≤ 2000000) (hT : TabP 0 .i32 lets w) :
    Calls Tryz.prog 80 #[.string s, .int .i64 (a : Int), .func (.func 81) #[] #[]] w fun e w' => e = .returned (.int .i64 (nEnd s a : Int)) ∧ Below w.heap.size w w' := by
  have HC : Hid (∀ (w' : World) (r : Int), Below w.heap.size w w' → Calls Tryz.prog 81 #[.int .i32 r] w' fun e w'' => e = .returned (.bool (nmR r)) ∧ Below w'.heap.size w' w'') := fun w' r hb => namer_any r w' (hT.kept hb)
  obtain ⟨A, hA⟩ : ∃ A : Nat, nEnd s a = A := ⟨_, rfl⟩
  rw [hA]
  obtain ⟨t, ht⟩ : ∃ t, t = s.extract a s.size := ⟨_, rfl⟩
  have htz : t.size = s.size - a := by rw [ht, size_cut s a s.size (Nat.le_refl _)]
  have HD : Hid (∀ p, p < t.size → Utf8.decode t p = Utf8.decode s (a + p)) := fun p hp => by
    rw [ht]
    exact decode_drop s a p (by omega)
  have HA : Hid (nEnd s (a + 0) = A) := hA
  have HI : Hid ((w.iter t 0).heap[w.heap.size]? = some (.stringIter t 0)) := World.iter_heap w t 0
  have HB : Hid (Below w.heap.size w (w.iter t 0)) := up_iter w t 0
  have HTE : Hid (s.extract a s.size = t) := ht.symm
  clear hA ht
  go_enter Tryz.func80, Tryz.ntmps80
  go_wp2
  rw [HTE.out]
  go_loopw [] (fun wr => ∃ (p : Nat), p ≤ t.size ∧ nEnd s (a + p) = A ∧ wr.heap[w.heap.size]? = some (.stringIter t p) ∧ Below w.heap.size w wr) (fun wr => t.size - wr.iterPos w.heap.size)
  case atStart => exact ⟨0, Nat.zero_le _, HA.out, HI.out, HB.out⟩
  case round =>
    obtain ⟨p, hp, hq, hit, hbel⟩ := hrel
    have HQ : Hid (nEnd s (a + p) = A) := hq
    have HPOS : Hid (wr.iterPos w.heap.size = p) := iter_pos hit
    clear HI HB HA hq
    by_cases hlt : p < t.size
    · have hdd := HD.out p hlt
      have hd := decode_fits t p hlt
      have hnx : ∀ ty, (Instr.next (.pointer (some ⟨w.heap.size, 0, none⟩)) true ty).run Tryz.prog wr = _ := fun ty => run_next_at wr w.heap.size t p ty hit hlt
      have HI2 : Hid ((setIter wr w.heap.size t (p + (Utf8.decode t p).2)).heap[w.heap.size]? = some (.stringIter t (p + (Utf8.decode t p).2))) := iter_at wr w.heap.size t _ _ hit
      have hB2 : Below w.heap.size w (setIter wr w.heap.size t (p + (Utf8.decode t p).2)) := below_iter hbel _ (Nat.le_refl _) t _
      have HY : Hid (nmR ((Utf8.decode t p).1 : Int) = true → nEnd s (a + (p + (Utf8.decode t p).2)) = A) := fun hr => by
        rw [hdd] at hr ⊢
        rw [← HQ.out]
        rw [show a + (p + (Utf8.decode s (a + p)).2) = a + p + (Utf8.decode s (a + p)).2 by omega]
        exact (nEnd_in s (a + p) (by omega) hr).symm
      have HN : Hid (nmR ((Utf8.decode t p).1 : Int) = false → (A : Int) = (a : Int) + (p : Int)) := fun hr => by
        rw [hdd] at hr
        rw [← HQ.out]
        rw [nEnd_no s (a + p) (by omega) hr]
        omega
      have hr1 := decode_le t p
      clear hbel hit hdd
      generalize setIter wr w.heap.size t (p + (Utf8.decode t p).2) = w2 at *
      obtain ⟨r, hr⟩ : ∃ r : Nat, (Utf8.decode t p).1 = r := ⟨_, rfl⟩
      rw [hr] at hnx HY HN hr1
      clear hr
      cases hnm : nmR (r : Int) with
      | false =>
        have HF : Hid ((A : Int) = (a : Int) + (p : Int)) := HN.out hnm
        have HNM : Hid (nmR (r : Int) = false) := hnm
        clear HY HN hnm HQ
        go_wp2_with fail
        refine (HC.out _ _ hB2).mono ?_
        rw [HNM.out]
        rintro e w3 ⟨rfl, b3⟩
        have hB3 := andThen hB2 b3
        clear b3
        go_wp2
        go_ret
        rw [HF.out]
        exact ⟨rfl, hB3⟩
      | true =>
        have HF : Hid (nEnd s (a + (p + (Utf8.decode t p).2)) = A) := HY.out hnm
        have HNM : Hid (nmR (r : Int) = true) := hnm
        clear HY HN hnm HQ
        generalize hwd : (Utf8.decode t p).2 = wd at *
        go_wp2_with fail
        refine (HC.out _ _ hB2).mono ?_
        rw [HNM.out]
        rintro e w3 ⟨rfl, b3⟩
        have HX : Hid (w3.heap[w.heap.size]? = some (.stringIter t (p + wd)) ∧ Below w.heap.size w w3) := ⟨by
          rw [b3.block w.heap.size (Array.getElem?_eq_some_iff.1 HI2.out).1]
          exact HI2.out, andThen hB2 b3⟩
        clear b3
        go_wp2
        go_roundw
        case rel => exact ⟨p + wd, by omega, HF.out, HX.out.1, HX.out.2⟩
        case measure => rw [iter_pos HX.out.1, HPOS.out]; omega
    · have hnx : ∀ ty, (Instr.next (.pointer (some ⟨w.heap.size, 0, none⟩)) true ty).run Tryz.prog wr = _ := fun ty => run_next_over wr w.heap.size t p ty hit hlt
      have HF : Hid (A = s.size) := by
        show A = s.size
        rw [← HQ.out]
        exact nEnd_out s _ (by omega)
      clear hit HQ
      go_wp2
      go_ret
      rw [HF.out]
      exact ⟨rfl, hbel⟩
set_option maxRecDepth 100000 in
set_option maxHeartbeats 2000000 in
theorem behindD_any (s : ByteArray) (a : Nat) (w : World) (ha : a ≤ s.size) (hs : s.size ≤ 2000000) :
    Calls Tryz.prog 80 #[.string s, .int .i64 (a : Int), .func (.func 57) #[] #[]] w fun e w' => e = .returned (.int .i64 (dEnd s a : Int)) ∧ Below w.heap.size w w' := by
  have HC : Hid (∀ (w' : World) (r : Int), Below w.heap.size w w' → Calls Tryz.prog 57 #[.int .i32 r] w' fun e w'' => e = .returned (.bool (dig r)) ∧ Below w'.heap.size w' w'') := fun w' r hb => (digit_any r w').mono fun e w'' ⟨he, hw⟩ => ⟨he, by rw [hw]; exact Below.refl _ _⟩
  obtain ⟨A, hA⟩ : ∃ A : Nat, dEnd s a = A := ⟨_, rfl⟩
  rw [hA]
  obtain ⟨t, ht⟩ : ∃ t, t = s.extract a s.size := ⟨_, rfl⟩
  have htz : t.size = s.size - a := by rw [ht, size_cut s a s.size (Nat.le_refl _)]
  have HD : Hid (∀ p, p < t.size → Utf8.decode t p = Utf8.decode s (a + p)) := fun p hp => by
    rw [ht]
    exact decode_drop s a p (by omega)
  have HA : Hid (dEnd s (a + 0) = A) := hA
  have HI : Hid ((w.iter t 0).heap[w.heap.size]? = some (.stringIter t 0)) := World.iter_heap w t 0
  have HB : Hid (Below w.heap.size w (w.iter t 0)) := up_iter w t 0
  have HTE : Hid (s.extract a s.size = t) := ht.symm
  clear hA ht
  go_enter Tryz.func80, Tryz.ntmps80
  go_wp2
  rw [HTE.out]
  go_loopw [] (fun wr => ∃ (p : Nat), p ≤ t.size ∧ dEnd s (a + p) = A ∧ wr.heap[w.heap.size]? = some (.stringIter t p) ∧ Below w.heap.size w wr) (fun wr => t.size - wr.iterPos w.heap.size)
  case atStart => exact ⟨0, Nat.zero_le _, HA.out, HI.out, HB.out⟩
  case round =>
    obtain ⟨p, hp, hq, hit, hbel⟩ := hrel
    have HQ : Hid (dEnd s (a + p) = A) := hq
    have HPOS : Hid (wr.iterPos w.heap.size = p) := iter_pos hit
    clear HI HB HA hq
    by_cases hlt : p < t.size
    · have hdd := HD.out p hlt
      have hd := decode_fits t p hlt
      have hnx : ∀ ty, (Instr.next (.pointer (some ⟨w.heap.size, 0, none⟩)) true ty).run Tryz.prog wr = _ := fun ty => run_next_at wr w.heap.size t p ty hit hlt
      have HI2 : Hid ((setIter wr w.heap.size t (p + (Utf8.decode t p).2)).heap[w.heap.size]? = some (.stringIter t (p + (Utf8.decode t p).2))) := iter_at wr w.heap.size t _ _ hit
      have hB2 : Below w.heap.size w (setIter wr w.heap.size t (p + (Utf8.decode t p).2)) := below_iter hbel _ (Nat.le_refl _) t _
      have HY : Hid (dig ((Utf8.decode t p).1 : Int) = true → dEnd s (a + (p + (Utf8.decode t p).2)) = A) := fun hr => by
        rw [hdd] at hr ⊢
        rw [← HQ.out]
        rw [show a + (p + (Utf8.decode s (a + p)).2) = a + p + (Utf8.decode s (a + p)).2 by omega]
        exact (dEnd_rune s (a + p) (by omega) hr).symm
      have HN : Hid (dig ((Utf8.decode t p).1 : Int) = false → (A : Int) = (a : Int) + (p : Int)) := fun hr => by
        rw [hdd] at hr
        rw [← HQ.out]
        rw [dEnd_stop s (a + p) (by omega) hr]
        omega
      have hr1 := decode_le t p
      clear hbel hit hdd
      generalize setIter wr w.heap.size t (p + (Utf8.decode t p).2) = w2 at *
      obtain ⟨r, hr⟩ : ∃ r : Nat, (Utf8.decode t p).1 = r := ⟨_, rfl⟩
      rw [hr] at hnx HY HN hr1
      clear hr
      cases hnm : dig (r : Int) with
      | false =>
        have HF : Hid ((A : Int) = (a : Int) + (p : Int)) := HN.out hnm
        have HNM : Hid (dig (r : Int) = false) := hnm
        clear HY HN hnm HQ
        go_wp2_with fail
        refine (HC.out _ _ hB2).mono ?_
        rw [HNM.out]
        rintro e w3 ⟨rfl, b3⟩
        have hB3 := andThen hB2 b3
        clear b3
        go_wp2
        go_ret
        rw [HF.out]
        exact ⟨rfl, hB3⟩
      | true =>
        have HF : Hid (dEnd s (a + (p + (Utf8.decode t p).2)) = A) := HY.out hnm
        have HNM : Hid (dig (r : Int) = true) := hnm
        clear HY HN hnm HQ
        generalize hwd : (Utf8.decode t p).2 = wd at *
        go_wp2_with fail
        refine (HC.out _ _ hB2).mono ?_
        rw [HNM.out]
        rintro e w3 ⟨rfl, b3⟩
        have HX : Hid (w3.heap[w.heap.size]? = some (.stringIter t (p + wd)) ∧ Below w.heap.size w w3) := ⟨by
          rw [b3.block w.heap.size (Array.getElem?_eq_some_iff.1 HI2.out).1]
          exact HI2.out, andThen hB2 b3⟩
        clear b3
        go_wp2
        go_roundw
        case rel => exact ⟨p + wd, by omega, HF.out, HX.out.1, HX.out.2⟩
        case measure => rw [iter_pos HX.out.1, HPOS.out]; omega
    · have hnx : ∀ ty, (Instr.next (.pointer (some ⟨w.heap.size, 0, none⟩)) true ty).run Tryz.prog wr = _ := fun ty => run_next_over wr w.heap.size t p ty hit hlt
      have HF : Hid (A = s.size) := by
        show A = s.size
        rw [← HQ.out]
        exact dEnd_out s _ (by omega)
      clear hit HQ
      go_wp2
      go_ret
      rw [HF.out]
      exact ⟨rfl, hbel⟩
end Go.Proofs.YtcnnpohnfoaceaaGreatDoor.Text

/-
  Package text: name, number, literal.
-/
namespace Go.Proofs.YtcnnpohnfoaceaaGreatDoor.Text
open Go Go.RowKit
open Tx

def Tx.zeroW : Wd := ⟨0, 0, ⟨#[]⟩, 0⟩
def Tx.wdv (d : Wd) : Value := .agg #[.int .i64 d.k, .int .i64 d.at_, .string d.t, .int .i64 d.n]
/-- a word in a block -/
def Wx (w : World) (g : Nat) (d : Wd) : Prop := ∃ t, w.heap[g]? = some (.cells #[.int .i64 d.k, .int .i64 d.at_, .string d.t, .int .i64 d.n] t)
theorem Wx.cells {w : World} {g : Nat} {d : Wd} (h : Wx w g d) : w.cell? ⟨g, 0, none⟩ = some (.int .i64 d.k) ∧ w.cell? ⟨g, 1, none⟩ = some (.int .i64 d.at_) ∧ w.cell? ⟨g, 2, none⟩ = some (.string d.t) ∧ w.cell? ⟨g, 3, none⟩ = some (.int .i64 d.n) := by
  obtain ⟨t, h⟩ := h
  unfold World.cell?
  rw [h]
  exact ⟨rfl, rfl, rfl, rfl⟩
theorem Wx.frozen {w : World} {g : Nat} {d : Wd} (h : Wx w g d) (j : Nat) : w.frozen? ⟨g, j, none⟩ = false := by
  obtain ⟨t, h⟩ := h
  unfold World.frozen?
  rw [h]
  simp
theorem Wx.block {w w' : World} {g : Nat} {d : Wd} (h : Wx w g d) (e : w'.heap[g]? = w.heap[g]?) : Wx w' g d := by
  obtain ⟨t, h⟩ := h
  exact ⟨t, e.trans h⟩
def store4 (w : World) (g : Nat) (d : Wd) : World := (((w.setCell ⟨g, 0, none⟩ (.int .i64 d.k)).setCell ⟨g, 1, none⟩ (.int .i64 d.at_)).setCell ⟨g, 2, none⟩ (.string d.t)).setCell ⟨g, 3, none⟩ (.int .i64 d.n)
theorem Wx.store {w : World} {g : Nat} {d : Wd} (h : Wx w g d) (d' : Wd) : Wx (store4 w g d') g d' := by
  obtain ⟨t, h⟩ := h
  refine ⟨t, ?_⟩
  simp only [store4, World.setCell, Array.getElem?_modify, if_true, h]
  rfl
theorem store4_below {B : Nat} {w0 w : World} {g : Nat} (h : Below B w0 w) (hA : B ≤ g) (d : Wd) : Below B w0 (store4 w g d) := (((h.setCell (p := ⟨g, 0, none⟩) hA _).setCell (p := ⟨g, 1, none⟩) hA _).setCell (p := ⟨g, 2, none⟩) hA _).setCell (p := ⟨g, 3, none⟩) hA _
theorem wx_new (w : World) (d : Wd) (t : TypeId) : Wx (w.alloc (.cells #[.int .i64 d.k, .int .i64 d.at_, .string d.t, .int .i64 d.n] t)) w.heap.size d := ⟨t, Array.getElem?_push_size⟩
theorem heapW (w : World) (o : Obj) : (w.alloc o).heap.size = w.heap.size + 1 := Array.size_push _
/-- what a call of this package answers, of a word or an error -/
def Tx.wans (r : (Wd × Nat) ⊕ (Int × Int)) : Value :=
  match r with
  | .inl (d, e) => .tuple #[wdv d, .int .i64 (e : Int), .int .i64 0]
  | .inr (e, p) => .tuple #[wdv zeroW, .int .i64 p, .int .i64 e]
theorem cell_lt {w : World} {g j : Nat} {v : Value} (h : w.cell? ⟨g, j, none⟩ = some v) : g < w.heap.size := by
  rcases Nat.lt_or_ge g w.heap.size with h1 | h1
  · exact h1
  · simp [World.cell?, Array.getElem?_eq_none h1] at h
theorem nmE_place (s : ByteArray) : ∀ (k n p : Nat), s.size - p ≤ k → 0 ≤ (nmE s n p).2 ∧ (nmE s n p).2 ≤ s.size ∧ 0 ≤ (nmE s n p).1 ∧ (nmE s n p).1 ≤ 23 := by
  intro k
  induction k with
  | zero => intro n p h; rw [nmE_out s n p (by omega)]; exact ⟨by decide, by simp, by decide, by decide⟩
  | succ k ih =>
    intro n p h
    by_cases hp : p < s.size
    · by_cases hn : 48 ≤ n
      · rw [nmE_long s n p hp hn]; exact ⟨by simp, by simp; omega, by simp, by simp⟩
      · cases hst : stray s p with
        | true => rw [nmE_stray s n p hp hn hst]; exact ⟨by simp, by simp; omega, by simp, by simp⟩
        | false =>
          by_cases hb : (p = 0 ∧ among lets ((Utf8.decode s p).1 : Int) = false) ∨ nmR ((Utf8.decode s p).1 : Int) = false
          · rw [nmE_bad s n p hp hn hst hb]; exact ⟨by simp, by simp; omega, by simp, by simp⟩
          · rw [nmE_step s n p hp hn hst hb]
            have := decode_fits s p hp
            exact ih (n + 1) _ (by omega)
    · rw [nmE_out s n p hp]; exact ⟨by decide, by simp, by decide, by decide⟩
theorem nmA_place (s : ByteArray) : 0 ≤ (nmA s).2 ∧ (nmA s).2 ≤ s.size ∧ 0 ≤ (nmA s).1 ∧ (nmA s).1 ≤ 23 := by
  unfold nmA
  split
  · exact ⟨by decide, by simp, by decide, by decide⟩
  · exact nmE_place s s.size 0 0 (by omega)
set_option maxRecDepth 100000 in
set_option maxHeartbeats 2000000 in
theorem wname_any (s : ByteArray) (i : Nat) (w : World) (hi : i < s.size) (hs : s.size ≤ 2000000) (hT : TabP 0 .i32 lets w) (hl : among lets ((Utf8.decode s i).1 : Int) = true) :
    Calls Tryz.prog 56 #[.string s, .int .i64 (i : Int)] w fun e w' => e = .returned (wans (wordP s i)) ∧ Below w.heap.size w w' := by
  have HE : Hid (wordP s i = if (nmA (s.extract i (nEnd s i))).1 ≠ 0 then .inr ((nmA (s.extract i (nEnd s i))).1, (i : Int) + (nmA (s.extract i (nEnd s i))).2) else .inl (⟨1, (i : Int), s.extract i (nEnd s i), 0⟩, nEnd s i)) := by
    show _ = _
    unfold wordP
    rw [if_pos hl]
  have HBH : Hid (∀ w', Below w.heap.size w w' → Calls Tryz.prog 80 #[.string s, .int .i64 (i : Int), .func (.func 81) #[] #[]] w' fun e w'' => e = .returned (.int .i64 (nEnd s i : Int)) ∧ Below w'.heap.size w' w'') := fun w' hb => behindN_any s i w' (by omega) hs (hT.kept hb)
  have HNM : Hid (∀ w', Below w.heap.size w w' → Calls Tryz.prog 62 #[.string (s.extract i (nEnd s i))] w' fun e w'' => e = .returned (.tuple #[.int .i64 (nmA (s.extract i (nEnd s i))).1, .int .i64 (nmA (s.extract i (nEnd s i))).2]) ∧ Below w'.heap.size w' w'') := fun w' hb => name_any _ w' (by have h9 := (nEnd_bnd s s.size i (by omega) (by omega)).2.1; rw [size_cut s i _ h9]; omega) (hT.kept hb)
  have hb := nEnd_bnd s s.size i (by omega) (by omega)
  have hE1 := hb.1
  have hE2 := hb.2.1
  have hN := nmA_place (s.extract i (nEnd s i))
  rw [size_cut s i _ hE2] at hN
  rw [HE.out]
  clear HE hb hT hl
  generalize nmA (s.extract i (nEnd s i)) = NA at *
  obtain ⟨ne, np⟩ := NA
  simp only at HNM hN ⊢
  generalize nEnd s i = E at *
  go_enter Tryz.func56, Tryz.ntmps56
  go_wp2_with fail
  refine (HBH.out _ (up0 w _)).mono ?_
  rintro e w1 ⟨rfl, b1⟩
  have HX1 : Hid (Wx w1 w.heap.size zeroW ∧ Below w.heap.size w w1) := ⟨(wx_new w zeroW 55).block (b1.block _ (by rw [heapW]; omega)), andThen (up0 w _) b1⟩
  clear b1 HBH
  go_wp2_with fail
  refine (HNM.out _ HX1.out.2).mono ?_
  rintro e w2 ⟨rfl, b2⟩
  have HX : Hid (Wx w2 w.heap.size zeroW ∧ Below w.heap.size w w2) := ⟨HX1.out.1.block (b2.block _ (by
    obtain ⟨t, h9⟩ := HX1.out.1
    exact (Array.getElem?_eq_some_iff.1 h9).1)), andThen HX1.out.2 b2⟩
  clear b2 HNM HX1
  by_cases hne : ne = 0
  · subst hne
    obtain ⟨q0, q1, q2, q3⟩ := HX.out.1.cells
    simp only [zeroW] at q0 q1 q2 q3
    have z0 := HX.out.1.frozen 0
    have z1 := HX.out.1.frozen 1
    have z2 := HX.out.1.frozen 2
    have z3 := HX.out.1.frozen 3
    have HEN : Hid (Wx (store4 w2 w.heap.size ⟨1, (i : Int), (s.extract i E), 0⟩) w.heap.size ⟨1, (i : Int), (s.extract i E), 0⟩ ∧ Below w.heap.size w (store4 w2 w.heap.size ⟨1, (i : Int), (s.extract i E), 0⟩)) := ⟨HX.out.1.store _, store4_below HX.out.2 (Nat.le_refl _) _⟩
    clear HX
    go_wp2
    obtain ⟨WE, hWE⟩ : ∃ WE, WE = store4 w2 w.heap.size ⟨1, (i : Int), (s.extract i E), 0⟩ := ⟨_, rfl⟩
    rw [← hWE] at HEN
    have hWE2 : WE = ((((w2.setCell ⟨w.heap.size, 0, none⟩ (.int .i64 1)).setCell ⟨w.heap.size, 1, none⟩ (.int .i64 (i : Int))).setCell ⟨w.heap.size, 2, none⟩ (.string (s.extract i E))).setCell ⟨w.heap.size, 3, none⟩ (.int .i64 0)) := hWE
    rw [← hWE2]
    clear hWE hWE2 q0 q1 q2 q3 z0 z1 z2 z3
    obtain ⟨y0, y1, y2, y3⟩ := HEN.out.1.cells
    simp only at y0 y1 y2 y3
    (try simp only [Exit.inBlock, Exit.then])
    refine bodyPost_ret (by simp [results, Tryz.results56, go_sem, y0, y1, y2, y3]; try rfl) rfl ?_
    exact ⟨rfl, HEN.out.2⟩
  · have hne' : (ne != 0) = true := by simp [hne]
    obtain ⟨q0, q1, q2, q3⟩ := HX.out.1.cells
    simp only [zeroW] at q0 q1 q2 q3
    have z0 := HX.out.1.frozen 0
    have z1 := HX.out.1.frozen 1
    have z2 := HX.out.1.frozen 2
    have z3 := HX.out.1.frozen 3
    have HEN : Hid (Wx (store4 w2 w.heap.size ⟨0, 0, ⟨#[]⟩, 0⟩) w.heap.size ⟨0, 0, ⟨#[]⟩, 0⟩ ∧ Below w.heap.size w (store4 w2 w.heap.size ⟨0, 0, ⟨#[]⟩, 0⟩)) := ⟨HX.out.1.store _, store4_below HX.out.2 (Nat.le_refl _) _⟩
    clear HX
    go_wp2
    obtain ⟨WE, hWE⟩ : ∃ WE, WE = store4 w2 w.heap.size ⟨0, 0, ⟨#[]⟩, 0⟩ := ⟨_, rfl⟩
    rw [← hWE] at HEN
    have hWE2 : WE = ((((w2.setCell ⟨w.heap.size, 0, none⟩ (.int .i64 0)).setCell ⟨w.heap.size, 1, none⟩ (.int .i64 0)).setCell ⟨w.heap.size, 2, none⟩ (.string ⟨#[]⟩)).setCell ⟨w.heap.size, 3, none⟩ (.int .i64 0)) := hWE
    rw [← hWE2]
    clear hWE hWE2 q0 q1 q2 q3 z0 z1 z2 z3
    obtain ⟨y0, y1, y2, y3⟩ := HEN.out.1.cells
    simp only at y0 y1 y2 y3
    (try simp only [Exit.inBlock, Exit.then])
    refine bodyPost_ret (by simp [results, Tryz.results56, go_sem, y0, y1, y2, y3]; try rfl) rfl ?_
    exact ⟨rfl, HEN.out.2⟩
set_option maxRecDepth 100000 in
set_option maxHeartbeats 2000000 in
theorem wlit_any (s : ByteArray) (i : Nat) (w : World) (hs : s.size ≤ 2000000) (hT : TabP 7 .i32 hids w) (hD : w.cell? ⟨9, 15, none⟩ = some (.int .u8 4)) (hl : among lets ((Utf8.decode s i).1 : Int) = false) (h34 : (Utf8.decode s i).1 = 34) :
    Calls Tryz.prog 59 #[.string s, .int .i64 (i : Int)] w fun e w' => e = .returned (wans (wordP s i)) ∧ Below w.heap.size w w' := by
  have HE : Hid (wordP s i = if (unq s (i : Int)).2.2 ≠ 0 then .inr ((unq s (i : Int)).2.2, (i : Int)) else .inl (⟨3, (i : Int), (unq s (i : Int)).1, 0⟩, (unq s (i : Int)).2.1.toNat)) := by
    show _ = _
    unfold wordP
    rw [if_neg (by simp [hl]), if_neg (by rw [h34]; decide), if_pos h34]
  have HU : Hid (∀ w', Below w.heap.size w w' → Calls Tryz.prog 83 #[.string s, .int .i64 (i : Int)] w' fun e w'' => e = .returned (.tuple #[.string (unq s (i : Int)).1, .int .i64 (unq s (i : Int)).2.1, .int .i64 (unq s (i : Int)).2.2]) ∧ Below w'.heap.size w' w'') := fun w' hb => unq_any s (i : Int) w' hs (hT.kept hb) (by rw [← hD]; exact World.cell?_of_block (hb.block _ (cell_lt hD)))
  have HP : Hid ((unq s (i : Int)).2.2 = 0 → ((unq s (i : Int)).2.1.toNat : Int) = (unq s (i : Int)).2.1) := fun h0 => by
    obtain ⟨k, e, _, e2, _⟩ := unq_yes s (i : Int) h0
    omega
  rw [HE.out]
  clear HE hT hD hl h34
  generalize unq s (i : Int) = U at *
  obtain ⟨ut, ue, uc⟩ := U
  simp only at HU HP ⊢
  go_enter Tryz.func59, Tryz.ntmps59
  go_wp2_with fail
  refine (HU.out _ (up0 w _)).mono ?_
  rintro e w2 ⟨rfl, b2⟩
  have HX : Hid (Wx w2 w.heap.size zeroW ∧ Below w.heap.size w w2) := ⟨(wx_new w zeroW 55).block (b2.block _ (by rw [heapW]; omega)), andThen (up0 w _) b2⟩
  clear b2 HU
  by_cases hne : uc = 0
  · subst hne
    obtain ⟨q0, q1, q2, q3⟩ := HX.out.1.cells
    simp only [zeroW] at q0 q1 q2 q3
    have z0 := HX.out.1.frozen 0
    have z1 := HX.out.1.frozen 1
    have z2 := HX.out.1.frozen 2
    have z3 := HX.out.1.frozen 3
    have HEN : Hid (Wx (store4 w2 w.heap.size ⟨3, (i : Int), ut, 0⟩) w.heap.size ⟨3, (i : Int), ut, 0⟩ ∧ Below w.heap.size w (store4 w2 w.heap.size ⟨3, (i : Int), ut, 0⟩)) := ⟨HX.out.1.store _, store4_below HX.out.2 (Nat.le_refl _) _⟩
    clear HX
    go_wp2
    obtain ⟨WE, hWE⟩ : ∃ WE, WE = store4 w2 w.heap.size ⟨3, (i : Int), ut, 0⟩ := ⟨_, rfl⟩
    rw [← hWE] at HEN
    have hWE2 : WE = ((((w2.setCell ⟨w.heap.size, 0, none⟩ (.int .i64 3)).setCell ⟨w.heap.size, 1, none⟩ (.int .i64 (i : Int))).setCell ⟨w.heap.size, 2, none⟩ (.string ut)).setCell ⟨w.heap.size, 3, none⟩ (.int .i64 0)) := hWE
    rw [← hWE2]
    clear hWE hWE2 q0 q1 q2 q3 z0 z1 z2 z3
    obtain ⟨y0, y1, y2, y3⟩ := HEN.out.1.cells
    simp only at y0 y1 y2 y3
    (try simp only [Exit.inBlock, Exit.then])
    refine bodyPost_ret (by simp [results, Tryz.results59, go_sem, y0, y1, y2, y3]; try rfl) rfl ?_
    exact ⟨by show _ = Ending.returned (.tuple #[_, .int .i64 (ue.toNat : Int), _]); rw [HP.out (by simp)]; rfl, HEN.out.2⟩
  · have hne' : (uc != 0) = true := by simp [hne]
    obtain ⟨q0, q1, q2, q3⟩ := HX.out.1.cells
    simp only [zeroW] at q0 q1 q2 q3
    have z0 := HX.out.1.frozen 0
    have z1 := HX.out.1.frozen 1
    have z2 := HX.out.1.frozen 2
    have z3 := HX.out.1.frozen 3
    have HEN : Hid (Wx (store4 w2 w.heap.size ⟨0, 0, ⟨#[]⟩, 0⟩) w.heap.size ⟨0, 0, ⟨#[]⟩, 0⟩ ∧ Below w.heap.size w (store4 w2 w.heap.size ⟨0, 0, ⟨#[]⟩, 0⟩)) := ⟨HX.out.1.store _, store4_below HX.out.2 (Nat.le_refl _) _⟩
    clear HX
    go_wp2
    obtain ⟨WE, hWE⟩ : ∃ WE, WE = store4 w2 w.heap.size ⟨0, 0, ⟨#[]⟩, 0⟩ := ⟨_, rfl⟩
    rw [← hWE] at HEN
    have hWE2 : WE = ((((w2.setCell ⟨w.heap.size, 0, none⟩ (.int .i64 0)).setCell ⟨w.heap.size, 1, none⟩ (.int .i64 0)).setCell ⟨w.heap.size, 2, none⟩ (.string ⟨#[]⟩)).setCell ⟨w.heap.size, 3, none⟩ (.int .i64 0)) := hWE
    rw [← hWE2]
    clear hWE hWE2 q0 q1 q2 q3 z0 z1 z2 z3
    obtain ⟨y0, y1, y2, y3⟩ := HEN.out.1.cells
    simp only at y0 y1 y2 y3
    (try simp only [Exit.inBlock, Exit.then])
    refine bodyPost_ret (by simp [results, Tryz.results59, go_sem, y0, y1, y2, y3]; try rfl) rfl ?_
    exact ⟨rfl, HEN.out.2⟩
end Go.Proofs.YtcnnpohnfoaceaaGreatDoor.Text
