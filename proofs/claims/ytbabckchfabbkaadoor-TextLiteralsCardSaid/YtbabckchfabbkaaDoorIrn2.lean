/-
  The library: strings.IndexRune over the sixteen digits, at a rune of two bytes and more.
-/
import Derived.Test.YtbabckchfabbkaaDoorIrn1
import Derived.WalkMore
import Derived.BigQuiet
namespace Go.Proofs.YtbabckchfabbkaaDoor
open Go Go.RowKit Go.Lib
open Tx
set_option maxRecDepth 100000 in
set_option maxHeartbeats 2000000 in
theorem irune_far2 (S E : ByteArray) (x : Int) (w : World) (h : 128 ≤ x) (h1 : x ≤ 1114111) (h2 : x ≠ 65533) (hv : Utf8.valid x = true) (hE : Utf8.encode x = E) (hn : E.size = 2) (c : Nat) (hc : (E[1]'(by omega)).toNat = c) (hc0 : 128 ≤ c) (hc1 : c < 256)
    (hx1 : S.size = 16) (hx2 : (S[1]'(by omega)).toNat = 49) (HI : Hid (∀ w', Calls Tryd.prog 78 #[.string (S.extract 2 16), .int .u8 (c : Int)] w' fun e w1 => e = .returned (.int .i64 (-1)) ∧ w1 = w')) :
    Calls Tryd.prog 80 #[.string S, .int .i32 x] w fun e w' => e = .returned (.int .i64 (-1)) ∧ Below w.heap.size w w' := by
  have hcv : ∀ w', (convert 21 9 (.int .i32 x)).run Tryd.prog w' = .ok (.string E) w' := fun w' => by rw [← hE]; exact run_convert_int_string w' 21 9 .i32 x (by kernel_rfl) Tryd.underlying9
  have hw2 : IntKind.i64.wrap 2 = 2 := by decide
  have HV : Hid (Utf8.valid x = true) := hv
  clear hv
  go_enter Tryd.func80, Tryd.ntmps80
  go_wp2_with fail
  refine (validRune_any _ _).mono ?_
  rw [HV.out]
  rintro e w1 ⟨rfl, rfl⟩
  go_wp2
  go_step3
  go_wp2
  go_loopw [9, 10] (fun i k wr => i = .int .i64 1 ∧ k = .int .i64 0 ∧ wr = w1) (fun _ _ _ => 0)
  case atStart => exact ⟨by go_num, rfl, rfl⟩
  case round =>
    obtain ⟨rfl, rfl, rfl⟩ := hrel
    go_wp2
    go_step3
    go_wp2
    go_quiet (fail)
    have B5 := below_drewN (Below.refl wr.heap.size wr) nq
    generalize wr.drewN nq = w5 at *
    go_wp2
    go_quiet (first | (go_at_call 78; refine Calls.quiet_of_same (HI.out _)))
    go_wp2
    dsimp +zetaDelta only [Exit.noGoto, Exit.inBlock, Exit.then]
    go_ret
    exact ⟨rfl, below_drewN B5 _⟩
set_option maxRecDepth 100000 in
set_option maxHeartbeats 2000000 in
theorem irune_far3 (S E : ByteArray) (x : Int) (w : World) (h : 128 ≤ x) (h1 : x ≤ 1114111) (h2 : x ≠ 65533) (hv : Utf8.valid x = true) (hE : Utf8.encode x = E) (hn : E.size = 3) (c : Nat) (hc : (E[2]'(by omega)).toNat = c) (hc0 : 128 ≤ c) (hc1 : c < 256)
    (hx1 : S.size = 16) (hx2 : (S[2]'(by omega)).toNat = 50) (HI : Hid (∀ w', Calls Tryd.prog 78 #[.string (S.extract 3 16), .int .u8 (c : Int)] w' fun e w1 => e = .returned (.int .i64 (-1)) ∧ w1 = w')) :
    Calls Tryd.prog 80 #[.string S, .int .i32 x] w fun e w' => e = .returned (.int .i64 (-1)) ∧ Below w.heap.size w w' := by
  have hcv : ∀ w', (convert 21 9 (.int .i32 x)).run Tryd.prog w' = .ok (.string E) w' := fun w' => by rw [← hE]; exact run_convert_int_string w' 21 9 .i32 x (by kernel_rfl) Tryd.underlying9
  have hw2 : IntKind.i64.wrap 3 = 3 := by decide
  have HV : Hid (Utf8.valid x = true) := hv
  clear hv
  go_enter Tryd.func80, Tryd.ntmps80
  go_wp2_with fail
  refine (validRune_any _ _).mono ?_
  rw [HV.out]
  rintro e w1 ⟨rfl, rfl⟩
  go_wp2
  go_step3
  go_wp2
  go_loopw [9, 10] (fun i k wr => i = .int .i64 2 ∧ k = .int .i64 0 ∧ wr = w1) (fun _ _ _ => 0)
  case atStart => exact ⟨by go_num, rfl, rfl⟩
  case round =>
    obtain ⟨rfl, rfl, rfl⟩ := hrel
    go_wp2
    go_step3
    go_wp2
    go_quiet (fail)
    have B5 := below_drewN (Below.refl wr.heap.size wr) nq
    generalize wr.drewN nq = w5 at *
    go_wp2
    go_quiet (first | (go_at_call 78; refine Calls.quiet_of_same (HI.out _)))
    go_wp2
    dsimp +zetaDelta only [Exit.noGoto, Exit.inBlock, Exit.then]
    go_ret
    exact ⟨rfl, below_drewN B5 _⟩
set_option maxRecDepth 100000 in
set_option maxHeartbeats 2000000 in
theorem irune_far4 (S E : ByteArray) (x : Int) (w : World) (h : 128 ≤ x) (h1 : x ≤ 1114111) (h2 : x ≠ 65533) (hv : Utf8.valid x = true) (hE : Utf8.encode x = E) (hn : E.size = 4) (c : Nat) (hc : (E[3]'(by omega)).toNat = c) (hc0 : 128 ≤ c) (hc1 : c < 256)
    (hx1 : S.size = 16) (hx2 : (S[3]'(by omega)).toNat = 51) (HI : Hid (∀ w', Calls Tryd.prog 78 #[.string (S.extract 4 16), .int .u8 (c : Int)] w' fun e w1 => e = .returned (.int .i64 (-1)) ∧ w1 = w')) :
    Calls Tryd.prog 80 #[.string S, .int .i32 x] w fun e w' => e = .returned (.int .i64 (-1)) ∧ Below w.heap.size w w' := by
  have hcv : ∀ w', (convert 21 9 (.int .i32 x)).run Tryd.prog w' = .ok (.string E) w' := fun w' => by rw [← hE]; exact run_convert_int_string w' 21 9 .i32 x (by kernel_rfl) Tryd.underlying9
  have hw2 : IntKind.i64.wrap 4 = 4 := by decide
  have HV : Hid (Utf8.valid x = true) := hv
  clear hv
  go_enter Tryd.func80, Tryd.ntmps80
  go_wp2_with fail
  refine (validRune_any _ _).mono ?_
  rw [HV.out]
  rintro e w1 ⟨rfl, rfl⟩
  go_wp2
  go_step3
  go_wp2
  go_loopw [9, 10] (fun i k wr => i = .int .i64 3 ∧ k = .int .i64 0 ∧ wr = w1) (fun _ _ _ => 0)
  case atStart => exact ⟨by go_num, rfl, rfl⟩
  case round =>
    obtain ⟨rfl, rfl, rfl⟩ := hrel
    go_wp2
    go_step3
    go_wp2
    go_quiet (fail)
    have B5 := below_drewN (Below.refl wr.heap.size wr) nq
    generalize wr.drewN nq = w5 at *
    go_wp2
    go_quiet (first | (go_at_call 78; refine Calls.quiet_of_same (HI.out _)))
    go_wp2
    dsimp +zetaDelta only [Exit.noGoto, Exit.inBlock, Exit.then]
    go_ret
    exact ⟨rfl, below_drewN B5 _⟩

theorem part_idx (k : Nat) (hk : k < 5) (c : Nat) (h0 : 128 ≤ c) (h1 : c < 256) (w' : World) : Calls Tryd.prog 78 #[.string (hxs.extract k 16), .int .u8 (c : Int)] w' fun e w1 => e = .returned (.int .i64 (-1)) ∧ w1 = w' := by
  have h := indexByte_any (hxs.extract k 16) c w'
  rw [idx_part k hk c h0 h1] at h
  exact h
theorem hxs_at : ∀ k, (h : k < hxs.size) → k < 4 → (hxs[k]'h).toNat = 48 + k := by decide +kernel
theorem last_byte (E : ByteArray) (l : List UInt8) (h : E.data.toList = l) (n : Nat) (hn : l.length = n) (k : Nat) (c : UInt8) (hk : l[k]? = some c) (hkE : k < E.size) : E.size = n ∧ (E[k]'hkE).toNat = c.toNat := by
  refine ⟨by rw [← hn, ← h]; simp, ?_⟩
  have e : E.data.toList[k]? = some c := by rw [h]; exact hk
  have e2 : E[k]'hkE = c := by
    have := List.getElem?_eq_some_iff.1 e
    obtain ⟨_, h3⟩ := this
    have h4 : E.data[k] = c := by simpa using h3
    exact h4
  rw [e2]
end Go.Proofs.YtbabckchfabbkaaDoor
