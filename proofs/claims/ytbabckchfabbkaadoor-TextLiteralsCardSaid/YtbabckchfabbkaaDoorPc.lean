/-
  The reference's pieces: what stands at a place.
-/
import Derived.Test.YtbabckchfabbkaaDoorRLet
import Derived.LoopN
import Derived.Handy
namespace Go.Proofs.YtbabckchfabbkaaDoor
open Go Go.RowKit
open Tx

theorem two_new (w : World) (o p : Obj) : ((w.alloc o).alloc p).heap[w.heap.size]? = some o := by
  show ((w.heap.push o).push p)[w.heap.size]? = some o
  rw [Array.getElem?_push_lt (by simp)]
  simp
theorem infoPc : (Tryd.prog.info? 70).map (·.size) = some 3 := by kernel_rfl
theorem up2 (w : World) (o p : Obj) : Below w.heap.size w ((w.alloc o).alloc p) := up (up0 w o) p


set_option maxRecDepth 100000 in
set_option maxHeartbeats 1000000 in
theorem piece_low (s : ByteArray) (i : Nat) (w : World) (_hm : i < 140737488355328) (h : i < s.size) (x0 : UInt8) (hx0 : s[i]'h = x0)  (_c0 : x0.toNat < 128) :
    Calls Tryd.prog 30 #[.string s, .int .i64 (i : Int)] w fun e w' => e = .returned (.agg #[.int .i64 (x0.toNat : Int), .int .i64 i, .int .i64 1]) ∧ Below w.heap.size w w' := by
  have q0 := x0.toNat_lt
  go_enter Tryd.func30, Tryd.ntmps30
  go_wp2
  all_goals (refine bodyPost_ret (results_cell_row rfl _ _ w.heap.size 70 _ (0, 0) _ rfl (two_new w _ _) Tryd.underlying70 rfl infoPc) rfl ?_)
  all_goals exact ⟨rfl, up2 _ _ _⟩

set_option maxRecDepth 100000 in
set_option maxHeartbeats 1000000 in
theorem piece_mid (s : ByteArray) (i : Nat) (w : World) (_hm : i < 140737488355328) (h : i < s.size) (x0 : UInt8) (hx0 : s[i]'h = x0)  (_c0 : 128 ≤ x0.toNat) (_c1 : x0.toNat < 192) :
    Calls Tryd.prog 30 #[.string s, .int .i64 (i : Int)] w fun e w' => e = .returned (.agg #[.int .i64 (-1), .int .i64 i, .int .i64 1]) ∧ Below w.heap.size w w' := by
  have q0 := x0.toNat_lt
  go_enter Tryd.func30, Tryd.ntmps30
  go_wp2
  all_goals (refine bodyPost_ret (results_cell_row rfl _ _ w.heap.size 70 _ (0, 0) _ rfl (two_new w _ _) Tryd.underlying70 rfl infoPc) rfl ?_)
  all_goals exact ⟨rfl, up2 _ _ _⟩

set_option maxRecDepth 100000 in
set_option maxHeartbeats 1000000 in
theorem piece_high (s : ByteArray) (i : Nat) (w : World) (_hm : i < 140737488355328) (h : i < s.size) (x0 : UInt8) (hx0 : s[i]'h = x0)  (_c0 : 248 ≤ x0.toNat) :
    Calls Tryd.prog 30 #[.string s, .int .i64 (i : Int)] w fun e w' => e = .returned (.agg #[.int .i64 (-1), .int .i64 i, .int .i64 1]) ∧ Below w.heap.size w w' := by
  have q0 := x0.toNat_lt
  go_enter Tryd.func30, Tryd.ntmps30
  go_wp2
  all_goals (refine bodyPost_ret (results_cell_row rfl _ _ w.heap.size 70 _ (0, 0) _ rfl (two_new w _ _) Tryd.underlying70 rfl infoPc) rfl ?_)
  all_goals exact ⟨rfl, up2 _ _ _⟩

set_option maxRecDepth 100000 in
set_option maxHeartbeats 1000000 in
theorem piece2_short (s : ByteArray) (i : Nat) (w : World) (_hm : i < 140737488355328) (h : i < s.size) (x0 : UInt8) (hx0 : s[i]'h = x0)  (_c0 : 192 ≤ x0.toNat) (_c1 : x0.toNat < 224) (_cs : s.size < i + 2) :
    Calls Tryd.prog 30 #[.string s, .int .i64 (i : Int)] w fun e w' => e = .returned (.agg #[.int .i64 (-1), .int .i64 i, .int .i64 1]) ∧ Below w.heap.size w w' := by
  have q0 := x0.toNat_lt
  go_enter Tryd.func30, Tryd.ntmps30
  go_wp2
  all_goals (refine bodyPost_ret (results_cell_row rfl _ _ w.heap.size 70 _ (0, 0) _ rfl (two_new w _ _) Tryd.underlying70 rfl infoPc) rfl ?_)
  all_goals exact ⟨rfl, up2 _ _ _⟩

set_option maxRecDepth 100000 in
set_option maxHeartbeats 1000000 in
theorem piece2_bad1l (s : ByteArray) (i : Nat) (w : World) (_hm : i < 140737488355328) (h : i < s.size) (x0 : UInt8) (hx0 : s[i]'h = x0) (h1 : i + 1 < s.size) (x1 : UInt8) (hx1 : s[i + 1]'h1 = x1) (_c0 : 192 ≤ x0.toNat) (_c1 : x0.toNat < 224) (_cs : i + 2 ≤ s.size) (_cb : x1.toNat < 128) :
    Calls Tryd.prog 30 #[.string s, .int .i64 (i : Int)] w fun e w' => e = .returned (.agg #[.int .i64 (-1), .int .i64 i, .int .i64 1]) ∧ Below w.heap.size w w' := by
  have q0 := x0.toNat_lt
  have q1 := x1.toNat_lt
  go_enter Tryd.func30, Tryd.ntmps30
  go_wp2
  go_rounds 1
  all_goals (refine bodyPost_ret (results_cell_row rfl _ _ w.heap.size 70 _ (0, 0) _ rfl (two_new w _ _) Tryd.underlying70 rfl infoPc) rfl ?_)
  all_goals exact ⟨rfl, up2 _ _ _⟩

set_option maxRecDepth 100000 in
set_option maxHeartbeats 1000000 in
theorem piece2_bad1g (s : ByteArray) (i : Nat) (w : World) (_hm : i < 140737488355328) (h : i < s.size) (x0 : UInt8) (hx0 : s[i]'h = x0) (h1 : i + 1 < s.size) (x1 : UInt8) (hx1 : s[i + 1]'h1 = x1) (_c0 : 192 ≤ x0.toNat) (_c1 : x0.toNat < 224) (_cs : i + 2 ≤ s.size) (_cb : 191 < x1.toNat) :
    Calls Tryd.prog 30 #[.string s, .int .i64 (i : Int)] w fun e w' => e = .returned (.agg #[.int .i64 (-1), .int .i64 i, .int .i64 1]) ∧ Below w.heap.size w w' := by
  have q0 := x0.toNat_lt
  have q1 := x1.toNat_lt
  go_enter Tryd.func30, Tryd.ntmps30
  go_wp2
  go_rounds 1
  all_goals (refine bodyPost_ret (results_cell_row rfl _ _ w.heap.size 70 _ (0, 0) _ rfl (two_new w _ _) Tryd.underlying70 rfl infoPc) rfl ?_)
  all_goals exact ⟨rfl, up2 _ _ _⟩

set_option maxRecDepth 100000 in
set_option maxHeartbeats 1000000 in
theorem piece2_least (s : ByteArray) (i : Nat) (w : World) (_hm : i < 140737488355328) (h : i < s.size) (x0 : UInt8) (hx0 : s[i]'h = x0) (h1 : i + 1 < s.size) (x1 : UInt8) (hx1 : s[i + 1]'h1 = x1) (_c0 : 192 ≤ x0.toNat) (_c1 : x0.toNat < 224) (_cs : i + 2 ≤ s.size) (_g1a : 128 ≤ x1.toNat) (_g1b : x1.toNat ≤ 191) (_cr : (((x0.toNat : Int) - 192) * 64 + (x1.toNat : Int) - 128) < 128) :
    Calls Tryd.prog 30 #[.string s, .int .i64 (i : Int)] w fun e w' => e = .returned (.agg #[.int .i64 (-1), .int .i64 i, .int .i64 1]) ∧ Below w.heap.size w w' := by
  have q0 := x0.toNat_lt
  have q1 := x1.toNat_lt
  go_enter Tryd.func30, Tryd.ntmps30
  go_wp2
  go_rounds 2
  all_goals (refine bodyPost_ret (results_cell_row rfl _ _ w.heap.size 70 _ (0, 0) _ rfl (two_new w _ _) Tryd.underlying70 rfl infoPc) rfl ?_)
  all_goals exact ⟨rfl, up2 _ _ _⟩

set_option maxRecDepth 100000 in
set_option maxHeartbeats 1000000 in
theorem piece2_ok (s : ByteArray) (i : Nat) (w : World) (_hm : i < 140737488355328) (h : i < s.size) (x0 : UInt8) (hx0 : s[i]'h = x0) (h1 : i + 1 < s.size) (x1 : UInt8) (hx1 : s[i + 1]'h1 = x1) (_c0 : 192 ≤ x0.toNat) (_c1 : x0.toNat < 224) (_cs : i + 2 ≤ s.size) (_g1a : 128 ≤ x1.toNat) (_g1b : x1.toNat ≤ 191) (_cr : 128 ≤ (((x0.toNat : Int) - 192) * 64 + (x1.toNat : Int) - 128)) :
    Calls Tryd.prog 30 #[.string s, .int .i64 (i : Int)] w fun e w' => e = .returned (.agg #[.int .i64 (((x0.toNat : Int) - 192) * 64 + (x1.toNat : Int) - 128), .int .i64 i, .int .i64 2]) ∧ Below w.heap.size w w' := by
  have q0 := x0.toNat_lt
  have q1 := x1.toNat_lt
  go_enter Tryd.func30, Tryd.ntmps30
  go_wp2
  go_rounds 2
  all_goals (refine bodyPost_ret (results_cell_row rfl _ _ w.heap.size 70 _ (0, 0) _ rfl (two_new w _ _) Tryd.underlying70 rfl infoPc) rfl ?_)
  all_goals exact ⟨rfl, up2 _ _ _⟩

set_option maxRecDepth 100000 in
set_option maxHeartbeats 1000000 in
theorem piece3_short (s : ByteArray) (i : Nat) (w : World) (_hm : i < 140737488355328) (h : i < s.size) (x0 : UInt8) (hx0 : s[i]'h = x0)  (_c0 : 224 ≤ x0.toNat) (_c1 : x0.toNat < 240) (_cs : s.size < i + 3) :
    Calls Tryd.prog 30 #[.string s, .int .i64 (i : Int)] w fun e w' => e = .returned (.agg #[.int .i64 (-1), .int .i64 i, .int .i64 1]) ∧ Below w.heap.size w w' := by
  have q0 := x0.toNat_lt
  go_enter Tryd.func30, Tryd.ntmps30
  go_wp2
  all_goals (refine bodyPost_ret (results_cell_row rfl _ _ w.heap.size 70 _ (0, 0) _ rfl (two_new w _ _) Tryd.underlying70 rfl infoPc) rfl ?_)
  all_goals exact ⟨rfl, up2 _ _ _⟩

set_option maxRecDepth 100000 in
set_option maxHeartbeats 1000000 in
theorem piece3_bad1l (s : ByteArray) (i : Nat) (w : World) (_hm : i < 140737488355328) (h : i < s.size) (x0 : UInt8) (hx0 : s[i]'h = x0) (h1 : i + 1 < s.size) (x1 : UInt8) (hx1 : s[i + 1]'h1 = x1) (_c0 : 224 ≤ x0.toNat) (_c1 : x0.toNat < 240) (_cs : i + 3 ≤ s.size) (_cb : x1.toNat < 128) :
    Calls Tryd.prog 30 #[.string s, .int .i64 (i : Int)] w fun e w' => e = .returned (.agg #[.int .i64 (-1), .int .i64 i, .int .i64 1]) ∧ Below w.heap.size w w' := by
  have q0 := x0.toNat_lt
  have q1 := x1.toNat_lt
  go_enter Tryd.func30, Tryd.ntmps30
  go_wp2
  go_rounds 1
  all_goals (refine bodyPost_ret (results_cell_row rfl _ _ w.heap.size 70 _ (0, 0) _ rfl (two_new w _ _) Tryd.underlying70 rfl infoPc) rfl ?_)
  all_goals exact ⟨rfl, up2 _ _ _⟩

set_option maxRecDepth 100000 in
set_option maxHeartbeats 1000000 in
theorem piece3_bad1g (s : ByteArray) (i : Nat) (w : World) (_hm : i < 140737488355328) (h : i < s.size) (x0 : UInt8) (hx0 : s[i]'h = x0) (h1 : i + 1 < s.size) (x1 : UInt8) (hx1 : s[i + 1]'h1 = x1) (_c0 : 224 ≤ x0.toNat) (_c1 : x0.toNat < 240) (_cs : i + 3 ≤ s.size) (_cb : 191 < x1.toNat) :
    Calls Tryd.prog 30 #[.string s, .int .i64 (i : Int)] w fun e w' => e = .returned (.agg #[.int .i64 (-1), .int .i64 i, .int .i64 1]) ∧ Below w.heap.size w w' := by
  have q0 := x0.toNat_lt
  have q1 := x1.toNat_lt
  go_enter Tryd.func30, Tryd.ntmps30
  go_wp2
  go_rounds 1
  all_goals (refine bodyPost_ret (results_cell_row rfl _ _ w.heap.size 70 _ (0, 0) _ rfl (two_new w _ _) Tryd.underlying70 rfl infoPc) rfl ?_)
  all_goals exact ⟨rfl, up2 _ _ _⟩

set_option maxRecDepth 100000 in
set_option maxHeartbeats 1000000 in
theorem piece3_bad2l (s : ByteArray) (i : Nat) (w : World) (_hm : i < 140737488355328) (h : i < s.size) (x0 : UInt8) (hx0 : s[i]'h = x0) (h1 : i + 1 < s.size) (x1 : UInt8) (hx1 : s[i + 1]'h1 = x1) (h2 : i + 2 < s.size) (x2 : UInt8) (hx2 : s[i + 2]'h2 = x2) (_c0 : 224 ≤ x0.toNat) (_c1 : x0.toNat < 240) (_cs : i + 3 ≤ s.size) (_g1a : 128 ≤ x1.toNat) (_g1b : x1.toNat ≤ 191) (_cb : x2.toNat < 128) :
    Calls Tryd.prog 30 #[.string s, .int .i64 (i : Int)] w fun e w' => e = .returned (.agg #[.int .i64 (-1), .int .i64 i, .int .i64 1]) ∧ Below w.heap.size w w' := by
  have q0 := x0.toNat_lt
  have q1 := x1.toNat_lt
  have q2 := x2.toNat_lt
  go_enter Tryd.func30, Tryd.ntmps30
  go_wp2
  go_rounds 2
  all_goals (refine bodyPost_ret (results_cell_row rfl _ _ w.heap.size 70 _ (0, 0) _ rfl (two_new w _ _) Tryd.underlying70 rfl infoPc) rfl ?_)
  all_goals exact ⟨rfl, up2 _ _ _⟩

set_option maxRecDepth 100000 in
set_option maxHeartbeats 1000000 in
theorem piece3_bad2g (s : ByteArray) (i : Nat) (w : World) (_hm : i < 140737488355328) (h : i < s.size) (x0 : UInt8) (hx0 : s[i]'h = x0) (h1 : i + 1 < s.size) (x1 : UInt8) (hx1 : s[i + 1]'h1 = x1) (h2 : i + 2 < s.size) (x2 : UInt8) (hx2 : s[i + 2]'h2 = x2) (_c0 : 224 ≤ x0.toNat) (_c1 : x0.toNat < 240) (_cs : i + 3 ≤ s.size) (_g1a : 128 ≤ x1.toNat) (_g1b : x1.toNat ≤ 191) (_cb : 191 < x2.toNat) :
    Calls Tryd.prog 30 #[.string s, .int .i64 (i : Int)] w fun e w' => e = .returned (.agg #[.int .i64 (-1), .int .i64 i, .int .i64 1]) ∧ Below w.heap.size w w' := by
  have q0 := x0.toNat_lt
  have q1 := x1.toNat_lt
  have q2 := x2.toNat_lt
  go_enter Tryd.func30, Tryd.ntmps30
  go_wp2
  go_rounds 2
  all_goals (refine bodyPost_ret (results_cell_row rfl _ _ w.heap.size 70 _ (0, 0) _ rfl (two_new w _ _) Tryd.underlying70 rfl infoPc) rfl ?_)
  all_goals exact ⟨rfl, up2 _ _ _⟩

set_option maxRecDepth 100000 in
set_option maxHeartbeats 1000000 in
theorem piece3_least (s : ByteArray) (i : Nat) (w : World) (_hm : i < 140737488355328) (h : i < s.size) (x0 : UInt8) (hx0 : s[i]'h = x0) (h1 : i + 1 < s.size) (x1 : UInt8) (hx1 : s[i + 1]'h1 = x1) (h2 : i + 2 < s.size) (x2 : UInt8) (hx2 : s[i + 2]'h2 = x2) (_c0 : 224 ≤ x0.toNat) (_c1 : x0.toNat < 240) (_cs : i + 3 ≤ s.size) (_g1a : 128 ≤ x1.toNat) (_g1b : x1.toNat ≤ 191) (_g2a : 128 ≤ x2.toNat) (_g2b : x2.toNat ≤ 191) (_cr : ((((x0.toNat : Int) - 224) * 64 + (x1.toNat : Int) - 128) * 64 + (x2.toNat : Int) - 128) < 2048) :
    Calls Tryd.prog 30 #[.string s, .int .i64 (i : Int)] w fun e w' => e = .returned (.agg #[.int .i64 (-1), .int .i64 i, .int .i64 1]) ∧ Below w.heap.size w w' := by
  have q0 := x0.toNat_lt
  have q1 := x1.toNat_lt
  have q2 := x2.toNat_lt
  go_enter Tryd.func30, Tryd.ntmps30
  go_wp2
  go_rounds 3
  all_goals (refine bodyPost_ret (results_cell_row rfl _ _ w.heap.size 70 _ (0, 0) _ rfl (two_new w _ _) Tryd.underlying70 rfl infoPc) rfl ?_)
  all_goals exact ⟨rfl, up2 _ _ _⟩

set_option maxRecDepth 100000 in
set_option maxHeartbeats 1000000 in
theorem piece3_sur (s : ByteArray) (i : Nat) (w : World) (_hm : i < 140737488355328) (h : i < s.size) (x0 : UInt8) (hx0 : s[i]'h = x0) (h1 : i + 1 < s.size) (x1 : UInt8) (hx1 : s[i + 1]'h1 = x1) (h2 : i + 2 < s.size) (x2 : UInt8) (hx2 : s[i + 2]'h2 = x2) (_c0 : 224 ≤ x0.toNat) (_c1 : x0.toNat < 240) (_cs : i + 3 ≤ s.size) (_g1a : 128 ≤ x1.toNat) (_g1b : x1.toNat ≤ 191) (_g2a : 128 ≤ x2.toNat) (_g2b : x2.toNat ≤ 191) (_cr : 55296 ≤ ((((x0.toNat : Int) - 224) * 64 + (x1.toNat : Int) - 128) * 64 + (x2.toNat : Int) - 128)) (_cr2 : ((((x0.toNat : Int) - 224) * 64 + (x1.toNat : Int) - 128) * 64 + (x2.toNat : Int) - 128) ≤ 57343) :
    Calls Tryd.prog 30 #[.string s, .int .i64 (i : Int)] w fun e w' => e = .returned (.agg #[.int .i64 (-1), .int .i64 i, .int .i64 1]) ∧ Below w.heap.size w w' := by
  have q0 := x0.toNat_lt
  have q1 := x1.toNat_lt
  have q2 := x2.toNat_lt
  go_enter Tryd.func30, Tryd.ntmps30
  go_wp2
  go_rounds 3
  all_goals (refine bodyPost_ret (results_cell_row rfl _ _ w.heap.size 70 _ (0, 0) _ rfl (two_new w _ _) Tryd.underlying70 rfl infoPc) rfl ?_)
  all_goals exact ⟨rfl, up2 _ _ _⟩

set_option maxRecDepth 100000 in
set_option maxHeartbeats 1000000 in
theorem piece3_ok (s : ByteArray) (i : Nat) (w : World) (_hm : i < 140737488355328) (h : i < s.size) (x0 : UInt8) (hx0 : s[i]'h = x0) (h1 : i + 1 < s.size) (x1 : UInt8) (hx1 : s[i + 1]'h1 = x1) (h2 : i + 2 < s.size) (x2 : UInt8) (hx2 : s[i + 2]'h2 = x2) (_c0 : 224 ≤ x0.toNat) (_c1 : x0.toNat < 240) (_cs : i + 3 ≤ s.size) (_g1a : 128 ≤ x1.toNat) (_g1b : x1.toNat ≤ 191) (_g2a : 128 ≤ x2.toNat) (_g2b : x2.toNat ≤ 191) (_cr : 2048 ≤ ((((x0.toNat : Int) - 224) * 64 + (x1.toNat : Int) - 128) * 64 + (x2.toNat : Int) - 128)) (_cr2 : ((((x0.toNat : Int) - 224) * 64 + (x1.toNat : Int) - 128) * 64 + (x2.toNat : Int) - 128) < 55296) :
    Calls Tryd.prog 30 #[.string s, .int .i64 (i : Int)] w fun e w' => e = .returned (.agg #[.int .i64 ((((x0.toNat : Int) - 224) * 64 + (x1.toNat : Int) - 128) * 64 + (x2.toNat : Int) - 128), .int .i64 i, .int .i64 3]) ∧ Below w.heap.size w w' := by
  have q0 := x0.toNat_lt
  have q1 := x1.toNat_lt
  have q2 := x2.toNat_lt
  go_enter Tryd.func30, Tryd.ntmps30
  go_wp2
  go_rounds 3
  all_goals (refine bodyPost_ret (results_cell_row rfl _ _ w.heap.size 70 _ (0, 0) _ rfl (two_new w _ _) Tryd.underlying70 rfl infoPc) rfl ?_)
  all_goals exact ⟨rfl, up2 _ _ _⟩

set_option maxRecDepth 100000 in
set_option maxHeartbeats 1000000 in
theorem piece3_okk (s : ByteArray) (i : Nat) (w : World) (_hm : i < 140737488355328) (h : i < s.size) (x0 : UInt8) (hx0 : s[i]'h = x0) (h1 : i + 1 < s.size) (x1 : UInt8) (hx1 : s[i + 1]'h1 = x1) (h2 : i + 2 < s.size) (x2 : UInt8) (hx2 : s[i + 2]'h2 = x2) (_c0 : 224 ≤ x0.toNat) (_c1 : x0.toNat < 240) (_cs : i + 3 ≤ s.size) (_g1a : 128 ≤ x1.toNat) (_g1b : x1.toNat ≤ 191) (_g2a : 128 ≤ x2.toNat) (_g2b : x2.toNat ≤ 191) (_cr : 57343 < ((((x0.toNat : Int) - 224) * 64 + (x1.toNat : Int) - 128) * 64 + (x2.toNat : Int) - 128)) :
    Calls Tryd.prog 30 #[.string s, .int .i64 (i : Int)] w fun e w' => e = .returned (.agg #[.int .i64 ((((x0.toNat : Int) - 224) * 64 + (x1.toNat : Int) - 128) * 64 + (x2.toNat : Int) - 128), .int .i64 i, .int .i64 3]) ∧ Below w.heap.size w w' := by
  have q0 := x0.toNat_lt
  have q1 := x1.toNat_lt
  have q2 := x2.toNat_lt
  go_enter Tryd.func30, Tryd.ntmps30
  go_wp2
  go_rounds 3
  all_goals (refine bodyPost_ret (results_cell_row rfl _ _ w.heap.size 70 _ (0, 0) _ rfl (two_new w _ _) Tryd.underlying70 rfl infoPc) rfl ?_)
  all_goals exact ⟨rfl, up2 _ _ _⟩

set_option maxRecDepth 100000 in
set_option maxHeartbeats 1000000 in
theorem piece4_short (s : ByteArray) (i : Nat) (w : World) (_hm : i < 140737488355328) (h : i < s.size) (x0 : UInt8) (hx0 : s[i]'h = x0)  (_c0 : 240 ≤ x0.toNat) (_c1 : x0.toNat < 248) (_cs : s.size < i + 4) :
    Calls Tryd.prog 30 #[.string s, .int .i64 (i : Int)] w fun e w' => e = .returned (.agg #[.int .i64 (-1), .int .i64 i, .int .i64 1]) ∧ Below w.heap.size w w' := by
  have q0 := x0.toNat_lt
  go_enter Tryd.func30, Tryd.ntmps30
  go_wp2
  all_goals (refine bodyPost_ret (results_cell_row rfl _ _ w.heap.size 70 _ (0, 0) _ rfl (two_new w _ _) Tryd.underlying70 rfl infoPc) rfl ?_)
  all_goals exact ⟨rfl, up2 _ _ _⟩

set_option maxRecDepth 100000 in
set_option maxHeartbeats 1000000 in
theorem piece4_bad1l (s : ByteArray) (i : Nat) (w : World) (_hm : i < 140737488355328) (h : i < s.size) (x0 : UInt8) (hx0 : s[i]'h = x0) (h1 : i + 1 < s.size) (x1 : UInt8) (hx1 : s[i + 1]'h1 = x1) (_c0 : 240 ≤ x0.toNat) (_c1 : x0.toNat < 248) (_cs : i + 4 ≤ s.size) (_cb : x1.toNat < 128) :
    Calls Tryd.prog 30 #[.string s, .int .i64 (i : Int)] w fun e w' => e = .returned (.agg #[.int .i64 (-1), .int .i64 i, .int .i64 1]) ∧ Below w.heap.size w w' := by
  have q0 := x0.toNat_lt
  have q1 := x1.toNat_lt
  go_enter Tryd.func30, Tryd.ntmps30
  go_wp2
  go_rounds 1
  all_goals (refine bodyPost_ret (results_cell_row rfl _ _ w.heap.size 70 _ (0, 0) _ rfl (two_new w _ _) Tryd.underlying70 rfl infoPc) rfl ?_)
  all_goals exact ⟨rfl, up2 _ _ _⟩

set_option maxRecDepth 100000 in
set_option maxHeartbeats 1000000 in
theorem piece4_bad1g (s : ByteArray) (i : Nat) (w : World) (_hm : i < 140737488355328) (h : i < s.size) (x0 : UInt8) (hx0 : s[i]'h = x0) (h1 : i + 1 < s.size) (x1 : UInt8) (hx1 : s[i + 1]'h1 = x1) (_c0 : 240 ≤ x0.toNat) (_c1 : x0.toNat < 248) (_cs : i + 4 ≤ s.size) (_cb : 191 < x1.toNat) :
    Calls Tryd.prog 30 #[.string s, .int .i64 (i : Int)] w fun e w' => e = .returned (.agg #[.int .i64 (-1), .int .i64 i, .int .i64 1]) ∧ Below w.heap.size w w' := by
  have q0 := x0.toNat_lt
  have q1 := x1.toNat_lt
  go_enter Tryd.func30, Tryd.ntmps30
  go_wp2
  go_rounds 1
  all_goals (refine bodyPost_ret (results_cell_row rfl _ _ w.heap.size 70 _ (0, 0) _ rfl (two_new w _ _) Tryd.underlying70 rfl infoPc) rfl ?_)
  all_goals exact ⟨rfl, up2 _ _ _⟩

set_option maxRecDepth 100000 in
set_option maxHeartbeats 1000000 in
theorem piece4_bad2l (s : ByteArray) (i : Nat) (w : World) (_hm : i < 140737488355328) (h : i < s.size) (x0 : UInt8) (hx0 : s[i]'h = x0) (h1 : i + 1 < s.size) (x1 : UInt8) (hx1 : s[i + 1]'h1 = x1) (h2 : i + 2 < s.size) (x2 : UInt8) (hx2 : s[i + 2]'h2 = x2) (_c0 : 240 ≤ x0.toNat) (_c1 : x0.toNat < 248) (_cs : i + 4 ≤ s.size) (_g1a : 128 ≤ x1.toNat) (_g1b : x1.toNat ≤ 191) (_cb : x2.toNat < 128) :
    Calls Tryd.prog 30 #[.string s, .int .i64 (i : Int)] w fun e w' => e = .returned (.agg #[.int .i64 (-1), .int .i64 i, .int .i64 1]) ∧ Below w.heap.size w w' := by
  have q0 := x0.toNat_lt
  have q1 := x1.toNat_lt
  have q2 := x2.toNat_lt
  go_enter Tryd.func30, Tryd.ntmps30
  go_wp2
  go_rounds 2
  all_goals (refine bodyPost_ret (results_cell_row rfl _ _ w.heap.size 70 _ (0, 0) _ rfl (two_new w _ _) Tryd.underlying70 rfl infoPc) rfl ?_)
  all_goals exact ⟨rfl, up2 _ _ _⟩

set_option maxRecDepth 100000 in
set_option maxHeartbeats 1000000 in
theorem piece4_bad2g (s : ByteArray) (i : Nat) (w : World) (_hm : i < 140737488355328) (h : i < s.size) (x0 : UInt8) (hx0 : s[i]'h = x0) (h1 : i + 1 < s.size) (x1 : UInt8) (hx1 : s[i + 1]'h1 = x1) (h2 : i + 2 < s.size) (x2 : UInt8) (hx2 : s[i + 2]'h2 = x2) (_c0 : 240 ≤ x0.toNat) (_c1 : x0.toNat < 248) (_cs : i + 4 ≤ s.size) (_g1a : 128 ≤ x1.toNat) (_g1b : x1.toNat ≤ 191) (_cb : 191 < x2.toNat) :
    Calls Tryd.prog 30 #[.string s, .int .i64 (i : Int)] w fun e w' => e = .returned (.agg #[.int .i64 (-1), .int .i64 i, .int .i64 1]) ∧ Below w.heap.size w w' := by
  have q0 := x0.toNat_lt
  have q1 := x1.toNat_lt
  have q2 := x2.toNat_lt
  go_enter Tryd.func30, Tryd.ntmps30
  go_wp2
  go_rounds 2
  all_goals (refine bodyPost_ret (results_cell_row rfl _ _ w.heap.size 70 _ (0, 0) _ rfl (two_new w _ _) Tryd.underlying70 rfl infoPc) rfl ?_)
  all_goals exact ⟨rfl, up2 _ _ _⟩

set_option maxRecDepth 100000 in
set_option maxHeartbeats 1000000 in
theorem piece4_bad3l (s : ByteArray) (i : Nat) (w : World) (_hm : i < 140737488355328) (h : i < s.size) (x0 : UInt8) (hx0 : s[i]'h = x0) (h1 : i + 1 < s.size) (x1 : UInt8) (hx1 : s[i + 1]'h1 = x1) (h2 : i + 2 < s.size) (x2 : UInt8) (hx2 : s[i + 2]'h2 = x2) (h3 : i + 3 < s.size) (x3 : UInt8) (hx3 : s[i + 3]'h3 = x3) (_c0 : 240 ≤ x0.toNat) (_c1 : x0.toNat < 248) (_cs : i + 4 ≤ s.size) (_g1a : 128 ≤ x1.toNat) (_g1b : x1.toNat ≤ 191) (_g2a : 128 ≤ x2.toNat) (_g2b : x2.toNat ≤ 191) (_cb : x3.toNat < 128) :
    Calls Tryd.prog 30 #[.string s, .int .i64 (i : Int)] w fun e w' => e = .returned (.agg #[.int .i64 (-1), .int .i64 i, .int .i64 1]) ∧ Below w.heap.size w w' := by
  have q0 := x0.toNat_lt
  have q1 := x1.toNat_lt
  have q2 := x2.toNat_lt
  have q3 := x3.toNat_lt
  go_enter Tryd.func30, Tryd.ntmps30
  go_wp2
  go_rounds 3
  all_goals (refine bodyPost_ret (results_cell_row rfl _ _ w.heap.size 70 _ (0, 0) _ rfl (two_new w _ _) Tryd.underlying70 rfl infoPc) rfl ?_)
  all_goals exact ⟨rfl, up2 _ _ _⟩

set_option maxRecDepth 100000 in
set_option maxHeartbeats 1000000 in
theorem piece4_bad3g (s : ByteArray) (i : Nat) (w : World) (_hm : i < 140737488355328) (h : i < s.size) (x0 : UInt8) (hx0 : s[i]'h = x0) (h1 : i + 1 < s.size) (x1 : UInt8) (hx1 : s[i + 1]'h1 = x1) (h2 : i + 2 < s.size) (x2 : UInt8) (hx2 : s[i + 2]'h2 = x2) (h3 : i + 3 < s.size) (x3 : UInt8) (hx3 : s[i + 3]'h3 = x3) (_c0 : 240 ≤ x0.toNat) (_c1 : x0.toNat < 248) (_cs : i + 4 ≤ s.size) (_g1a : 128 ≤ x1.toNat) (_g1b : x1.toNat ≤ 191) (_g2a : 128 ≤ x2.toNat) (_g2b : x2.toNat ≤ 191) (_cb : 191 < x3.toNat) :
    Calls Tryd.prog 30 #[.string s, .int .i64 (i : Int)] w fun e w' => e = .returned (.agg #[.int .i64 (-1), .int .i64 i, .int .i64 1]) ∧ Below w.heap.size w w' := by
  have q0 := x0.toNat_lt
  have q1 := x1.toNat_lt
  have q2 := x2.toNat_lt
  have q3 := x3.toNat_lt
  go_enter Tryd.func30, Tryd.ntmps30
  go_wp2
  go_rounds 3
  all_goals (refine bodyPost_ret (results_cell_row rfl _ _ w.heap.size 70 _ (0, 0) _ rfl (two_new w _ _) Tryd.underlying70 rfl infoPc) rfl ?_)
  all_goals exact ⟨rfl, up2 _ _ _⟩

set_option maxRecDepth 100000 in
set_option maxHeartbeats 1000000 in
theorem piece4_least (s : ByteArray) (i : Nat) (w : World) (_hm : i < 140737488355328) (h : i < s.size) (x0 : UInt8) (hx0 : s[i]'h = x0) (h1 : i + 1 < s.size) (x1 : UInt8) (hx1 : s[i + 1]'h1 = x1) (h2 : i + 2 < s.size) (x2 : UInt8) (hx2 : s[i + 2]'h2 = x2) (h3 : i + 3 < s.size) (x3 : UInt8) (hx3 : s[i + 3]'h3 = x3) (_c0 : 240 ≤ x0.toNat) (_c1 : x0.toNat < 248) (_cs : i + 4 ≤ s.size) (_g1a : 128 ≤ x1.toNat) (_g1b : x1.toNat ≤ 191) (_g2a : 128 ≤ x2.toNat) (_g2b : x2.toNat ≤ 191) (_g3a : 128 ≤ x3.toNat) (_g3b : x3.toNat ≤ 191) (_cr : (((((x0.toNat : Int) - 240) * 64 + (x1.toNat : Int) - 128) * 64 + (x2.toNat : Int) - 128) * 64 + (x3.toNat : Int) - 128) < 65536) :
    Calls Tryd.prog 30 #[.string s, .int .i64 (i : Int)] w fun e w' => e = .returned (.agg #[.int .i64 (-1), .int .i64 i, .int .i64 1]) ∧ Below w.heap.size w w' := by
  have q0 := x0.toNat_lt
  have q1 := x1.toNat_lt
  have q2 := x2.toNat_lt
  have q3 := x3.toNat_lt
  go_enter Tryd.func30, Tryd.ntmps30
  go_wp2
  go_rounds 4
  all_goals (refine bodyPost_ret (results_cell_row rfl _ _ w.heap.size 70 _ (0, 0) _ rfl (two_new w _ _) Tryd.underlying70 rfl infoPc) rfl ?_)
  all_goals exact ⟨rfl, up2 _ _ _⟩

set_option maxRecDepth 100000 in
set_option maxHeartbeats 1000000 in
theorem piece4_big (s : ByteArray) (i : Nat) (w : World) (_hm : i < 140737488355328) (h : i < s.size) (x0 : UInt8) (hx0 : s[i]'h = x0) (h1 : i + 1 < s.size) (x1 : UInt8) (hx1 : s[i + 1]'h1 = x1) (h2 : i + 2 < s.size) (x2 : UInt8) (hx2 : s[i + 2]'h2 = x2) (h3 : i + 3 < s.size) (x3 : UInt8) (hx3 : s[i + 3]'h3 = x3) (_c0 : 240 ≤ x0.toNat) (_c1 : x0.toNat < 248) (_cs : i + 4 ≤ s.size) (_g1a : 128 ≤ x1.toNat) (_g1b : x1.toNat ≤ 191) (_g2a : 128 ≤ x2.toNat) (_g2b : x2.toNat ≤ 191) (_g3a : 128 ≤ x3.toNat) (_g3b : x3.toNat ≤ 191) (_cr : 1114111 < (((((x0.toNat : Int) - 240) * 64 + (x1.toNat : Int) - 128) * 64 + (x2.toNat : Int) - 128) * 64 + (x3.toNat : Int) - 128)) :
    Calls Tryd.prog 30 #[.string s, .int .i64 (i : Int)] w fun e w' => e = .returned (.agg #[.int .i64 (-1), .int .i64 i, .int .i64 1]) ∧ Below w.heap.size w w' := by
  have q0 := x0.toNat_lt
  have q1 := x1.toNat_lt
  have q2 := x2.toNat_lt
  have q3 := x3.toNat_lt
  go_enter Tryd.func30, Tryd.ntmps30
  go_wp2
  go_rounds 4
  all_goals (refine bodyPost_ret (results_cell_row rfl _ _ w.heap.size 70 _ (0, 0) _ rfl (two_new w _ _) Tryd.underlying70 rfl infoPc) rfl ?_)
  all_goals exact ⟨rfl, up2 _ _ _⟩

set_option maxRecDepth 100000 in
set_option maxHeartbeats 1000000 in
theorem piece4_ok (s : ByteArray) (i : Nat) (w : World) (_hm : i < 140737488355328) (h : i < s.size) (x0 : UInt8) (hx0 : s[i]'h = x0) (h1 : i + 1 < s.size) (x1 : UInt8) (hx1 : s[i + 1]'h1 = x1) (h2 : i + 2 < s.size) (x2 : UInt8) (hx2 : s[i + 2]'h2 = x2) (h3 : i + 3 < s.size) (x3 : UInt8) (hx3 : s[i + 3]'h3 = x3) (_c0 : 240 ≤ x0.toNat) (_c1 : x0.toNat < 248) (_cs : i + 4 ≤ s.size) (_g1a : 128 ≤ x1.toNat) (_g1b : x1.toNat ≤ 191) (_g2a : 128 ≤ x2.toNat) (_g2b : x2.toNat ≤ 191) (_g3a : 128 ≤ x3.toNat) (_g3b : x3.toNat ≤ 191) (_cr : 65536 ≤ (((((x0.toNat : Int) - 240) * 64 + (x1.toNat : Int) - 128) * 64 + (x2.toNat : Int) - 128) * 64 + (x3.toNat : Int) - 128)) (_cr2 : (((((x0.toNat : Int) - 240) * 64 + (x1.toNat : Int) - 128) * 64 + (x2.toNat : Int) - 128) * 64 + (x3.toNat : Int) - 128) ≤ 1114111) :
    Calls Tryd.prog 30 #[.string s, .int .i64 (i : Int)] w fun e w' => e = .returned (.agg #[.int .i64 (((((x0.toNat : Int) - 240) * 64 + (x1.toNat : Int) - 128) * 64 + (x2.toNat : Int) - 128) * 64 + (x3.toNat : Int) - 128), .int .i64 i, .int .i64 4]) ∧ Below w.heap.size w w' := by
  have q0 := x0.toNat_lt
  have q1 := x1.toNat_lt
  have q2 := x2.toNat_lt
  have q3 := x3.toNat_lt
  go_enter Tryd.func30, Tryd.ntmps30
  go_wp2
  go_rounds 4
  all_goals (refine bodyPost_ret (results_cell_row rfl _ _ w.heap.size 70 _ (0, 0) _ rfl (two_new w _ _) Tryd.underlying70 rfl infoPc) rfl ?_)
  all_goals exact ⟨rfl, up2 _ _ _⟩

end Go.Proofs.YtbabckchfabbkaaDoor
