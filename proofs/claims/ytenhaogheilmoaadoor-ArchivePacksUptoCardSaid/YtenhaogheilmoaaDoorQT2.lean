import Derived.LoopN
import Derived.Handy
import Derived.Laws.AppendOwnNone
import Derived.Maps.AppendAt
import Derived.WalkSpells
import Derived.WalkLawsBesides
import Derived.Test.YtenhaogheilmoaaDoorQT1
/-
  The reference's pieces: what stands at a place.
-/
namespace Go.Proofs.YtenhaogheilmoaaDoor.Text
open Go Go.RowKit
open Tx

theorem two_new (w : World) (o p : Obj) : ((w.alloc o).alloc p).heap[w.heap.size]? = some o := by
  show ((w.heap.push o).push p)[w.heap.size]? = some o
  rw [Array.getElem?_push_lt (by simp)]
  simp
theorem infoPc : (Tryd.prog.info? 122).map (·.size) = some 3 := by kernel_rfl
theorem up2 (w : World) (o p : Obj) : Below w.heap.size w ((w.alloc o).alloc p) := up (up0 w o) p


set_option maxRecDepth 100000 in
set_option maxHeartbeats 1000000 in
theorem piece_low (s : ByteArray) (i : Nat) (w : World) (_hm : i < 140737488355328) (h : i < s.size) (x0 : UInt8) (hx0 : s[i]'h = x0)  (_c0 : x0.toNat < 128) :
    Calls Tryd.prog 91 #[.string s, .int .i64 (i : Int)] w fun e w' => e = .returned (.agg #[.int .i64 (x0.toNat : Int), .int .i64 i, .int .i64 1]) ∧ Below w.heap.size w w' := by
  have q0 := x0.toNat_lt
  go_enter Tryd.func91, Tryd.ntmps91
  go_wp2
  all_goals (refine bodyPost_ret (results_cell_row rfl _ _ w.heap.size 122 _ (0, 0) _ rfl (two_new w _ _) Tryd.underlying122 rfl infoPc) rfl ?_)
  all_goals exact ⟨rfl, up2 _ _ _⟩

set_option maxRecDepth 100000 in
set_option maxHeartbeats 1000000 in
theorem piece_mid (s : ByteArray) (i : Nat) (w : World) (_hm : i < 140737488355328) (h : i < s.size) (x0 : UInt8) (hx0 : s[i]'h = x0)  (_c0 : 128 ≤ x0.toNat) (_c1 : x0.toNat < 192) :
    Calls Tryd.prog 91 #[.string s, .int .i64 (i : Int)] w fun e w' => e = .returned (.agg #[.int .i64 (-1), .int .i64 i, .int .i64 1]) ∧ Below w.heap.size w w' := by
  have q0 := x0.toNat_lt
  go_enter Tryd.func91, Tryd.ntmps91
  go_wp2
  all_goals (refine bodyPost_ret (results_cell_row rfl _ _ w.heap.size 122 _ (0, 0) _ rfl (two_new w _ _) Tryd.underlying122 rfl infoPc) rfl ?_)
  all_goals exact ⟨rfl, up2 _ _ _⟩

set_option maxRecDepth 100000 in
set_option maxHeartbeats 1000000 in
theorem piece_high (s : ByteArray) (i : Nat) (w : World) (_hm : i < 140737488355328) (h : i < s.size) (x0 : UInt8) (hx0 : s[i]'h = x0)  (_c0 : 248 ≤ x0.toNat) :
    Calls Tryd.prog 91 #[.string s, .int .i64 (i : Int)] w fun e w' => e = .returned (.agg #[.int .i64 (-1), .int .i64 i, .int .i64 1]) ∧ Below w.heap.size w w' := by
  have q0 := x0.toNat_lt
  go_enter Tryd.func91, Tryd.ntmps91
  go_wp2
  all_goals (refine bodyPost_ret (results_cell_row rfl _ _ w.heap.size 122 _ (0, 0) _ rfl (two_new w _ _) Tryd.underlying122 rfl infoPc) rfl ?_)
  all_goals exact ⟨rfl, up2 _ _ _⟩

set_option maxRecDepth 100000 in
set_option maxHeartbeats 1000000 in
theorem piece2_short (s : ByteArray) (i : Nat) (w : World) (_hm : i < 140737488355328) (h : i < s.size) (x0 : UInt8) (hx0 : s[i]'h = x0)  (_c0 : 192 ≤ x0.toNat) (_c1 : x0.toNat < 224) (_cs : s.size < i + 2) :
    Calls Tryd.prog 91 #[.string s, .int .i64 (i : Int)] w fun e w' => e = .returned (.agg #[.int .i64 (-1), .int .i64 i, .int .i64 1]) ∧ Below w.heap.size w w' := by
  have q0 := x0.toNat_lt
  go_enter Tryd.func91, Tryd.ntmps91
  go_wp2
  all_goals (refine bodyPost_ret (results_cell_row rfl _ _ w.heap.size 122 _ (0, 0) _ rfl (two_new w _ _) Tryd.underlying122 rfl infoPc) rfl ?_)
  all_goals exact ⟨rfl, up2 _ _ _⟩

set_option maxRecDepth 100000 in
set_option maxHeartbeats 1000000 in
theorem piece2_bad1l (s : ByteArray) (i : Nat) (w : World) (_hm : i < 140737488355328) (h : i < s.size) (x0 : UInt8) (hx0 : s[i]'h = x0) (h1 : i + 1 < s.size) (x1 : UInt8) (hx1 : s[i + 1]'h1 = x1) (_c0 : 192 ≤ x0.toNat) (_c1 : x0.toNat < 224) (_cs : i + 2 ≤ s.size) (_cb : x1.toNat < 128) :
    Calls Tryd.prog 91 #[.string s, .int .i64 (i : Int)] w fun e w' => e = .returned (.agg #[.int .i64 (-1), .int .i64 i, .int .i64 1]) ∧ Below w.heap.size w w' := by
  have q0 := x0.toNat_lt
  have q1 := x1.toNat_lt
  go_enter Tryd.func91, Tryd.ntmps91
  go_wp2
  go_rounds 1
  all_goals (refine bodyPost_ret (results_cell_row rfl _ _ w.heap.size 122 _ (0, 0) _ rfl (two_new w _ _) Tryd.underlying122 rfl infoPc) rfl ?_)
  all_goals exact ⟨rfl, up2 _ _ _⟩

set_option maxRecDepth 100000 in
set_option maxHeartbeats 1000000 in
theorem piece2_bad1g (s : ByteArray) (i : Nat) (w : World) (_hm : i < 140737488355328) (h : i < s.size) (x0 : UInt8) (hx0 : s[i]'h = x0) (h1 : i + 1 < s.size) (x1 : UInt8) (hx1 : s[i + 1]'h1 = x1) (_c0 : 192 ≤ x0.toNat) (_c1 : x0.toNat < 224) (_cs : i + 2 ≤ s.size) (_cb : 191 < x1.toNat) :
    Calls Tryd.prog 91 #[.string s, .int .i64 (i : Int)] w fun e w' => e = .returned (.agg #[.int .i64 (-1), .int .i64 i, .int .i64 1]) ∧ Below w.heap.size w w' := by
  have q0 := x0.toNat_lt
  have q1 := x1.toNat_lt
  go_enter Tryd.func91, Tryd.ntmps91
  go_wp2
  go_rounds 1
  all_goals (refine bodyPost_ret (results_cell_row rfl _ _ w.heap.size 122 _ (0, 0) _ rfl (two_new w _ _) Tryd.underlying122 rfl infoPc) rfl ?_)
  all_goals exact ⟨rfl, up2 _ _ _⟩

set_option maxRecDepth 100000 in
set_option maxHeartbeats 1000000 in
theorem piece2_least (s : ByteArray) (i : Nat) (w : World) (_hm : i < 140737488355328) (h : i < s.size) (x0 : UInt8) (hx0 : s[i]'h = x0) (h1 : i + 1 < s.size) (x1 : UInt8) (hx1 : s[i + 1]'h1 = x1) (_c0 : 192 ≤ x0.toNat) (_c1 : x0.toNat < 224) (_cs : i + 2 ≤ s.size) (_g1a : 128 ≤ x1.toNat) (_g1b : x1.toNat ≤ 191) (_cr : (((x0.toNat : Int) - 192) * 64 + (x1.toNat : Int) - 128) < 128) :
    Calls Tryd.prog 91 #[.string s, .int .i64 (i : Int)] w fun e w' => e = .returned (.agg #[.int .i64 (-1), .int .i64 i, .int .i64 1]) ∧ Below w.heap.size w w' := by
  have q0 := x0.toNat_lt
  have q1 := x1.toNat_lt
  go_enter Tryd.func91, Tryd.ntmps91
  go_wp2
  go_rounds 2
  all_goals (refine bodyPost_ret (results_cell_row rfl _ _ w.heap.size 122 _ (0, 0) _ rfl (two_new w _ _) Tryd.underlying122 rfl infoPc) rfl ?_)
  all_goals exact ⟨rfl, up2 _ _ _⟩

set_option maxRecDepth 100000 in
set_option maxHeartbeats 1000000 in
theorem piece2_ok (s : ByteArray) (i : Nat) (w : World) (_hm : i < 140737488355328) (h : i < s.size) (x0 : UInt8) (hx0 : s[i]'h = x0) (h1 : i + 1 < s.size) (x1 : UInt8) (hx1 : s[i + 1]'h1 = x1) (_c0 : 192 ≤ x0.toNat) (_c1 : x0.toNat < 224) (_cs : i + 2 ≤ s.size) (_g1a : 128 ≤ x1.toNat) (_g1b : x1.toNat ≤ 191) (_cr : 128 ≤ (((x0.toNat : Int) - 192) * 64 + (x1.toNat : Int) - 128)) :
    Calls Tryd.prog 91 #[.string s, .int .i64 (i : Int)] w fun e w' => e = .returned (.agg #[.int .i64 (((x0.toNat : Int) - 192) * 64 + (x1.toNat : Int) - 128), .int .i64 i, .int .i64 2]) ∧ Below w.heap.size w w' := by
  have q0 := x0.toNat_lt
  have q1 := x1.toNat_lt
  go_enter Tryd.func91, Tryd.ntmps91
  go_wp2
  go_rounds 2
  all_goals (refine bodyPost_ret (results_cell_row rfl _ _ w.heap.size 122 _ (0, 0) _ rfl (two_new w _ _) Tryd.underlying122 rfl infoPc) rfl ?_)
  all_goals exact ⟨rfl, up2 _ _ _⟩

set_option maxRecDepth 100000 in
set_option maxHeartbeats 1000000 in
theorem piece3_short (s : ByteArray) (i : Nat) (w : World) (_hm : i < 140737488355328) (h : i < s.size) (x0 : UInt8) (hx0 : s[i]'h = x0)  (_c0 : 224 ≤ x0.toNat) (_c1 : x0.toNat < 240) (_cs : s.size < i + 3) :
    Calls Tryd.prog 91 #[.string s, .int .i64 (i : Int)] w fun e w' => e = .returned (.agg #[.int .i64 (-1), .int .i64 i, .int .i64 1]) ∧ Below w.heap.size w w' := by
  have q0 := x0.toNat_lt
  go_enter Tryd.func91, Tryd.ntmps91
  go_wp2
  all_goals (refine bodyPost_ret (results_cell_row rfl _ _ w.heap.size 122 _ (0, 0) _ rfl (two_new w _ _) Tryd.underlying122 rfl infoPc) rfl ?_)
  all_goals exact ⟨rfl, up2 _ _ _⟩

set_option maxRecDepth 100000 in
set_option maxHeartbeats 1000000 in
theorem piece3_bad1l (s : ByteArray) (i : Nat) (w : World) (_hm : i < 140737488355328) (h : i < s.size) (x0 : UInt8) (hx0 : s[i]'h = x0) (h1 : i + 1 < s.size) (x1 : UInt8) (hx1 : s[i + 1]'h1 = x1) (_c0 : 224 ≤ x0.toNat) (_c1 : x0.toNat < 240) (_cs : i + 3 ≤ s.size) (_cb : x1.toNat < 128) :
    Calls Tryd.prog 91 #[.string s, .int .i64 (i : Int)] w fun e w' => e = .returned (.agg #[.int .i64 (-1), .int .i64 i, .int .i64 1]) ∧ Below w.heap.size w w' := by
  have q0 := x0.toNat_lt
  have q1 := x1.toNat_lt
  go_enter Tryd.func91, Tryd.ntmps91
  go_wp2
  go_rounds 1
  all_goals (refine bodyPost_ret (results_cell_row rfl _ _ w.heap.size 122 _ (0, 0) _ rfl (two_new w _ _) Tryd.underlying122 rfl infoPc) rfl ?_)
  all_goals exact ⟨rfl, up2 _ _ _⟩

set_option maxRecDepth 100000 in
set_option maxHeartbeats 1000000 in
theorem piece3_bad1g (s : ByteArray) (i : Nat) (w : World) (_hm : i < 140737488355328) (h : i < s.size) (x0 : UInt8) (hx0 : s[i]'h = x0) (h1 : i + 1 < s.size) (x1 : UInt8) (hx1 : s[i + 1]'h1 = x1) (_c0 : 224 ≤ x0.toNat) (_c1 : x0.toNat < 240) (_cs : i + 3 ≤ s.size) (_cb : 191 < x1.toNat) :
    Calls Tryd.prog 91 #[.string s, .int .i64 (i : Int)] w fun e w' => e = .returned (.agg #[.int .i64 (-1), .int .i64 i, .int .i64 1]) ∧ Below w.heap.size w w' := by
  have q0 := x0.toNat_lt
  have q1 := x1.toNat_lt
  go_enter Tryd.func91, Tryd.ntmps91
  go_wp2
  go_rounds 1
  all_goals (refine bodyPost_ret (results_cell_row rfl _ _ w.heap.size 122 _ (0, 0) _ rfl (two_new w _ _) Tryd.underlying122 rfl infoPc) rfl ?_)
  all_goals exact ⟨rfl, up2 _ _ _⟩

set_option maxRecDepth 100000 in
set_option maxHeartbeats 1000000 in
theorem piece3_bad2l (s : ByteArray) (i : Nat) (w : World) (_hm : i < 140737488355328) (h : i < s.size) (x0 : UInt8) (hx0 : s[i]'h = x0) (h1 : i + 1 < s.size) (x1 : UInt8) (hx1 : s[i + 1]'h1 = x1) (h2 : i + 2 < s.size) (x2 : UInt8) (hx2 : s[i + 2]'h2 = x2) (_c0 : 224 ≤ x0.toNat) (_c1 : x0.toNat < 240) (_cs : i + 3 ≤ s.size) (_g1a : 128 ≤ x1.toNat) (_g1b : x1.toNat ≤ 191) (_cb : x2.toNat < 128) :
    Calls Tryd.prog 91 #[.string s, .int .i64 (i : Int)] w fun e w' => e = .returned (.agg #[.int .i64 (-1), .int .i64 i, .int .i64 1]) ∧ Below w.heap.size w w' := by
  have q0 := x0.toNat_lt
  have q1 := x1.toNat_lt
  have q2 := x2.toNat_lt
  go_enter Tryd.func91, Tryd.ntmps91
  go_wp2
  go_rounds 2
  all_goals (refine bodyPost_ret (results_cell_row rfl _ _ w.heap.size 122 _ (0, 0) _ rfl (two_new w _ _) Tryd.underlying122 rfl infoPc) rfl ?_)
  all_goals exact ⟨rfl, up2 _ _ _⟩

set_option maxRecDepth 100000 in
set_option maxHeartbeats 1000000 in
theorem piece3_bad2g (s : ByteArray) (i : Nat) (w : World) (_hm : i < 140737488355328) (h : i < s.size) (x0 : UInt8) (hx0 : s[i]'h = x0) (h1 : i + 1 < s.size) (x1 : UInt8) (hx1 : s[i + 1]'h1 = x1) (h2 : i + 2 < s.size) (x2 : UInt8) (hx2 : s[i + 2]'h2 = x2) (_c0 : 224 ≤ x0.toNat) (_c1 : x0.toNat < 240) (_cs : i + 3 ≤ s.size) (_g1a : 128 ≤ x1.toNat) (_g1b : x1.toNat ≤ 191) (_cb : 191 < x2.toNat) :
    Calls Tryd.prog 91 #[.string s, .int .i64 (i : Int)] w fun e w' => e = .returned (.agg #[.int .i64 (-1), .int .i64 i, .int .i64 1]) ∧ Below w.heap.size w w' := by
  have q0 := x0.toNat_lt
  have q1 := x1.toNat_lt
  have q2 := x2.toNat_lt
  go_enter Tryd.func91, Tryd.ntmps91
  go_wp2
  go_rounds 2
  all_goals (refine bodyPost_ret (results_cell_row rfl _ _ w.heap.size 122 _ (0, 0) _ rfl (two_new w _ _) Tryd.underlying122 rfl infoPc) rfl ?_)
  all_goals exact ⟨rfl, up2 _ _ _⟩

set_option maxRecDepth 100000 in
set_option maxHeartbeats 1000000 in
theorem piece3_least (s : ByteArray) (i : Nat) (w : World) (_hm : i < 140737488355328) (h : i < s.size) (x0 : UInt8) (hx0 : s[i]'h = x0) (h1 : i + 1 < s.size) (x1 : UInt8) (hx1 : s[i + 1]'h1 = x1) (h2 : i + 2 < s.size) (x2 : UInt8) (hx2 : s[i + 2]'h2 = x2) (_c0 : 224 ≤ x0.toNat) (_c1 : x0.toNat < 240) (_cs : i + 3 ≤ s.size) (_g1a : 128 ≤ x1.toNat) (_g1b : x1.toNat ≤ 191) (_g2a : 128 ≤ x2.toNat) (_g2b : x2.toNat ≤ 191) (_cr : ((((x0.toNat : Int) - 224) * 64 + (x1.toNat : Int) - 128) * 64 + (x2.toNat : Int) - 128) < 2048) :
    Calls Tryd.prog 91 #[.string s, .int .i64 (i : Int)] w fun e w' => e = .returned (.agg #[.int .i64 (-1), .int .i64 i, .int .i64 1]) ∧ Below w.heap.size w w' := by
  have q0 := x0.toNat_lt
  have q1 := x1.toNat_lt
  have q2 := x2.toNat_lt
  go_enter Tryd.func91, Tryd.ntmps91
  go_wp2
  go_rounds 3
  all_goals (refine bodyPost_ret (results_cell_row rfl _ _ w.heap.size 122 _ (0, 0) _ rfl (two_new w _ _) Tryd.underlying122 rfl infoPc) rfl ?_)
  all_goals exact ⟨rfl, up2 _ _ _⟩

set_option maxRecDepth 100000 in
set_option maxHeartbeats 1000000 in
theorem piece3_sur (s : ByteArray) (i : Nat) (w : World) (_hm : i < 140737488355328) (h : i < s.size) (x0 : UInt8) (hx0 : s[i]'h = x0) (h1 : i + 1 < s.size) (x1 : UInt8) (hx1 : s[i + 1]'h1 = x1) (h2 : i + 2 < s.size) (x2 : UInt8) (hx2 : s[i + 2]'h2 = x2) (_c0 : 224 ≤ x0.toNat) (_c1 : x0.toNat < 240) (_cs : i + 3 ≤ s.size) (_g1a : 128 ≤ x1.toNat) (_g1b : x1.toNat ≤ 191) (_g2a : 128 ≤ x2.toNat) (_g2b : x2.toNat ≤ 191) (_cr : 55296 ≤ ((((x0.toNat : Int) - 224) * 64 + (x1.toNat : Int) - 128) * 64 + (x2.toNat : Int) - 128)) (_cr2 : ((((x0.toNat : Int) - 224) * 64 + (x1.toNat : Int) - 128) * 64 + (x2.toNat : Int) - 128) ≤ 57343) :
    Calls Tryd.prog 91 #[.string s, .int .i64 (i : Int)] w fun e w' => e = .returned (.agg #[.int .i64 (-1), .int .i64 i, .int .i64 1]) ∧ Below w.heap.size w w' := by
  have q0 := x0.toNat_lt
  have q1 := x1.toNat_lt
  have q2 := x2.toNat_lt
  go_enter Tryd.func91, Tryd.ntmps91
  go_wp2
  go_rounds 3
  all_goals (refine bodyPost_ret (results_cell_row rfl _ _ w.heap.size 122 _ (0, 0) _ rfl (two_new w _ _) Tryd.underlying122 rfl infoPc) rfl ?_)
  all_goals exact ⟨rfl, up2 _ _ _⟩

set_option maxRecDepth 100000 in
set_option maxHeartbeats 1000000 in
theorem piece3_ok (s : ByteArray) (i : Nat) (w : World) (_hm : i < 140737488355328) (h : i < s.size) (x0 : UInt8) (hx0 : s[i]'h = x0) (h1 : i + 1 < s.size) (x1 : UInt8) (hx1 : s[i + 1]'h1 = x1) (h2 : i + 2 < s.size) (x2 : UInt8) (hx2 : s[i + 2]'h2 = x2) (_c0 : 224 ≤ x0.toNat) (_c1 : x0.toNat < 240) (_cs : i + 3 ≤ s.size) (_g1a : 128 ≤ x1.toNat) (_g1b : x1.toNat ≤ 191) (_g2a : 128 ≤ x2.toNat) (_g2b : x2.toNat ≤ 191) (_cr : 2048 ≤ ((((x0.toNat : Int) - 224) * 64 + (x1.toNat : Int) - 128) * 64 + (x2.toNat : Int) - 128)) (_cr2 : ((((x0.toNat : Int) - 224) * 64 + (x1.toNat : Int) - 128) * 64 + (x2.toNat : Int) - 128) < 55296) :
    Calls Tryd.prog 91 #[.string s, .int .i64 (i : Int)] w fun e w' => e = .returned (.agg #[.int .i64 ((((x0.toNat : Int) - 224) * 64 + (x1.toNat : Int) - 128) * 64 + (x2.toNat : Int) - 128), .int .i64 i, .int .i64 3]) ∧ Below w.heap.size w w' := by
  have q0 := x0.toNat_lt
  have q1 := x1.toNat_lt
  have q2 := x2.toNat_lt
  go_enter Tryd.func91, Tryd.ntmps91
  go_wp2
  go_rounds 3
  all_goals (refine bodyPost_ret (results_cell_row rfl _ _ w.heap.size 122 _ (0, 0) _ rfl (two_new w _ _) Tryd.underlying122 rfl infoPc) rfl ?_)
  all_goals exact ⟨rfl, up2 _ _ _⟩

set_option maxRecDepth 100000 in
set_option maxHeartbeats 1000000 in
theorem piece3_okk (s : ByteArray) (i : Nat) (w : World) (_hm : i < 140737488355328) (h : i < s.size) (x0 : UInt8) (hx0 : s[i]'h = x0) (h1 : i + 1 < s.size) (x1 : UInt8) (hx1 : s[i + 1]'h1 = x1) (h2 : i + 2 < s.size) (x2 : UInt8) (hx2 : s[i + 2]'h2 = x2) (_c0 : 224 ≤ x0.toNat) (_c1 : x0.toNat < 240) (_cs : i + 3 ≤ s.size) (_g1a : 128 ≤ x1.toNat) (_g1b : x1.toNat ≤ 191) (_g2a : 128 ≤ x2.toNat) (_g2b : x2.toNat ≤ 191) (_cr : 57343 < ((((x0.toNat : Int) - 224) * 64 + (x1.toNat : Int) - 128) * 64 + (x2.toNat : Int) - 128)) :
    Calls Tryd.prog 91 #[.string s, .int .i64 (i : Int)] w fun e w' => e = .returned (.agg #[.int .i64 ((((x0.toNat : Int) - 224) * 64 + (x1.toNat : Int) - 128) * 64 + (x2.toNat : Int) - 128), .int .i64 i, .int .i64 3]) ∧ Below w.heap.size w w' := by
  have q0 := x0.toNat_lt
  have q1 := x1.toNat_lt
  have q2 := x2.toNat_lt
  go_enter Tryd.func91, Tryd.ntmps91
  go_wp2
  go_rounds 3
  all_goals (refine bodyPost_ret (results_cell_row rfl _ _ w.heap.size 122 _ (0, 0) _ rfl (two_new w _ _) Tryd.underlying122 rfl infoPc) rfl ?_)
  all_goals exact ⟨rfl, up2 _ _ _⟩

set_option maxRecDepth 100000 in
set_option maxHeartbeats 1000000 in
theorem piece4_short (s : ByteArray) (i : Nat) (w : World) (_hm : i < 140737488355328) (h : i < s.size) (x0 : UInt8) (hx0 : s[i]'h = x0)  (_c0 : 240 ≤ x0.toNat) (_c1 : x0.toNat < 248) (_cs : s.size < i + 4) :
    Calls Tryd.prog 91 #[.string s, .int .i64 (i : Int)] w fun e w' => e = .returned (.agg #[.int .i64 (-1), .int .i64 i, .int .i64 1]) ∧ Below w.heap.size w w' := by
  have q0 := x0.toNat_lt
  go_enter Tryd.func91, Tryd.ntmps91
  go_wp2
  all_goals (refine bodyPost_ret (results_cell_row rfl _ _ w.heap.size 122 _ (0, 0) _ rfl (two_new w _ _) Tryd.underlying122 rfl infoPc) rfl ?_)
  all_goals exact ⟨rfl, up2 _ _ _⟩

set_option maxRecDepth 100000 in
set_option maxHeartbeats 1000000 in
theorem piece4_bad1l (s : ByteArray) (i : Nat) (w : World) (_hm : i < 140737488355328) (h : i < s.size) (x0 : UInt8) (hx0 : s[i]'h = x0) (h1 : i + 1 < s.size) (x1 : UInt8) (hx1 : s[i + 1]'h1 = x1) (_c0 : 240 ≤ x0.toNat) (_c1 : x0.toNat < 248) (_cs : i + 4 ≤ s.size) (_cb : x1.toNat < 128) :
    Calls Tryd.prog 91 #[.string s, .int .i64 (i : Int)] w fun e w' => e = .returned (.agg #[.int .i64 (-1), .int .i64 i, .int .i64 1]) ∧ Below w.heap.size w w' := by
  have q0 := x0.toNat_lt
  have q1 := x1.toNat_lt
  go_enter Tryd.func91, Tryd.ntmps91
  go_wp2
  go_rounds 1
  all_goals (refine bodyPost_ret (results_cell_row rfl _ _ w.heap.size 122 _ (0, 0) _ rfl (two_new w _ _) Tryd.underlying122 rfl infoPc) rfl ?_)
  all_goals exact ⟨rfl, up2 _ _ _⟩

set_option maxRecDepth 100000 in
set_option maxHeartbeats 1000000 in
theorem piece4_bad1g (s : ByteArray) (i : Nat) (w : World) (_hm : i < 140737488355328) (h : i < s.size) (x0 : UInt8) (hx0 : s[i]'h = x0) (h1 : i + 1 < s.size) (x1 : UInt8) (hx1 : s[i + 1]'h1 = x1) (_c0 : 240 ≤ x0.toNat) (_c1 : x0.toNat < 248) (_cs : i + 4 ≤ s.size) (_cb : 191 < x1.toNat) :
    Calls Tryd.prog 91 #[.string s, .int .i64 (i : Int)] w fun e w' => e = .returned (.agg #[.int .i64 (-1), .int .i64 i, .int .i64 1]) ∧ Below w.heap.size w w' := by
  have q0 := x0.toNat_lt
  have q1 := x1.toNat_lt
  go_enter Tryd.func91, Tryd.ntmps91
  go_wp2
  go_rounds 1
  all_goals (refine bodyPost_ret (results_cell_row rfl _ _ w.heap.size 122 _ (0, 0) _ rfl (two_new w _ _) Tryd.underlying122 rfl infoPc) rfl ?_)
  all_goals exact ⟨rfl, up2 _ _ _⟩

set_option maxRecDepth 100000 in
set_option maxHeartbeats 1000000 in
theorem piece4_bad2l (s : ByteArray) (i : Nat) (w : World) (_hm : i < 140737488355328) (h : i < s.size) (x0 : UInt8) (hx0 : s[i]'h = x0) (h1 : i + 1 < s.size) (x1 : UInt8) (hx1 : s[i + 1]'h1 = x1) (h2 : i + 2 < s.size) (x2 : UInt8) (hx2 : s[i + 2]'h2 = x2) (_c0 : 240 ≤ x0.toNat) (_c1 : x0.toNat < 248) (_cs : i + 4 ≤ s.size) (_g1a : 128 ≤ x1.toNat) (_g1b : x1.toNat ≤ 191) (_cb : x2.toNat < 128) :
    Calls Tryd.prog 91 #[.string s, .int .i64 (i : Int)] w fun e w' => e = .returned (.agg #[.int .i64 (-1), .int .i64 i, .int .i64 1]) ∧ Below w.heap.size w w' := by
  have q0 := x0.toNat_lt
  have q1 := x1.toNat_lt
  have q2 := x2.toNat_lt
  go_enter Tryd.func91, Tryd.ntmps91
  go_wp2
  go_rounds 2
  all_goals (refine bodyPost_ret (results_cell_row rfl _ _ w.heap.size 122 _ (0, 0) _ rfl (two_new w _ _) Tryd.underlying122 rfl infoPc) rfl ?_)
  all_goals exact ⟨rfl, up2 _ _ _⟩

set_option maxRecDepth 100000 in
set_option maxHeartbeats 1000000 in
theorem piece4_bad2g (s : ByteArray) (i : Nat) (w : World) (_hm : i < 140737488355328) (h : i < s.size) (x0 : UInt8) (hx0 : s[i]'h = x0) (h1 : i + 1 < s.size) (x1 : UInt8) (hx1 : s[i + 1]'h1 = x1) (h2 : i + 2 < s.size) (x2 : UInt8) (hx2 : s[i + 2]'h2 = x2) (_c0 : 240 ≤ x0.toNat) (_c1 : x0.toNat < 248) (_cs : i + 4 ≤ s.size) (_g1a : 128 ≤ x1.toNat) (_g1b : x1.toNat ≤ 191) (_cb : 191 < x2.toNat) :
    Calls Tryd.prog 91 #[.string s, .int .i64 (i : Int)] w fun e w' => e = .returned (.agg #[.int .i64 (-1), .int .i64 i, .int .i64 1]) ∧ Below w.heap.size w w' := by
  have q0 := x0.toNat_lt
  have q1 := x1.toNat_lt
  have q2 := x2.toNat_lt
  go_enter Tryd.func91, Tryd.ntmps91
  go_wp2
  go_rounds 2
  all_goals (refine bodyPost_ret (results_cell_row rfl _ _ w.heap.size 122 _ (0, 0) _ rfl (two_new w _ _) Tryd.underlying122 rfl infoPc) rfl ?_)
  all_goals exact ⟨rfl, up2 _ _ _⟩

set_option maxRecDepth 100000 in
set_option maxHeartbeats 1000000 in
theorem piece4_bad3l (s : ByteArray) (i : Nat) (w : World) (_hm : i < 140737488355328) (h : i < s.size) (x0 : UInt8) (hx0 : s[i]'h = x0) (h1 : i + 1 < s.size) (x1 : UInt8) (hx1 : s[i + 1]'h1 = x1) (h2 : i + 2 < s.size) (x2 : UInt8) (hx2 : s[i + 2]'h2 = x2) (h3 : i + 3 < s.size) (x3 : UInt8) (hx3 : s[i + 3]'h3 = x3) (_c0 : 240 ≤ x0.toNat) (_c1 : x0.toNat < 248) (_cs : i + 4 ≤ s.size) (_g1a : 128 ≤ x1.toNat) (_g1b : x1.toNat ≤ 191) (_g2a : 128 ≤ x2.toNat) (_g2b : x2.toNat ≤ 191) (_cb : x3.toNat < 128) :
    Calls Tryd.prog 91 #[.string s, .int .i64 (i : Int)] w fun e w' => e = .returned (.agg #[.int .i64 (-1), .int .i64 i, .int .i64 1]) ∧ Below w.heap.size w w' := by
  have q0 := x0.toNat_lt
  have q1 := x1.toNat_lt
  have q2 := x2.toNat_lt
  have q3 := x3.toNat_lt
  go_enter Tryd.func91, Tryd.ntmps91
  go_wp2
  go_rounds 3
  all_goals (refine bodyPost_ret (results_cell_row rfl _ _ w.heap.size 122 _ (0, 0) _ rfl (two_new w _ _) Tryd.underlying122 rfl infoPc) rfl ?_)
  all_goals exact ⟨rfl, up2 _ _ _⟩

set_option maxRecDepth 100000 in
set_option maxHeartbeats 1000000 in
theorem piece4_bad3g (s : ByteArray) (i : Nat) (w : World) (_hm : i < 140737488355328) (h : i < s.size) (x0 : UInt8) (hx0 : s[i]'h = x0) (h1 : i + 1 < s.size) (x1 : UInt8) (hx1 : s[i + 1]'h1 = x1) (h2 : i + 2 < s.size) (x2 : UInt8) (hx2 : s[i + 2]'h2 = x2) (h3 : i + 3 < s.size) (x3 : UInt8) (hx3 : s[i + 3]'h3 = x3) (_c0 : 240 ≤ x0.toNat) (_c1 : x0.toNat < 248) (_cs : i + 4 ≤ s.size) (_g1a : 128 ≤ x1.toNat) (_g1b : x1.toNat ≤ 191) (_g2a : 128 ≤ x2.toNat) (_g2b : x2.toNat ≤ 191) (_cb : 191 < x3.toNat) :
    Calls Tryd.prog 91 #[.string s, .int .i64 (i : Int)] w fun e w' => e = .returned (.agg #[.int .i64 (-1), .int .i64 i, .int .i64 1]) ∧ Below w.heap.size w w' := by
  have q0 := x0.toNat_lt
  have q1 := x1.toNat_lt
  have q2 := x2.toNat_lt
  have q3 := x3.toNat_lt
  go_enter Tryd.func91, Tryd.ntmps91
  go_wp2
  go_rounds 3
  all_goals (refine bodyPost_ret (results_cell_row rfl _ _ w.heap.size 122 _ (0, 0) _ rfl (two_new w _ _) Tryd.underlying122 rfl infoPc) rfl ?_)
  all_goals exact ⟨rfl, up2 _ _ _⟩

set_option maxRecDepth 100000 in
set_option maxHeartbeats 1000000 in
theorem piece4_least (s : ByteArray) (i : Nat) (w : World) (_hm : i < 140737488355328) (h : i < s.size) (x0 : UInt8) (hx0 : s[i]'h = x0) (h1 : i + 1 < s.size) (x1 : UInt8) (hx1 : s[i + 1]'h1 = x1) (h2 : i + 2 < s.size) (x2 : UInt8) (hx2 : s[i + 2]'h2 = x2) (h3 : i + 3 < s.size) (x3 : UInt8) (hx3 : s[i + 3]'h3 = x3) (_c0 : 240 ≤ x0.toNat) (_c1 : x0.toNat < 248) (_cs : i + 4 ≤ s.size) (_g1a : 128 ≤ x1.toNat) (_g1b : x1.toNat ≤ 191) (_g2a : 128 ≤ x2.toNat) (_g2b : x2.toNat ≤ 191) (_g3a : 128 ≤ x3.toNat) (_g3b : x3.toNat ≤ 191) (_cr : (((((x0.toNat : Int) - 240) * 64 + (x1.toNat : Int) - 128) * 64 + (x2.toNat : Int) - 128) * 64 + (x3.toNat : Int) - 128) < 65536) :
    Calls Tryd.prog 91 #[.string s, .int .i64 (i : Int)] w fun e w' => e = .returned (.agg #[.int .i64 (-1), .int .i64 i, .int .i64 1]) ∧ Below w.heap.size w w' := by
  have q0 := x0.toNat_lt
  have q1 := x1.toNat_lt
  have q2 := x2.toNat_lt
  have q3 := x3.toNat_lt
  go_enter Tryd.func91, Tryd.ntmps91
  go_wp2
  go_rounds 4
  all_goals (refine bodyPost_ret (results_cell_row rfl _ _ w.heap.size 122 _ (0, 0) _ rfl (two_new w _ _) Tryd.underlying122 rfl infoPc) rfl ?_)
  all_goals exact ⟨rfl, up2 _ _ _⟩

set_option maxRecDepth 100000 in
set_option maxHeartbeats 1000000 in
theorem piece4_big (s : ByteArray) (i : Nat) (w : World) (_hm : i < 140737488355328) (h : i < s.size) (x0 : UInt8) (hx0 : s[i]'h = x0) (h1 : i + 1 < s.size) (x1 : UInt8) (hx1 : s[i + 1]'h1 = x1) (h2 : i + 2 < s.size) (x2 : UInt8) (hx2 : s[i + 2]'h2 = x2) (h3 : i + 3 < s.size) (x3 : UInt8) (hx3 : s[i + 3]'h3 = x3) (_c0 : 240 ≤ x0.toNat) (_c1 : x0.toNat < 248) (_cs : i + 4 ≤ s.size) (_g1a : 128 ≤ x1.toNat) (_g1b : x1.toNat ≤ 191) (_g2a : 128 ≤ x2.toNat) (_g2b : x2.toNat ≤ 191) (_g3a : 128 ≤ x3.toNat) (_g3b : x3.toNat ≤ 191) (_cr : 1114111 < (((((x0.toNat : Int) - 240) * 64 + (x1.toNat : Int) - 128) * 64 + (x2.toNat : Int) - 128) * 64 + (x3.toNat : Int) - 128)) :
    Calls Tryd.prog 91 #[.string s, .int .i64 (i : Int)] w fun e w' => e = .returned (.agg #[.int .i64 (-1), .int .i64 i, .int .i64 1]) ∧ Below w.heap.size w w' := by
  have q0 := x0.toNat_lt
  have q1 := x1.toNat_lt
  have q2 := x2.toNat_lt
  have q3 := x3.toNat_lt
  go_enter Tryd.func91, Tryd.ntmps91
  go_wp2
  go_rounds 4
  all_goals (refine bodyPost_ret (results_cell_row rfl _ _ w.heap.size 122 _ (0, 0) _ rfl (two_new w _ _) Tryd.underlying122 rfl infoPc) rfl ?_)
  all_goals exact ⟨rfl, up2 _ _ _⟩

set_option maxRecDepth 100000 in
set_option maxHeartbeats 1000000 in
theorem piece4_ok (s : ByteArray) (i : Nat) (w : World) (_hm : i < 140737488355328) (h : i < s.size) (x0 : UInt8) (hx0 : s[i]'h = x0) (h1 : i + 1 < s.size) (x1 : UInt8) (hx1 : s[i + 1]'h1 = x1) (h2 : i + 2 < s.size) (x2 : UInt8) (hx2 : s[i + 2]'h2 = x2) (h3 : i + 3 < s.size) (x3 : UInt8) (hx3 : s[i + 3]'h3 = x3) (_c0 : 240 ≤ x0.toNat) (_c1 : x0.toNat < 248) (_cs : i + 4 ≤ s.size) (_g1a : 128 ≤ x1.toNat) (_g1b : x1.toNat ≤ 191) (_g2a : 128 ≤ x2.toNat) (_g2b : x2.toNat ≤ 191) (_g3a : 128 ≤ x3.toNat) (_g3b : x3.toNat ≤ 191) (_cr : 65536 ≤ (((((x0.toNat : Int) - 240) * 64 + (x1.toNat : Int) - 128) * 64 + (x2.toNat : Int) - 128) * 64 + (x3.toNat : Int) - 128)) (_cr2 : (((((x0.toNat : Int) - 240) * 64 + (x1.toNat : Int) - 128) * 64 + (x2.toNat : Int) - 128) * 64 + (x3.toNat : Int) - 128) ≤ 1114111) :
    Calls Tryd.prog 91 #[.string s, .int .i64 (i : Int)] w fun e w' => e = .returned (.agg #[.int .i64 (((((x0.toNat : Int) - 240) * 64 + (x1.toNat : Int) - 128) * 64 + (x2.toNat : Int) - 128) * 64 + (x3.toNat : Int) - 128), .int .i64 i, .int .i64 4]) ∧ Below w.heap.size w w' := by
  have q0 := x0.toNat_lt
  have q1 := x1.toNat_lt
  have q2 := x2.toNat_lt
  have q3 := x3.toNat_lt
  go_enter Tryd.func91, Tryd.ntmps91
  go_wp2
  go_rounds 4
  all_goals (refine bodyPost_ret (results_cell_row rfl _ _ w.heap.size 122 _ (0, 0) _ rfl (two_new w _ _) Tryd.underlying122 rfl infoPc) rfl ?_)
  all_goals exact ⟨rfl, up2 _ _ _⟩

end Go.Proofs.YtenhaogheilmoaaDoor.Text

/-
  The reference's pieces and the model's reading are one.
-/
namespace Go.Proofs.YtenhaogheilmoaaDoor.Text
open Go Go.RowKit
open Tx

namespace Tx
/-- the reference's way: a rune and its width, or a stray byte -/
def pcF (f : Nat → Nat) (n : Nat) : Option (Nat × Nat) :=
  if f 0 < 128 then some (f 0, 1)
  else if f 0 < 192 then none
  else if f 0 < 224 then (if 2 ≤ n ∧ 128 ≤ f 1 ∧ f 1 ≤ 191 ∧ 128 ≤ (f 0 - 192) * 64 + (f 1 - 128) then some ((f 0 - 192) * 64 + (f 1 - 128), 2) else none)
  else if f 0 < 240 then (if 3 ≤ n ∧ 128 ≤ f 1 ∧ f 1 ≤ 191 ∧ 128 ≤ f 2 ∧ f 2 ≤ 191 ∧ 2048 ≤ (f 0 - 224) * 4096 + (f 1 - 128) * 64 + (f 2 - 128) ∧ ¬ (55296 ≤ (f 0 - 224) * 4096 + (f 1 - 128) * 64 + (f 2 - 128) ∧ (f 0 - 224) * 4096 + (f 1 - 128) * 64 + (f 2 - 128) ≤ 57343) then some ((f 0 - 224) * 4096 + (f 1 - 128) * 64 + (f 2 - 128), 3) else none)
  else if f 0 < 248 then (if 4 ≤ n ∧ 128 ≤ f 1 ∧ f 1 ≤ 191 ∧ 128 ≤ f 2 ∧ f 2 ≤ 191 ∧ 128 ≤ f 3 ∧ f 3 ≤ 191 ∧ 65536 ≤ (f 0 - 240) * 262144 + (f 1 - 128) * 4096 + (f 2 - 128) * 64 + (f 3 - 128) ∧ (f 0 - 240) * 262144 + (f 1 - 128) * 4096 + (f 2 - 128) * 64 + (f 3 - 128) ≤ 1114111 then some ((f 0 - 240) * 262144 + (f 1 - 128) * 4096 + (f 2 - 128) * 64 + (f 3 - 128), 4) else none)
  else none

set_option maxRecDepth 100000 in
theorem pcF_eq (f : Nat → Nat) (n : Nat) (h0 : f 0 < 256) (h1 : f 1 < 256) (h2 : f 2 < 256) (h3 : f 3 < 256) : pcF f n = if 128 ≤ f 0 ∧ (rd f n).2 = 1 then none else some (rd f n) := by
  unfold pcF rd
  generalize f 0 = b0 at *
  generalize f 1 = b1 at *
  generalize f 2 = b2 at *
  generalize f 3 = b3 at *
  by_cases a0 : b0 < 128
  · simp [a0]
  simp only [a0, if_false]
  have a0' : 128 ≤ b0 := by omega
  by_cases a1 : b0 < 192
  · have e1 : ¬ b0 / 32 = 6 := by omega
    have e2 : ¬ b0 / 16 = 14 := by omega
    have e3 : ¬ b0 / 8 = 30 := by omega
    simp [a1, e1, e2, e3, a0']
  simp only [a1, if_false]
  by_cases a2 : b0 < 224
  · have e1 : b0 / 32 = 6 := by omega
    simp only [a2, if_true, e1]
    by_cases c1 : 1 < n ∧ b1 / 64 = 2
    · have c2 : 2 ≤ n ∧ 128 ≤ b1 ∧ b1 ≤ 191 := by omega
      have r : (b0 - 192) * 64 + (b1 - 128) = b0 % 32 * 64 + b1 % 64 := by omega
      simp only [r]
      by_cases c3 : 128 ≤ b0 % 32 * 64 + b1 % 64
      · simp [c1, c2, c3]
      · simp [c1, c2, c3, a0']
    · have c2 : ¬ (2 ≤ n ∧ 128 ≤ b1 ∧ b1 ≤ 191 ∧ 128 ≤ (b0 - 192) * 64 + (b1 - 128)) := by omega
      rw [if_neg c2]
      have c3 : ¬ (decide (1 < n) && b1 / 64 == 2) = true := by simpa using c1
      simp [c3, a0']
  simp only [a2, if_false]
  have e1 : ¬ b0 / 32 = 6 := by omega
  by_cases a3 : b0 < 240
  · have e2 : b0 / 16 = 14 := by omega
    have e3 : ¬ b0 / 8 = 30 := by omega
    simp only [a3, if_true]
    by_cases c1 : 1 < n ∧ b1 / 64 = 2 ∧ 2 < n ∧ b2 / 64 = 2
    · have c2 : 3 ≤ n ∧ 128 ≤ b1 ∧ b1 ≤ 191 ∧ 128 ≤ b2 ∧ b2 ≤ 191 := by omega
      have r : (b0 - 224) * 4096 + (b1 - 128) * 64 + (b2 - 128) = b0 % 16 * 4096 + b1 % 64 * 64 + b2 % 64 := by omega
      simp only [r]
      have cc : (b0 / 16 == 14 && (decide (1 < n) && b1 / 64 == 2) && (decide (2 < n) && b2 / 64 == 2)) = true := by simp [e2, c1]
      have c0 : ¬ (b0 / 32 == 6 && (decide (1 < n) && b1 / 64 == 2)) = true := by simp [e1]
      rw [if_neg c0, if_pos cc]
      obtain ⟨v, hv⟩ : ∃ v, b0 % 16 * 4096 + b1 % 64 * 64 + b2 % 64 = v := ⟨_, rfl⟩
      have hv2 : v ≤ 65535 := by omega
      simp only [hv]
      clear hv r
      by_cases c3 : 2048 ≤ v ∧ ¬ (55296 ≤ v ∧ v ≤ 57343)
      · have c4 : (decide (v ≥ 2048) && Utf8.valid (v : Int)) = true := by simp [Utf8.valid]; omega
        rw [if_pos ⟨c2.1, c2.2.1, c2.2.2.1, c2.2.2.2.1, c2.2.2.2.2, c3.1, c3.2⟩, if_pos c4]
        simp
      · have c4 : ¬ (decide (v ≥ 2048) && Utf8.valid (v : Int)) = true := by simp [Utf8.valid]; omega
        rw [if_neg (by omega), if_neg c4]
        simp [a0']
    · have c2 : ¬ (3 ≤ n ∧ 128 ≤ b1 ∧ b1 ≤ 191 ∧ 128 ≤ b2 ∧ b2 ≤ 191) := by omega
      have cc : ¬ (b0 / 16 == 14 && (decide (1 < n) && b1 / 64 == 2) && (decide (2 < n) && b2 / 64 == 2)) = true := by simp; omega
      have c0 : ¬ (b0 / 32 == 6 && (decide (1 < n) && b1 / 64 == 2)) = true := by simp [e1]
      have cd : ¬ (b0 / 8 == 30 && (decide (1 < n) && b1 / 64 == 2) && (decide (2 < n) && b2 / 64 == 2) && (decide (3 < n) && b3 / 64 == 2)) = true := by simp [e3]
      rw [if_neg c0, if_neg cc, if_neg cd, if_neg (fun h => c2 ⟨h.1, h.2.1, h.2.2.1, h.2.2.2.1, h.2.2.2.2.1⟩)]
      simp [a0']
  simp only [a3, if_false]
  have e2 : ¬ b0 / 16 = 14 := by omega
  have c0 : ¬ (b0 / 32 == 6 && (decide (1 < n) && b1 / 64 == 2)) = true := by simp [e1]
  have cc : ¬ (b0 / 16 == 14 && (decide (1 < n) && b1 / 64 == 2) && (decide (2 < n) && b2 / 64 == 2)) = true := by simp [e2]
  rw [if_neg c0, if_neg cc]
  by_cases a4 : b0 < 248
  · have e3 : b0 / 8 = 30 := by omega
    simp only [a4, if_true]
    by_cases c1 : 1 < n ∧ b1 / 64 = 2 ∧ 2 < n ∧ b2 / 64 = 2 ∧ 3 < n ∧ b3 / 64 = 2
    · have c2 : 4 ≤ n ∧ 128 ≤ b1 ∧ b1 ≤ 191 ∧ 128 ≤ b2 ∧ b2 ≤ 191 ∧ 128 ≤ b3 ∧ b3 ≤ 191 := by omega
      have r : (b0 - 240) * 262144 + (b1 - 128) * 4096 + (b2 - 128) * 64 + (b3 - 128) = b0 % 8 * 262144 + b1 % 64 * 4096 + b2 % 64 * 64 + b3 % 64 := by omega
      simp only [r]
      have cd : (b0 / 8 == 30 && (decide (1 < n) && b1 / 64 == 2) && (decide (2 < n) && b2 / 64 == 2) && (decide (3 < n) && b3 / 64 == 2)) = true := by simp [e3, c1]
      rw [if_pos cd]
      obtain ⟨v, hv⟩ : ∃ v, b0 % 8 * 262144 + b1 % 64 * 4096 + b2 % 64 * 64 + b3 % 64 = v := ⟨_, rfl⟩
      simp only [hv]
      clear hv r
      by_cases c3 : 65536 ≤ v ∧ v ≤ 1114111
      · have c4 : (decide (v ≥ 65536) && Utf8.valid (v : Int)) = true := by simp [Utf8.valid]; omega
        rw [if_pos ⟨c2.1, c2.2.1, c2.2.2.1, c2.2.2.2.1, c2.2.2.2.2.1, c2.2.2.2.2.2.1, c2.2.2.2.2.2.2, c3.1, c3.2⟩, if_pos c4]
        simp
      · have c4 : ¬ (decide (v ≥ 65536) && Utf8.valid (v : Int)) = true := by simp [Utf8.valid]; omega
        rw [if_neg (by omega), if_neg c4]
        simp [a0']
    · have c2 : ¬ (4 ≤ n ∧ 128 ≤ b1 ∧ b1 ≤ 191 ∧ 128 ≤ b2 ∧ b2 ≤ 191 ∧ 128 ≤ b3 ∧ b3 ≤ 191) := by omega
      have cd : ¬ (b0 / 8 == 30 && (decide (1 < n) && b1 / 64 == 2) && (decide (2 < n) && b2 / 64 == 2) && (decide (3 < n) && b3 / 64 == 2)) = true := by simp; omega
      rw [if_neg cd, if_neg (fun h => c2 ⟨h.1, h.2.1, h.2.2.1, h.2.2.2.1, h.2.2.2.2.1, h.2.2.2.2.2.1, h.2.2.2.2.2.2.1⟩)]
      simp [a0']
  · have e3 : ¬ b0 / 8 = 30 := by omega
    have cd : ¬ (b0 / 8 == 30 && (decide (1 < n) && b1 / 64 == 2) && (decide (2 < n) && b2 / 64 == 2) && (decide (3 < n) && b3 / 64 == 2)) = true := by simp [e3]
    rw [if_neg cd]
    simp [a4, a0']
/-- a piece's number -/
def pcR (s : ByteArray) (i : Nat) : Int := if stray s i then -1 else ((Utf8.decode s i).1 : Int)
theorem pc_of (s : ByteArray) (i : Nat) : pcF (fun k => at' s (i + k)) (s.size - i) = if stray s i then none else some (Utf8.decode s i) := by
  rw [pcF_eq (fun k => at' s (i + k)) (s.size - i) (at_lt _ _) (at_lt _ _) (at_lt _ _) (at_lt _ _), ← decode_eq]
  unfold stray
  simp
theorem pc_none (s : ByteArray) (i : Nat) (h : pcF (fun k => at' s (i + k)) (s.size - i) = none) : pcR s i = -1 ∧ (Utf8.decode s i).2 = 1 := by
  rw [pc_of] at h
  unfold pcR
  cases hs : stray s i with
  | false => rw [hs] at h; simp at h
  | true =>
    unfold stray at hs
    simp at hs
    exact ⟨rfl, hs.2⟩
theorem pc_some (s : ByteArray) (i : Nat) (r n : Nat) (h : pcF (fun k => at' s (i + k)) (s.size - i) = some (r, n)) : pcR s i = (r : Int) ∧ (Utf8.decode s i).2 = n := by
  rw [pc_of] at h
  unfold pcR
  cases hs : stray s i with
  | true => rw [hs] at h; simp at h
  | false =>
    rw [hs] at h
    simp at h
    rw [h]
    exact ⟨rfl, rfl⟩
end Tx
end Go.Proofs.YtenhaogheilmoaaDoor.Text

/-
  piece: all cases together; Pieces.
-/
namespace Go.Proofs.YtenhaogheilmoaaDoor.Text
open Go Go.RowKit
open Tx

theorem piece_any (s : ByteArray) (i : Nat) (w : World) (hm : i < 140737488355328) (h : i < s.size) :
    Calls Tryd.prog 91 #[.string s, .int .i64 (i : Int)] w fun e w' => e = .returned (.agg #[.int .i64 (pcR s i), .int .i64 i, .int .i64 ((Utf8.decode s i).2 : Int)]) ∧ Below w.heap.size w w' := by
  have g0 := at_get s i h
  generalize hx0 : s[i]'h = x0 at *
  have q0 := x0.toNat_lt
  have N0 := pc_none s i
  have S0 := pc_some s i
  have F0 : (fun k => at' s (i + k)) 0 = x0.toNat := g0
  have F1 : ∀ h : i + 1 < s.size, (fun k => at' s (i + k)) 1 = (s[i + 1]'h).toNat := fun h => at_get s (i + 1) h
  have F2 : ∀ h : i + 2 < s.size, (fun k => at' s (i + k)) 2 = (s[i + 2]'h).toNat := fun h => at_get s (i + 2) h
  have F3 : ∀ h : i + 3 < s.size, (fun k => at' s (i + k)) 3 = (s[i + 3]'h).toNat := fun h => at_get s (i + 3) h
  generalize (fun k => at' s (i + k)) = f at *
  have key : ∀ R N : Int, pcR s i = R ∧ ((Utf8.decode s i).2 : Int) = N → (Calls Tryd.prog 91 #[.string s, .int .i64 (i : Int)] w fun e w' => e = .returned (.agg #[.int .i64 R, .int .i64 i, .int .i64 N]) ∧ Below w.heap.size w w') →
      Calls Tryd.prog 91 #[.string s, .int .i64 (i : Int)] w fun e w' => e = .returned (.agg #[.int .i64 (pcR s i), .int .i64 i, .int .i64 ((Utf8.decode s i).2 : Int)]) ∧ Below w.heap.size w w' := by
    rintro R N ⟨rfl, rfl⟩ h
    exact h
  have nope : pcF f (s.size - i) = none → pcR s i = -1 ∧ ((Utf8.decode s i).2 : Int) = 1 := fun h => by
    obtain ⟨a, b⟩ := N0 h
    exact ⟨a, by rw [b]; rfl⟩
  have yes : ∀ (r n : Nat) (R N : Int), pcF f (s.size - i) = some (r, n) → (r : Int) = R → (n : Int) = N → pcR s i = R ∧ ((Utf8.decode s i).2 : Int) = N := fun r n R N h e1 e2 => by
    obtain ⟨a, b⟩ := S0 r n h
    rw [a, b]
    exact ⟨e1, e2⟩
  clear N0 S0 g0
  by_cases a0 : x0.toNat < 128
  · exact key _ _ (yes _ 1 _ _ (by unfold pcF; rw [F0, if_pos a0]) rfl rfl) (piece_low s i w hm h x0 hx0 a0)
  by_cases a1 : x0.toNat < 192
  · exact key _ _ (nope (by unfold pcF; rw [F0, if_neg a0, if_pos a1])) (piece_mid s i w hm h x0 hx0 (by omega) a1)
  by_cases a2 : x0.toNat < 224
  · have c0 : 192 ≤ x0.toNat := by omega
    by_cases cs : i + 2 ≤ s.size
    · have h1 : i + 1 < s.size := by omega
      have F1' := F1 h1
      generalize hx1 : s[i + 1]'h1 = x1 at *
      have q1 := x1.toNat_lt
      by_cases b1 : x1.toNat < 128
      · exact key _ _ (nope (by unfold pcF; rw [F0, if_neg a0, if_neg a1, if_pos a2]; rw [F1', if_neg (by omega)])) (piece2_bad1l s i w hm h x0 hx0 h1 x1 hx1 c0 a2 cs b1)
      by_cases d1 : 191 < x1.toNat
      · exact key _ _ (nope (by unfold pcF; rw [F0, if_neg a0, if_neg a1, if_pos a2]; rw [F1', if_neg (by omega)])) (piece2_bad1g s i w hm h x0 hx0 h1 x1 hx1 c0 a2 cs d1)
      by_cases l2 : (((x0.toNat : Int) - 192) * 64 + (x1.toNat : Int) - 128) < 128
      · exact key _ _ (nope (by unfold pcF; rw [F0, if_neg a0, if_neg a1, if_pos a2]; rw [F1', if_neg (by omega)])) (piece2_least s i w hm h x0 hx0 h1 x1 hx1 c0 a2 cs (by omega) (by omega) l2)
      exact key _ _ (yes _ 2 _ _ (by unfold pcF; rw [F0, if_neg a0, if_neg a1, if_pos a2]; rw [F1', if_pos (by omega)]) (by omega) rfl) (piece2_ok s i w hm h x0 hx0 h1 x1 hx1 c0 a2 cs (by omega) (by omega) (by omega))
    · exact key _ _ (nope (by unfold pcF; rw [F0, if_neg a0, if_neg a1, if_pos a2]; rw [if_neg (by omega)])) (piece2_short s i w hm h x0 hx0 c0 a2 (by omega))
  by_cases a3 : x0.toNat < 240
  · have c0 : 224 ≤ x0.toNat := by omega
    by_cases cs : i + 3 ≤ s.size
    · have h1 : i + 1 < s.size := by omega
      have F1' := F1 h1
      generalize hx1 : s[i + 1]'h1 = x1 at *
      have q1 := x1.toNat_lt
      by_cases b1 : x1.toNat < 128
      · exact key _ _ (nope (by unfold pcF; rw [F0, if_neg a0, if_neg a1, if_neg a2, if_pos a3]; rw [F1', if_neg (by omega)])) (piece3_bad1l s i w hm h x0 hx0 h1 x1 hx1 c0 a3 cs b1)
      by_cases d1 : 191 < x1.toNat
      · exact key _ _ (nope (by unfold pcF; rw [F0, if_neg a0, if_neg a1, if_neg a2, if_pos a3]; rw [F1', if_neg (by omega)])) (piece3_bad1g s i w hm h x0 hx0 h1 x1 hx1 c0 a3 cs d1)
      have h2 : i + 2 < s.size := by omega
      have F2' := F2 h2
      generalize hx2 : s[i + 2]'h2 = x2 at *
      have q2 := x2.toNat_lt
      by_cases b2 : x2.toNat < 128
      · exact key _ _ (nope (by unfold pcF; rw [F0, if_neg a0, if_neg a1, if_neg a2, if_pos a3]; rw [F2', if_neg (by omega)])) (piece3_bad2l s i w hm h x0 hx0 h1 x1 hx1 h2 x2 hx2 c0 a3 cs (by omega) (by omega) b2)
      by_cases d2 : 191 < x2.toNat
      · exact key _ _ (nope (by unfold pcF; rw [F0, if_neg a0, if_neg a1, if_neg a2, if_pos a3]; rw [F2', if_neg (by omega)])) (piece3_bad2g s i w hm h x0 hx0 h1 x1 hx1 h2 x2 hx2 c0 a3 cs (by omega) (by omega) d2)
      by_cases l3 : ((((x0.toNat : Int) - 224) * 64 + (x1.toNat : Int) - 128) * 64 + (x2.toNat : Int) - 128) < 2048
      · exact key _ _ (nope (by unfold pcF; rw [F0, if_neg a0, if_neg a1, if_neg a2, if_pos a3]; rw [F1', F2', if_neg (by omega)])) (piece3_least s i w hm h x0 hx0 h1 x1 hx1 h2 x2 hx2 c0 a3 cs (by omega) (by omega) (by omega) (by omega) l3)
      by_cases s1 : ((((x0.toNat : Int) - 224) * 64 + (x1.toNat : Int) - 128) * 64 + (x2.toNat : Int) - 128) < 55296
      · exact key _ _ (yes _ 3 _ _ (by unfold pcF; rw [F0, if_neg a0, if_neg a1, if_neg a2, if_pos a3]; rw [F1', F2', if_pos (by omega)]) (by omega) rfl) (piece3_ok s i w hm h x0 hx0 h1 x1 hx1 h2 x2 hx2 c0 a3 cs (by omega) (by omega) (by omega) (by omega) (by omega) s1)
      by_cases s2 : ((((x0.toNat : Int) - 224) * 64 + (x1.toNat : Int) - 128) * 64 + (x2.toNat : Int) - 128) ≤ 57343
      · exact key _ _ (nope (by unfold pcF; rw [F0, if_neg a0, if_neg a1, if_neg a2, if_pos a3]; rw [F1', F2', if_neg (by omega)])) (piece3_sur s i w hm h x0 hx0 h1 x1 hx1 h2 x2 hx2 c0 a3 cs (by omega) (by omega) (by omega) (by omega) (by omega) s2)
      exact key _ _ (yes _ 3 _ _ (by unfold pcF; rw [F0, if_neg a0, if_neg a1, if_neg a2, if_pos a3]; rw [F1', F2', if_pos (by omega)]) (by omega) rfl) (piece3_okk s i w hm h x0 hx0 h1 x1 hx1 h2 x2 hx2 c0 a3 cs (by omega) (by omega) (by omega) (by omega) (by omega))
    · exact key _ _ (nope (by unfold pcF; rw [F0, if_neg a0, if_neg a1, if_neg a2, if_pos a3]; rw [if_neg (by omega)])) (piece3_short s i w hm h x0 hx0 c0 a3 (by omega))
  by_cases a4 : x0.toNat < 248
  · have c0 : 240 ≤ x0.toNat := by omega
    by_cases cs : i + 4 ≤ s.size
    · have h1 : i + 1 < s.size := by omega
      have F1' := F1 h1
      generalize hx1 : s[i + 1]'h1 = x1 at *
      have q1 := x1.toNat_lt
      by_cases b1 : x1.toNat < 128
      · exact key _ _ (nope (by unfold pcF; rw [F0, if_neg a0, if_neg a1, if_neg a2, if_neg a3, if_pos a4]; rw [F1', if_neg (by omega)])) (piece4_bad1l s i w hm h x0 hx0 h1 x1 hx1 c0 a4 cs b1)
      by_cases d1 : 191 < x1.toNat
      · exact key _ _ (nope (by unfold pcF; rw [F0, if_neg a0, if_neg a1, if_neg a2, if_neg a3, if_pos a4]; rw [F1', if_neg (by omega)])) (piece4_bad1g s i w hm h x0 hx0 h1 x1 hx1 c0 a4 cs d1)
      have h2 : i + 2 < s.size := by omega
      have F2' := F2 h2
      generalize hx2 : s[i + 2]'h2 = x2 at *
      have q2 := x2.toNat_lt
      by_cases b2 : x2.toNat < 128
      · exact key _ _ (nope (by unfold pcF; rw [F0, if_neg a0, if_neg a1, if_neg a2, if_neg a3, if_pos a4]; rw [F2', if_neg (by omega)])) (piece4_bad2l s i w hm h x0 hx0 h1 x1 hx1 h2 x2 hx2 c0 a4 cs (by omega) (by omega) b2)
      by_cases d2 : 191 < x2.toNat
      · exact key _ _ (nope (by unfold pcF; rw [F0, if_neg a0, if_neg a1, if_neg a2, if_neg a3, if_pos a4]; rw [F2', if_neg (by omega)])) (piece4_bad2g s i w hm h x0 hx0 h1 x1 hx1 h2 x2 hx2 c0 a4 cs (by omega) (by omega) d2)
      have h3 : i + 3 < s.size := by omega
      have F3' := F3 h3
      generalize hx3 : s[i + 3]'h3 = x3 at *
      have q3 := x3.toNat_lt
      by_cases b3 : x3.toNat < 128
      · exact key _ _ (nope (by unfold pcF; rw [F0, if_neg a0, if_neg a1, if_neg a2, if_neg a3, if_pos a4]; rw [F3', if_neg (by omega)])) (piece4_bad3l s i w hm h x0 hx0 h1 x1 hx1 h2 x2 hx2 h3 x3 hx3 c0 a4 cs (by omega) (by omega) (by omega) (by omega) b3)
      by_cases d3 : 191 < x3.toNat
      · exact key _ _ (nope (by unfold pcF; rw [F0, if_neg a0, if_neg a1, if_neg a2, if_neg a3, if_pos a4]; rw [F3', if_neg (by omega)])) (piece4_bad3g s i w hm h x0 hx0 h1 x1 hx1 h2 x2 hx2 h3 x3 hx3 c0 a4 cs (by omega) (by omega) (by omega) (by omega) d3)
      by_cases l4 : (((((x0.toNat : Int) - 240) * 64 + (x1.toNat : Int) - 128) * 64 + (x2.toNat : Int) - 128) * 64 + (x3.toNat : Int) - 128) < 65536
      · exact key _ _ (nope (by unfold pcF; rw [F0, if_neg a0, if_neg a1, if_neg a2, if_neg a3, if_pos a4]; rw [F1', F2', F3', if_neg (by omega)])) (piece4_least s i w hm h x0 hx0 h1 x1 hx1 h2 x2 hx2 h3 x3 hx3 c0 a4 cs (by omega) (by omega) (by omega) (by omega) (by omega) (by omega) l4)
      by_cases s1 : (((((x0.toNat : Int) - 240) * 64 + (x1.toNat : Int) - 128) * 64 + (x2.toNat : Int) - 128) * 64 + (x3.toNat : Int) - 128) ≤ 1114111
      · exact key _ _ (yes _ 4 _ _ (by unfold pcF; rw [F0, if_neg a0, if_neg a1, if_neg a2, if_neg a3, if_pos a4]; rw [F1', F2', F3', if_pos (by omega)]) (by omega) rfl) (piece4_ok s i w hm h x0 hx0 h1 x1 hx1 h2 x2 hx2 h3 x3 hx3 c0 a4 cs (by omega) (by omega) (by omega) (by omega) (by omega) (by omega) (by omega) s1)
      exact key _ _ (nope (by unfold pcF; rw [F0, if_neg a0, if_neg a1, if_neg a2, if_neg a3, if_pos a4]; rw [F1', F2', F3', if_neg (by omega)])) (piece4_big s i w hm h x0 hx0 h1 x1 hx1 h2 x2 hx2 h3 x3 hx3 c0 a4 cs (by omega) (by omega) (by omega) (by omega) (by omega) (by omega) (by omega))
    · exact key _ _ (nope (by unfold pcF; rw [F0, if_neg a0, if_neg a1, if_neg a2, if_neg a3, if_pos a4]; rw [if_neg (by omega)])) (piece4_short s i w hm h x0 hx0 c0 a4 (by omega))
  exact key _ _ (nope (by unfold pcF; rw [F0, if_neg a0, if_neg a1, if_neg a2, if_neg a3, if_neg a4])) (piece_high s i w hm h x0 hx0 (by omega))
end Go.Proofs.YtenhaogheilmoaaDoor.Text

/-
  The reference's Pieces: a list of pieces in a row of its own.
-/
namespace Go.Proofs.YtenhaogheilmoaaDoor.Text
open Go Go.RowKit
open Tx

namespace Tx
/-- where the pieces from p on begin -/
def pcs (s : ByteArray) (p : Nat) : List Nat := if _h : p < s.size then p :: pcs s (p + (Utf8.decode s p).2) else []
termination_by s.size - p
decreasing_by
  have := decode_fits s p (by assumption)
  omega
theorem pcs_in (s : ByteArray) (p : Nat) (h : p < s.size) : pcs s p = p :: pcs s (p + (Utf8.decode s p).2) := by rw [pcs, dif_pos h]
theorem pcs_out (s : ByteArray) (p : Nat) (h : ¬ p < s.size) : pcs s p = [] := by rw [pcs, dif_neg h]
def cell3 (s : ByteArray) (q : Nat) : List Value := [.int .i64 (pcR s q), .int .i64 (q : Int), .int .i64 ((Utf8.decode s q).2 : Int)]
theorem cells_len (s : ByteArray) (qs : List Nat) : (qs.flatMap (cell3 s)).length = qs.length * 3 := by
  induction qs with
  | nil => rfl
  | cons q qs ih =>
    rw [List.flatMap_cons, List.length_append, ih, List.length_cons]
    show 3 + qs.length * 3 = (qs.length + 1) * 3
    omega
theorem cells_get (s : ByteArray) : ∀ (qs : List Nat) (k : Nat) (h : k < qs.length) (j : Nat), j < 3 → (qs.flatMap (cell3 s))[k * 3 + j]? = (cell3 s qs[k])[j]?
  | q :: qs, 0, _, j, hj => by
    rw [List.flatMap_cons, List.getElem?_append_left (by show 0 * 3 + j < 3; omega)]
    simp
  | q :: qs, k + 1, h, j, hj => by
    rw [List.flatMap_cons, List.getElem?_append_right (by show 3 ≤ _; omega)]
    have := cells_get s qs k (by simpa using h) j hj
    rw [show (k + 1) * 3 + j - (cell3 s q).length = k * 3 + j by show (k + 1) * 3 + j - 3 = _; omega]
    simpa using this
end Tx

def Pcs (B : Nat) (w : World) (v : Value) (s : ByteArray) (qs : List Nat) : Prop := w.ownsRow B 122 3 v qs.length (qs.flatMap (cell3 s))
theorem Pcs.nil (B : Nat) (w : World) (s : ByteArray) : Pcs B w (.slice none 0 0) s [] := World.ownsRow_nil _ _ _ _
theorem Pcs.kept {B : Nat} {w w' : World} {v : Value} {s : ByteArray} {qs : List Nat} (h : Pcs B w v s qs) (hb : Below w.heap.size w w') : Pcs B w' v s qs := by
  refine ⟨h.1, ?_⟩
  rcases h.2 with h1 | ⟨g, cap, cur, rfl, h1, hg, rest⟩
  · exact .inl h1
  · exact .inr ⟨g, cap, cur, rfl, h1, (hb.block g (Array.getElem?_eq_some_iff.1 hg).1).trans hg, rest⟩
theorem Pcs.shape {B : Nat} {w : World} {v : Value} {s : ByteArray} {qs : List Nat} (h : Pcs B w v s qs) : ∃ ao cap, v = .slice ao qs.length cap ∧ cap ≤ maxLen ∧ (∀ k, k < qs.length → ∃ g, ao = some ⟨g, 0, none⟩) ∧
    ∀ g, ao = some ⟨g, 0, none⟩ → ∀ k (hk : k < qs.length), w.cell? ⟨g, k * 3, none⟩ = some (.int .i64 (pcR s qs[k])) ∧ w.cell? ⟨g, k * 3 + 1, none⟩ = some (.int .i64 (qs[k] : Int)) ∧ w.cell? ⟨g, k * 3 + 2, none⟩ = some (.int .i64 ((Utf8.decode s qs[k]).2 : Int)) := by
  have h0 := h
  rcases h.2 with ⟨rfl, h1⟩ | ⟨g, cap, cur, rfl, hb, hg, h1, h2, h3, h4⟩
  · exact ⟨none, 0, by rw [h1], by simp [maxLen], fun k hk => by omega, fun g e => by cases e⟩
  · refine ⟨some ⟨g, 0, none⟩, cap, rfl, h2, fun k _ => ⟨g, rfl⟩, fun g' e k hk => ?_⟩
    obtain rfl : g = g' := by simpa using e
    have key : ∀ j, j < 3 → w.cell? ⟨g, k * 3 + j, none⟩ = (cell3 s qs[k])[j]? := fun j hj => by
      rw [← cells_get s qs k hk j hj]
      have hl := cells_len s qs
      exact World.ownsRow.cellAt h0 (k * 3 + j) (by rw [Nat.mul_comm]; omega)
    exact ⟨key 0 (by omega), key 1 (by omega), key 2 (by omega)⟩
theorem infoPc3 : (Tryd.prog.info? 122).map (fun i => (i.zero, i.size, i.bytes)) = some (some (.agg #[.int .i64 0, .int .i64 0, .int .i64 0]), 3, 24) := by kernel_rfl

/-- append(v, x) of one piece -/
theorem wpList_append_pc {P : Program} (w : World) {ops : Array Oper} {rest : List Oper} {o : Oper} {a : Act} {Q : Exit → Act → World → Prop} (hgd : o.guard = none) (s x : Operand) (t : TypeId)
    (ho : o.op = .call { callee := .builtin .append, args := #[s, x], argTypes := #[t, t] })
    (B : Nat) (hinfo : (P.info? 122).map (fun i => (i.zero, i.size, i.bytes)) = some (some (.agg #[.int .i64 0, .int .i64 0, .int .i64 0]), 3, 24)) (ht : P.underlying t = some (.slice 122))
    (v : Value) (str : ByteArray) (qs : List Nat) (q : Nat) (hv : a.eval s = v) (h : Pcs B w v str qs) (g : Nat) (hx : a.eval x = .slice (some ⟨g, 0, none⟩) 1 1)
    (hc : ∀ j u, (cell3 str q)[j]? = some u → w.cell? ⟨g, j, none⟩ = some u)
    (hmax : qs.length ≤ 2000000) (hB : B ≤ w.heap.size)
    (hK : ∀ v' w', Pcs B w' v' str (qs ++ [q]) → Below B w w' → w.grownBy w' v.ownBlock → wpList P ops Q rest (a.put o.dst v') w') : wpList P ops Q (o :: rest) a w := by
  obtain ⟨i0, hi, hz0, hz1, hz2⟩ := info_parts3 hinfo
  refine wpList_append_own_at w hgd s x t ho B 122 i0 (.agg #[.int .i64 0, .int .i64 0, .int .i64 0]) 3 24 ht hi hz0 hz1 hz2 rfl (by decide) v qs.length (qs.flatMap (cell3 str)) hv h ⟨g, 0, none⟩ 1 1 (cell3 str q) hx rfl ?_ ?_ (by unfold maxLen; omega) (by omega) hB ?_
  · intro j u hj
    have := hc j u hj
    rw [Addr.add_lit, Nat.zero_add]
    exact this
  · intro u hu
    simp only [cell3, List.mem_cons, List.not_mem_nil, or_false] at hu
    rcases hu with rfl | rfl | rfl <;> rfl
  · intro v' w' h2 h3 _ _
    refine hK v' w' ?_ ((Below.refl B w).grown h3 hB (fun k hk => (World.ownsRow.lt h k hk).1)) h3
    show w'.ownsRow B 122 3 v' (qs ++ [q]).length ((qs ++ [q]).flatMap (cell3 str))
    rw [List.length_append, List.flatMap_append]
    simpa using h2
theorem three_new (w : World) (o : Obj) (a b c : Value) (t : TypeId) : ∀ j u, [a, b, c][j]? = some u → ((w.alloc o).alloc (.cells #[a, b, c] t)).cell? ⟨w.heap.size + 1, j, none⟩ = some u := by
  intro j u hj
  have e : w.heap.size + 1 = (w.alloc o).heap.size := by
    show w.heap.size + 1 = (w.heap.push o).size
    simp
  rw [e, World.cell?_alloc_new (w.alloc o) _ _ j, ← Array.getElem?_toList]
  exact hj
theorem box3 (w w' : World) (p : Obj) (a b c : Value) (t : TypeId) (g0 : Option Nat) (h : ((w.alloc (.cells #[a, b, c] t)).alloc p).grownBy w' g0) (hg : ∀ k, g0 = some k → k < w.heap.size) :
    w'.cell? ⟨w.heap.size, 0, none⟩ = some a ∧ w'.cell? ⟨w.heap.size, 1, none⟩ = some b ∧ w'.cell? ⟨w.heap.size, 2, none⟩ = some c := by
  have h1 := two_new w (.cells #[a, b, c] t) p
  have h2 : w'.heap[w.heap.size]? = some (.cells #[a, b, c] t) := by
    rw [h.block w.heap.size (Array.getElem?_eq_some_iff.1 h1).1 (fun e => by have := hg w.heap.size e.symm; omega)]
    exact h1
  simp [World.cell?, h2]

set_option maxRecDepth 100000 in
set_option maxHeartbeats 1000000 in
theorem pieces_any (s : ByteArray) (w : World) (hs : s.size ≤ 2000000) :
    Calls Tryd.prog 83 #[.string s] w fun e w' => ∃ v, e = .returned v ∧ Pcs w.heap.size w' v s (pcs s 0) ∧ Below w.heap.size w w' := by
  have hin := infoPc3
  obtain ⟨R, hR⟩ : ∃ R, pcs s 0 = R := ⟨_, rfl⟩
  have HR : Hid (pcs s 0 = R) := hR
  rw [hR]
  clear hR
  go_enter Tryd.func83, Tryd.ntmps83
  go_wp2
  go_loopw [3, 4] (fun o i wr => ∃ (p : Nat) (done : List Nat), i = .int .i64 (p : Int) ∧ p ≤ s.size ∧ done.length ≤ p ∧ done ++ pcs s p = R ∧ Pcs w.heap.size wr o s done ∧ Below w.heap.size w wr) (fun _ i _ => s.size - (intOf i).toNat)
  case atStart => exact ⟨0, [], rfl, Nat.zero_le _, Nat.zero_le _, HR.out, Pcs.nil _ _ _, Below.refl _ _⟩
  case round =>
    obtain ⟨p, done, rfl, hp, hdl, hd, hown, hbel⟩ := hrel
    have HD : Hid (done ++ pcs s p = R) := hd
    clear hd HR
    by_cases hlt : p < s.size
    · have hf := decode_fits s p hlt
      have HD2 : Hid ((done ++ [p]) ++ pcs s (p + (Utf8.decode s p).2) = R) := by
        show _ = _
        rw [← HD.out, pcs_in s p hlt, List.append_assoc]
        rfl
      have HP : Hid (∀ w', Calls Tryd.prog 91 #[.string s, .int .i64 (p : Int)] w' fun e w'' => e = .returned (.agg #[.int .i64 (pcR s p), .int .i64 p, .int .i64 ((Utf8.decode s p).2 : Int)]) ∧ Below w'.heap.size w' w'') := fun w' => piece_any s p w' (by omega) hlt
      have HC : Hid (cell3 s p = [.int .i64 (pcR s p), .int .i64 (p : Int), .int .i64 ((Utf8.decode s p).2 : Int)]) := rfl
      have hsz := hbel.size
      have hob : ∀ k, u3.ownBlock = some k → k < wr.heap.size := fun k hk => (World.ownsRow.lt hown k hk).2
      have HOB : Hid (∀ k, u3.ownBlock = some k → k < wr.heap.size) := hob
      clear HD hob
      generalize (Utf8.decode s p).2 = n at *
      generalize pcR s p = r at *
      go_wp2_with fail
      refine (HP.out _).mono ?_
      rintro e w1 ⟨rfl, b1⟩
      have b1' := andThen hbel b1
      have hs1 := b1.size
      have HO : Hid (∀ o o', Pcs w.heap.size ((w1.alloc o).alloc o') u3 s done) := fun o o' => (hown.kept b1).kept (up2 _ _ _)
      clear HP b1 hown hbel
      go_wp2_with (at_builtin; refine wpList_append_pc _ rfl (.tmp 13) (.tmp 15) 119 rfl w.heap.size hin Tryd.underlying119 _ s done p rfl (HO.out _ _) _ rfl (by rw [HC.out]; exact three_new w1 _ _ _ _ _) (by omega) (by simp; omega) ?_)
      intro v2 w2 hr2 hb2 hg2
      obtain ⟨c0, c1, c2⟩ := box3 w1 w2 _ _ _ _ _ _ hg2 (fun k hk => by have := HOB.out k hk; omega)
      have R2 : Hid (Pcs w.heap.size w2 v2 s (done ++ [p]) ∧ Below w.heap.size w w2) := ⟨hr2, (up (up b1' _) _).trans hb2⟩
      clear hr2 hb2 hg2 HO HC b1'
      go_wp2
      go_roundw
      case rel => exact ⟨p + n, done ++ [p], by go_num, hf.2.1, by simp; omega, HD2.out, R2.out.1, R2.out.2⟩
      case measure => simp [intOf]; omega
    · have HE : Hid (done = R) := by
        show _ = _
        have := HD.out
        rw [pcs_out s p hlt, List.append_nil] at this
        exact this
      go_wp2
      go_ret
      exact ⟨_, rfl, by rw [← HE.out]; exact hown, hbel⟩
end Go.Proofs.YtenhaogheilmoaaDoor.Text

/-
  Package text: Name; the reference's Valid, Clip, Name.
-/
namespace Go.Proofs.YtenhaogheilmoaaDoor.Text
open Go Go.RowKit
open Tx

namespace Tx
theorem pcs_get (s : ByteArray) : ∀ (n p : Nat), p ≤ s.size → (∀ h : n < (pcs s p).length, (pcs s p)[n] = offs s n p) ∧ ((pcs s p).length ≤ n → offs s n p = s.size)
  | 0, p, hp => by
    by_cases h : p < s.size
    · simp only [pcs_in s p h]
      refine ⟨fun _ => rfl, fun hl => by simp at hl⟩
    · simp only [pcs_out s p h]
      exact ⟨fun h => absurd h (by simp), fun _ => by show p = s.size; omega⟩
  | n + 1, p, hp => by
    by_cases h : p < s.size
    · have ih := pcs_get s n (p + (Utf8.decode s p).2) (decode_fits s p h).2.1
      simp only [pcs_in s p h, offs, if_pos h]
      exact ⟨fun hl => ih.1 (by simpa using hl), fun hl => ih.2 (by simpa using hl)⟩
    · simp only [pcs_out s p h]
      exact ⟨fun h => absurd h (by simp), fun _ => by rw [offs_end s (n + 1) p h]; omega⟩
theorem pcs_len (s : ByteArray) : ∀ (k p : Nat), s.size - p ≤ k → (pcs s p).length ≤ s.size - p
  | k, p, hk => by
    by_cases h : p < s.size
    · have hf := decode_fits s p h
      rw [pcs_in s p h, List.length_cons]
      match k, hk with
      | 0, hk => omega
      | k + 1, hk =>
        have := pcs_len s k (p + (Utf8.decode s p).2) (by omega)
        omega
    · rw [pcs_out s p h]
      exact Nat.zero_le _
theorem pcs_head (s : ByteArray) (p : Nat) (q : Nat) (r : List Nat) (h : pcs s p = q :: r) : p < s.size ∧ q = p ∧ r = pcs s (p + (Utf8.decode s p).2) := by
  by_cases hp : p < s.size
  · rw [pcs_in s p hp] at h
    simp only [List.cons.injEq] at h
    exact ⟨hp, h.1.symm, h.2.symm⟩
  · rw [pcs_out s p hp] at h
    cases h
theorem pcR_neg (s : ByteArray) (p : Nat) : (stray s p = true ∧ pcR s p = -1) ∨ (stray s p = false ∧ pcR s p = ((Utf8.decode s p).1 : Int)) := by
  unfold pcR
  cases stray s p <;> simp
end Tx

end Go.Proofs.YtenhaogheilmoaaDoor.Text

/-
  The reference's Name.
-/
namespace Go.Proofs.YtenhaogheilmoaaDoor.Text
open Go Go.RowKit
open Tx

set_option maxRecDepth 100000 in
set_option maxHeartbeats 2000000 in
theorem rname_any (s : ByteArray) (w : World) (hs : s.size ≤ 2000000) (hT : TabP 4 .i64 lets w) :
    Calls Tryd.prog 74 #[.string s] w fun e w' => e = .returned (.tuple #[.int .i64 (nmA s).1, .int .i64 (nmA s).2]) ∧ Below w.heap.size w w' := by
  have HT : Hid (∀ w', Below w.heap.size w w' → TabP 4 .i64 lets w') := fun w' hb => hT.kept hb
  obtain ⟨A, hA⟩ : ∃ A, nmA s = A := ⟨_, rfl⟩
  have HA0 : Hid (s.size = 0 → A = (20, 0)) := fun h => by rw [← hA]; unfold nmA; rw [if_pos h]
  have HA1 : Hid (¬ s.size = 0 → nmE s 0 0 = A) := fun h => by rw [← hA]; unfold nmA; rw [if_neg h]
  rw [hA]
  clear hA hT
  go_enter Tryd.func74, Tryd.ntmps74
  go_wp2_with fail
  refine (pieces_any s _ hs).mono ?_
  rintro e w1 ⟨v1, rfl, ho1, b1⟩
  obtain ⟨ao, cap, rfl, hcap, hao, hcell⟩ := ho1.shape
  clear ho1
  have hRl : (pcs s 0).length ≤ 2000000 := by
    have := pcs_len s s.size 0 (by omega)
    omega
  by_cases h0 : s.size = 0
  · have HE : Hid (A = (20, 0)) := HA0.out h0
    have hz : (pcs s 0).length = 0 := by rw [pcs_out s 0 (by omega)]; rfl
    rw [hz]
    clear hao hcell HA0 HA1 hRl hz
    go_wp2
    go_ret2
    rw [HE.out]
    exact ⟨rfl, b1⟩
  · have hz : 0 < (pcs s 0).length := by rw [pcs_in s 0 (by omega)]; simp
    have HA : Hid (nmE s 0 0 = A) := HA1.out h0
    obtain ⟨R, hR⟩ : ∃ R, pcs s 0 = R := ⟨_, rfl⟩
    have HRR : Hid (pcs s 0 = R) := hR
    rw [hR] at hao hcell hRl hz
    rw [hR]
    have HC : Hid (∀ wr, Below w1.heap.size w1 wr → ∀ k (hk : k < R.length), ∃ g, ao = some ⟨g, 0, none⟩ ∧ wr.cell? ⟨g, k * 3, none⟩ = some (.int .i64 (pcR s R[k])) ∧ wr.cell? ⟨g, k * 3 + 1, none⟩ = some (.int .i64 (R[k] : Int)) ∧ wr.cell? ⟨g, k * 3 + 2, none⟩ = some (.int .i64 ((Utf8.decode s R[k]).2 : Int))) := fun wr hb k hk => by
      obtain ⟨g, hg⟩ := hao k hk
      obtain ⟨d0, d1, d2⟩ := hcell g hg k hk
      exact ⟨g, hg, (hb.cell (p := ⟨g, _, none⟩) (World.block_lt_of_cell? _ _ d0)).trans d0, (hb.cell (p := ⟨g, _, none⟩) (World.block_lt_of_cell? _ _ d1)).trans d1, (hb.cell (p := ⟨g, _, none⟩) (World.block_lt_of_cell? _ _ d2)).trans d2⟩
    have HB1 : Hid (∀ wr, Below w1.heap.size w1 wr → Below w.heap.size w wr) := fun wr hb => andThen b1 hb
    clear hao hcell HA0 HA1 hR b1 hcap
    have hzb : ((R.length : Int) == 0) = false := by simp; intro e; rw [e] at hz; simp at hz
    go_wp2
    go_loopw [5] (fun i wr => ∃ (k p : Nat), k ≤ R.length ∧ i = .int .i64 (k : Int) ∧ R.drop k = pcs s p ∧ nmE s k p = A ∧ (k = 0 ↔ p = 0) ∧ Below w1.heap.size w1 wr) (fun i _ => R.length - (intOf i).toNat)
    case atStart => exact ⟨0, 0, Nat.zero_le _, rfl, by rw [List.drop_zero]; exact HRR.out.symm, HA.out, Iff.rfl, Below.refl _ _⟩
    case round =>
      obtain ⟨k, p, hk, rfl, hd, ha, hkp, hbel⟩ := hrel
      have HD : Hid (R.drop k = pcs s p) := hd
      have HAA : Hid (nmE s k p = A) := ha
      have HKP : Hid (k = 0 ↔ p = 0) := hkp
      clear hd ha HA HRR hkp
      by_cases hlt : k < R.length
      · obtain ⟨g, rfl, c0, c1, c2⟩ := HC.out wr hbel k hlt
        obtain ⟨hp, e1, e2⟩ := pcs_head s p R[k] (R.drop (k + 1)) (by rw [← HD.out, List.drop_eq_getElem_cons hlt])
        rw [e1] at c0 c1 c2
        have HE2 : Hid (R.drop (k + 1) = pcs s (p + (Utf8.decode s p).2)) := e2
        have hd := decode_fits s p hp
        have HW : Hid (∀ o n, Below w.heap.size w ((wr.alloc o).drewN n)) := fun o n => HB1.out _ (below_drewN (up hbel _) n)
        have HW1 : Hid (∀ o n, Below w1.heap.size w1 ((wr.alloc o).drewN n)) := fun o n => below_drewN (up hbel _) n
        clear e1 e2 HC HD
        by_cases h48 : 48 ≤ k
        · have HF : Hid (A = (23, (p : Int))) := by show _ = _; rw [← HAA.out, nmE_long s k p hp h48]
          generalize pcR s p = r at *
          generalize (Utf8.decode s p).2 = n at *
          go_wp2
          go_quiet (fail)
          go_wp2
          go_ret2
          rw [HF.out]
          exact ⟨rfl, HW.out _ _⟩
        · rcases pcR_neg s p with ⟨st, e⟩ | ⟨st, e⟩
          · rw [e] at c0
            have HF : Hid (A = (21, (p : Int))) := by show _ = _; rw [← HAA.out, nmE_stray s k p hp h48 st]
            clear e st
            generalize (Utf8.decode s p).2 = n at *
            go_wp2
            go_quiet (fail)
            go_wp2
            go_ret2
            rw [HF.out]
            exact ⟨rfl, HW.out _ _⟩
          · rw [e] at c0
            have HBAD : Hid ((p = 0 ∧ among lets ((Utf8.decode s p).1 : Int) = false) ∨ nmR ((Utf8.decode s p).1 : Int) = false → A = (22, (p : Int))) := fun hb => by
              rw [← HAA.out, nmE_bad s k p hp h48 st hb]
            have HGOOD : Hid (¬ ((p = 0 ∧ among lets ((Utf8.decode s p).1 : Int) = false) ∨ nmR ((Utf8.decode s p).1 : Int) = false) → nmE s (k + 1) (p + (Utf8.decode s p).2) = A) := fun hb => by
              rw [← HAA.out, nmE_step s k p hp h48 st hb]
            clear e st HAA
            obtain ⟨r, hr⟩ : ∃ r : Nat, (Utf8.decode s p).1 = r := ⟨_, rfl⟩
            rw [hr] at c0 HBAD HGOOD
            clear hr
            have HRT : Hid (∀ o n, TabP 4 .i64 lets ((wr.alloc o).drewN n)) := fun o n => HT.out _ (HW.out o n)
            by_cases hk0 : k = 0
            · have hp0 := HKP.out.1 hk0
              subst hk0
              rw [Nat.zero_mul] at c0 c1 c2
              rw [Nat.zero_add] at c1 c2
              cases hal : among lets (r : Int) with
              | false =>
                have HF : Hid (A = (22, (p : Int))) := HBAD.out (.inl ⟨hp0, hal⟩)
                have HAL : Hid (among lets (r : Int) = false) := hal
                clear HBAD HGOOD hal hp0
                generalize (Utf8.decode s p).2 = n at *
                go_wp2_with fail
                refine (rletter_any _ _ (HRT.out _ 0)).mono ?_
                rw [HAL.out]
                rintro e w3 ⟨rfl, n3, rfl⟩
                go_wp2
                go_quiet (fail)
                go_wp2
                go_ret2
                rw [HF.out]
                exact ⟨rfl, by first | exact HW.out _ _ | (rw [World.drewN_drewN]; exact HW.out _ _)⟩
              | true =>
                cases hnm : nmR (r : Int) with
                | false =>
                  have HF : Hid (A = (22, (p : Int))) := HBAD.out (.inr hnm)
                  have HAL : Hid (among lets (r : Int) = true) := hal
                  have HNM : Hid (nmR (r : Int) = false) := hnm
                  clear HBAD HGOOD hal hp0 hnm
                  generalize (Utf8.decode s p).2 = n at *
                  go_wp2_with fail
                  refine (rletter_any _ _ (HRT.out _ 0)).mono ?_
                  rw [HAL.out]
                  rintro e w3 ⟨rfl, n3, rfl⟩
                  go_wp2_with fail
                  refine (rnamer_any _ _ (HRT.out _ _)).mono ?_
                  rw [HNM.out]
                  rintro e w4 ⟨rfl, n4, rfl⟩
                  go_wp2
                  go_quiet (fail)
                  go_wp2
                  go_ret2
                  rw [HF.out]
                  exact ⟨rfl, by first | exact HW.out _ _ | (rw [World.drewN_drewN]; exact HW.out _ _)⟩
                | true =>
                  have HF : Hid (nmE s (0 + 1) (p + (Utf8.decode s p).2) = A) := HGOOD.out (by simp [hal, hnm])
                  have HAL : Hid (among lets (r : Int) = true) := hal
                  have HNM : Hid (nmR (r : Int) = true) := hnm
                  clear HBAD HGOOD hal hp0 hnm
                  generalize (Utf8.decode s p).2 = n at *
                  go_wp2_with fail
                  refine (rletter_any _ _ (HRT.out _ 0)).mono ?_
                  rw [HAL.out]
                  rintro e w3 ⟨rfl, n3, rfl⟩
                  go_wp2_with fail
                  refine (rnamer_any _ _ (HRT.out _ _)).mono ?_
                  rw [HNM.out]
                  rintro e w4 ⟨rfl, n4, rfl⟩
                  go_wp2
                  go_roundw
                  case rel => exact ⟨0 + 1, p + n, by omega, by first | rfl | go_num, HE2.out, HF.out, by omega, by first | exact HW1.out _ _ | (rw [World.drewN_drewN]; exact HW1.out _ _)⟩
                  case measure => simp [intOf]; omega
            · have hp0 : ¬ p = 0 := fun e => hk0 (HKP.out.2 e)
              cases hnm : nmR (r : Int) with
              | false =>
                have HF : Hid (A = (22, (p : Int))) := HBAD.out (.inr hnm)
                have HNM : Hid (nmR (r : Int) = false) := hnm
                clear HBAD HGOOD hnm
                generalize (Utf8.decode s p).2 = n at *
                go_wp2_with fail
                refine (rnamer_any _ _ (HRT.out _ 0)).mono ?_
                rw [HNM.out]
                rintro e w4 ⟨rfl, n4, rfl⟩
                go_wp2
                go_quiet (fail)
                go_wp2
                go_ret2
                rw [HF.out]
                exact ⟨rfl, by first | exact HW.out _ _ | (rw [World.drewN_drewN]; exact HW.out _ _)⟩
              | true =>
                have HF : Hid (nmE s (k + 1) (p + (Utf8.decode s p).2) = A) := HGOOD.out (by simp [hp0, hnm])
                have HNM : Hid (nmR (r : Int) = true) := hnm
                clear HBAD HGOOD hnm
                generalize (Utf8.decode s p).2 = n at *
                go_wp2_with fail
                refine (rnamer_any _ _ (HRT.out _ 0)).mono ?_
                rw [HNM.out]
                rintro e w4 ⟨rfl, n4, rfl⟩
                go_wp2
                go_roundw
                case rel => exact ⟨k + 1, p + n, by omega, by go_num, HE2.out, HF.out, by omega, by first | exact HW1.out _ _ | (rw [World.drewN_drewN]; exact HW1.out _ _)⟩
                case measure => simp [intOf]; omega
      · have HF : Hid (A = (0, 0)) := by
          show _ = _
          rw [← HAA.out]
          apply nmE_out
          intro hp
          have h1 := HD.out
          rw [List.drop_eq_nil_of_le (by omega), pcs_in s p hp] at h1
          cases h1
        have HB := HB1.out wr hbel
        clear HC
        go_wp2
        go_ret2
        rw [HF.out]
        exact ⟨rfl, HB⟩
end Go.Proofs.YtenhaogheilmoaaDoor.Text
