/-
  Package rewrite over a store that is none: records, Compact, Upgrade, Dead.
-/
import Derived.Test.YtfbldghhmjenlaaGreatDoorSb7
import Derived.Defers
import Derived.LaidEql
import Derived.Stop.Asserts
namespace Go.Proofs.YtfbldghhmjenlaaGreatDoor
open Go Go.RowKit
open Wb

def rp7 : List Value := [.int .i64 0, .int .i64 0, .int .i64 0, .int .i64 0, .int .i64 0, .int .i64 0, .int .i64 0]
def flt (why : ByteArray) : List Value := [.string why, .iface 35 (.int .i64 1)]
theorem infoRep : (Tryz.prog.info? 23).map (·.size) = some 7 := by kernel_rfl
theorem rp7_one : rp7.toArray.all (·.oneCell') = true := by kernel_rfl
theorem rnrecords_nil (w : World) : Calls Tryz.prog 13 #[.pointer none] w fun e w' => e = .returned (.tuple #[.slice none 0 0, .iface 35 (.int .i64 1)]) ∧ w' = w := by
  go_enter Tryz.func13, Tryz.ntmps13
  go_wp2
  go_ret2
  exact ⟨rfl, rfl⟩
/-- what is handed out: nothing, and the Fault -/
def RnPost (w : World) (why : ByteArray) (e : Ending) (w' : World) : Prop := ∃ g, e = .returned (.tuple #[.agg #[.int .i64 0, .int .i64 0, .int .i64 0, .int .i64 0, .int .i64 0, .int .i64 0, .int .i64 0], .iface 34 (.pointer (some ⟨g, 0, none⟩))]) ∧ LB w' g 37 (flt why) ∧ Below w.heap.size w w' ∧ w.heap.size ≤ g
set_option maxRecDepth 100000 in
set_option maxHeartbeats 4000000 in
theorem rncompact1 (ge go B : Nat) (w : World) (hE : LB w ge 25 [.iface 35 (.int .i64 1)]) (hO : LB w go 23 rp7) (h1 : B ≤ ge) (h2 : B ≤ go) (hn : ge ≠ go) (hs : B ≤ w.heap.size) :
    CallsD Tryz.prog 12 #[.pointer (some ⟨ge, 0, none⟩), .pointer (some ⟨go, 0, none⟩)] .returning w fun e u' w' => u' = .returning ∧ (e = .returned (.tuple #[]) ∧ ∃ g, LB w' go 23 rp7 ∧ LB w' ge 25 [.iface 34 (.pointer (some ⟨g, 0, none⟩))] ∧ LB w' g 37 (flt ⟨#[99, 111, 109, 112, 97, 99, 116]⟩) ∧ Below B w w' ∧ B ≤ g) := by
  have c0 := hE.cell 0 _ rfl
  have HO : Hid (∀ o, LB (w.alloc o) go 23 rp7) := fun o => hO.kept (up0 _ _)
  have k0 : ∀ o, (w.alloc o).cell? ⟨go, 0, none⟩ = some (.int .i64 0) := fun o => (HO.out o).cell 0 _ rfl
  have q0 : ∀ o, (w.alloc o).frozen? ⟨go, 0, none⟩ = false := fun o => (HO.out o).free 0
  have k1 : ∀ o, (w.alloc o).cell? ⟨go, 1, none⟩ = some (.int .i64 0) := fun o => (HO.out o).cell 1 _ rfl
  have q1 : ∀ o, (w.alloc o).frozen? ⟨go, 1, none⟩ = false := fun o => (HO.out o).free 1
  have k2 : ∀ o, (w.alloc o).cell? ⟨go, 2, none⟩ = some (.int .i64 0) := fun o => (HO.out o).cell 2 _ rfl
  have q2 : ∀ o, (w.alloc o).frozen? ⟨go, 2, none⟩ = false := fun o => (HO.out o).free 2
  have k3 : ∀ o, (w.alloc o).cell? ⟨go, 3, none⟩ = some (.int .i64 0) := fun o => (HO.out o).cell 3 _ rfl
  have q3 : ∀ o, (w.alloc o).frozen? ⟨go, 3, none⟩ = false := fun o => (HO.out o).free 3
  have k4 : ∀ o, (w.alloc o).cell? ⟨go, 4, none⟩ = some (.int .i64 0) := fun o => (HO.out o).cell 4 _ rfl
  have q4 : ∀ o, (w.alloc o).frozen? ⟨go, 4, none⟩ = false := fun o => (HO.out o).free 4
  have k5 : ∀ o, (w.alloc o).cell? ⟨go, 5, none⟩ = some (.int .i64 0) := fun o => (HO.out o).cell 5 _ rfl
  have q5 : ∀ o, (w.alloc o).frozen? ⟨go, 5, none⟩ = false := fun o => (HO.out o).free 5
  have k6 : ∀ o, (w.alloc o).cell? ⟨go, 6, none⟩ = some (.int .i64 0) := fun o => (HO.out o).cell 6 _ rfl
  have q6 : ∀ o, (w.alloc o).frozen? ⟨go, 6, none⟩ = false := fun o => (HO.out o).free 6
  have e0 : ∀ o, (w.alloc o).cell? ⟨ge, 0, none⟩ = some (.iface 35 (.int .i64 1)) := fun o => (hE.kept (up0 _ _)).cell 0 _ rfl
  have f0 : ∀ o, (w.alloc o).frozen? ⟨ge, 0, none⟩ = false := fun o => (hE.kept (up0 _ _)).free 0
  have hn2 : go ≠ ge := fun h => hn h.symm
  have HF : Hid (∀ o, o = .cells #[.string ⟨#[99, 111, 109, 112, 97, 99, 116]⟩, .iface 35 (.int .i64 1)] 37 → ∀ W, W = ((((((((w.alloc o).setCell ⟨go, 0, none⟩ (.int .i64 0)).setCell ⟨go, 1, none⟩ (.int .i64 0)).setCell ⟨go, 2, none⟩ (.int .i64 0)).setCell ⟨go, 3, none⟩ (.int .i64 0)).setCell ⟨go, 4, none⟩ (.int .i64 0)).setCell ⟨go, 5, none⟩ (.int .i64 0)).setCell ⟨go, 6, none⟩ (.int .i64 0)).setCell ⟨ge, 0, none⟩ (.iface 34 (.pointer (some ⟨w.heap.size, 0, none⟩))) → LB W go 23 rp7 ∧ LB W ge 25 [.iface 34 (.pointer (some ⟨w.heap.size, 0, none⟩))] ∧ LB W w.heap.size 37 (flt ⟨#[99, 111, 109, 112, 97, 99, 116]⟩) ∧ Below B w W) := fun o ho W hW => by
    subst ho hW
    have l1 := hE.lt
    have l2 := hO.lt
    refine ⟨LB.other (LB.set (LB.set (LB.set (LB.set (LB.set (LB.set (LB.set (HO.out _) 0 (.int .i64 0)) 1 (.int .i64 0)) 2 (.int .i64 0)) 3 (.int .i64 0)) 4 (.int .i64 0)) 5 (.int .i64 0)) 6 (.int .i64 0)) _ _ hn2, LB.set (LB.other (LB.other (LB.other (LB.other (LB.other (LB.other (LB.other (hE.kept (up0 _ _)) ⟨go, 0, none⟩ (.int .i64 0) hn) ⟨go, 1, none⟩ (.int .i64 0) hn) ⟨go, 2, none⟩ (.int .i64 0) hn) ⟨go, 3, none⟩ (.int .i64 0) hn) ⟨go, 4, none⟩ (.int .i64 0) hn) ⟨go, 5, none⟩ (.int .i64 0) hn) ⟨go, 6, none⟩ (.int .i64 0) hn) 0 _, LB.other (LB.other (LB.other (LB.other (LB.other (LB.other (LB.other (LB.other (lb_new w (flt ⟨#[99, 111, 109, 112, 97, 99, 116]⟩) 37) ⟨go, 0, none⟩ (.int .i64 0) (by show w.heap.size ≠ go; omega)) ⟨go, 1, none⟩ (.int .i64 0) (by show w.heap.size ≠ go; omega)) ⟨go, 2, none⟩ (.int .i64 0) (by show w.heap.size ≠ go; omega)) ⟨go, 3, none⟩ (.int .i64 0) (by show w.heap.size ≠ go; omega)) ⟨go, 4, none⟩ (.int .i64 0) (by show w.heap.size ≠ go; omega)) ⟨go, 5, none⟩ (.int .i64 0) (by show w.heap.size ≠ go; omega)) ⟨go, 6, none⟩ (.int .i64 0) (by show w.heap.size ≠ go; omega)) _ _ (by show w.heap.size ≠ ge; omega), Below.setCell (p := ⟨ge, 0, none⟩) (Below.setCell (p := ⟨go, 6, none⟩) (Below.setCell (p := ⟨go, 5, none⟩) (Below.setCell (p := ⟨go, 4, none⟩) (Below.setCell (p := ⟨go, 3, none⟩) (Below.setCell (p := ⟨go, 2, none⟩) (Below.setCell (p := ⟨go, 1, none⟩) (Below.setCell (p := ⟨go, 0, none⟩) ((up0 w _).mono hs) h2 (.int .i64 0)) h2 (.int .i64 0)) h2 (.int .i64 0)) h2 (.int .i64 0)) h2 (.int .i64 0)) h2 (.int .i64 0)) h2 (.int .i64 0)) h1 _⟩
  clear hE hO
  go_enter_d Tryz.func12, Tryz.ntmps12
  go_wp2_with fail
  go_end0
  exact ⟨rfl, _, (HF.out _ rfl _ rfl).1, (HF.out _ rfl _ rfl).2.1, (HF.out _ rfl _ rfl).2.2.1, (HF.out _ rfl _ rfl).2.2.2, hs⟩
set_option maxRecDepth 100000 in
set_option maxHeartbeats 4000000 in
theorem rncompact (w : World) : Calls Tryz.prog 4 #[.pointer none] w fun e w' => RnPost w ⟨#[99, 111, 109, 112, 97, 99, 116]⟩ e w' := by
  have hmf : ∀ (fn : Fn) (first cap : Array Value) (w : World), (Instr.makeFunc fn first cap).run Tryz.prog w = .ok (.func fn first cap) w := fun _ _ _ _ => rfl
  go_enter_defers Tryz.func4, Tryz.ntmps4
  go_wp2_with fail
  refine (rnrecords_nil _).mono ?_
  rintro e w1 ⟨rfl, rfl⟩
  go_upto_region 4 with fail
  go_region
  go_wp2_with fail
  obtain ⟨x1, x2, x3⟩ := lb_new2 w rp7 [.iface 35 (.int .i64 1)] 23 25
  refine leaves_cons (f := 12) (args := #[.pointer (some ⟨w.heap.size + 1, 0, none⟩), .pointer (some ⟨w.heap.size, 0, none⟩)]) (by simp) (by simp [go_sem]) ?_
  refine (rncompact1 (w.heap.size + 1) w.heap.size w.heap.size _ (x2.kept (Below.drew (Below.refl _ _))) (x1.kept (Below.drew (Below.refl _ _))) (by omega) (Nat.le_refl _) (by omega) (Below.drew x3).size).mono ?_
  rintro e u' w'' ⟨rfl, rfl, g, l1, l2, l3, b, hg⟩
  have y0 := l1.cell 0 _ rfl
  have y1 := l1.cell 1 _ rfl
  have y2 := l1.cell 2 _ rfl
  have y3 := l1.cell 3 _ rfl
  have y4 := l1.cell 4 _ rfl
  have y5 := l1.cell 5 _ rfl
  have y6 := l1.cell 6 _ rfl
  have z0 := l2.cell 0 _ rfl
  refine ⟨_, by simp [results, Tryz.results4, go_sem, y0, y1, y2, y3, y4, y5, y6, z0], g, rfl, l3, (Below.drew x3).trans b, hg⟩
set_option maxRecDepth 100000 in
set_option maxHeartbeats 4000000 in
theorem rnupgrade1 (ge go B : Nat) (w : World) (hE : LB w ge 25 [.iface 35 (.int .i64 1)]) (hO : LB w go 23 rp7) (h1 : B ≤ ge) (h2 : B ≤ go) (hn : ge ≠ go) (hs : B ≤ w.heap.size) :
    CallsD Tryz.prog 20 #[.pointer (some ⟨ge, 0, none⟩), .pointer (some ⟨go, 0, none⟩)] .returning w fun e u' w' => u' = .returning ∧ (e = .returned (.tuple #[]) ∧ ∃ g, LB w' go 23 rp7 ∧ LB w' ge 25 [.iface 34 (.pointer (some ⟨g, 0, none⟩))] ∧ LB w' g 37 (flt ⟨#[117, 112, 103, 114, 97, 100, 101]⟩) ∧ Below B w w' ∧ B ≤ g) := by
  have c0 := hE.cell 0 _ rfl
  have HO : Hid (∀ o, LB (w.alloc o) go 23 rp7) := fun o => hO.kept (up0 _ _)
  have k0 : ∀ o, (w.alloc o).cell? ⟨go, 0, none⟩ = some (.int .i64 0) := fun o => (HO.out o).cell 0 _ rfl
  have q0 : ∀ o, (w.alloc o).frozen? ⟨go, 0, none⟩ = false := fun o => (HO.out o).free 0
  have k1 : ∀ o, (w.alloc o).cell? ⟨go, 1, none⟩ = some (.int .i64 0) := fun o => (HO.out o).cell 1 _ rfl
  have q1 : ∀ o, (w.alloc o).frozen? ⟨go, 1, none⟩ = false := fun o => (HO.out o).free 1
  have k2 : ∀ o, (w.alloc o).cell? ⟨go, 2, none⟩ = some (.int .i64 0) := fun o => (HO.out o).cell 2 _ rfl
  have q2 : ∀ o, (w.alloc o).frozen? ⟨go, 2, none⟩ = false := fun o => (HO.out o).free 2
  have k3 : ∀ o, (w.alloc o).cell? ⟨go, 3, none⟩ = some (.int .i64 0) := fun o => (HO.out o).cell 3 _ rfl
  have q3 : ∀ o, (w.alloc o).frozen? ⟨go, 3, none⟩ = false := fun o => (HO.out o).free 3
  have k4 : ∀ o, (w.alloc o).cell? ⟨go, 4, none⟩ = some (.int .i64 0) := fun o => (HO.out o).cell 4 _ rfl
  have q4 : ∀ o, (w.alloc o).frozen? ⟨go, 4, none⟩ = false := fun o => (HO.out o).free 4
  have k5 : ∀ o, (w.alloc o).cell? ⟨go, 5, none⟩ = some (.int .i64 0) := fun o => (HO.out o).cell 5 _ rfl
  have q5 : ∀ o, (w.alloc o).frozen? ⟨go, 5, none⟩ = false := fun o => (HO.out o).free 5
  have k6 : ∀ o, (w.alloc o).cell? ⟨go, 6, none⟩ = some (.int .i64 0) := fun o => (HO.out o).cell 6 _ rfl
  have q6 : ∀ o, (w.alloc o).frozen? ⟨go, 6, none⟩ = false := fun o => (HO.out o).free 6
  have e0 : ∀ o, (w.alloc o).cell? ⟨ge, 0, none⟩ = some (.iface 35 (.int .i64 1)) := fun o => (hE.kept (up0 _ _)).cell 0 _ rfl
  have f0 : ∀ o, (w.alloc o).frozen? ⟨ge, 0, none⟩ = false := fun o => (hE.kept (up0 _ _)).free 0
  have hn2 : go ≠ ge := fun h => hn h.symm
  have HF : Hid (∀ o, o = .cells #[.string ⟨#[117, 112, 103, 114, 97, 100, 101]⟩, .iface 35 (.int .i64 1)] 37 → ∀ W, W = ((((((((w.alloc o).setCell ⟨go, 0, none⟩ (.int .i64 0)).setCell ⟨go, 1, none⟩ (.int .i64 0)).setCell ⟨go, 2, none⟩ (.int .i64 0)).setCell ⟨go, 3, none⟩ (.int .i64 0)).setCell ⟨go, 4, none⟩ (.int .i64 0)).setCell ⟨go, 5, none⟩ (.int .i64 0)).setCell ⟨go, 6, none⟩ (.int .i64 0)).setCell ⟨ge, 0, none⟩ (.iface 34 (.pointer (some ⟨w.heap.size, 0, none⟩))) → LB W go 23 rp7 ∧ LB W ge 25 [.iface 34 (.pointer (some ⟨w.heap.size, 0, none⟩))] ∧ LB W w.heap.size 37 (flt ⟨#[117, 112, 103, 114, 97, 100, 101]⟩) ∧ Below B w W) := fun o ho W hW => by
    subst ho hW
    have l1 := hE.lt
    have l2 := hO.lt
    refine ⟨LB.other (LB.set (LB.set (LB.set (LB.set (LB.set (LB.set (LB.set (HO.out _) 0 (.int .i64 0)) 1 (.int .i64 0)) 2 (.int .i64 0)) 3 (.int .i64 0)) 4 (.int .i64 0)) 5 (.int .i64 0)) 6 (.int .i64 0)) _ _ hn2, LB.set (LB.other (LB.other (LB.other (LB.other (LB.other (LB.other (LB.other (hE.kept (up0 _ _)) ⟨go, 0, none⟩ (.int .i64 0) hn) ⟨go, 1, none⟩ (.int .i64 0) hn) ⟨go, 2, none⟩ (.int .i64 0) hn) ⟨go, 3, none⟩ (.int .i64 0) hn) ⟨go, 4, none⟩ (.int .i64 0) hn) ⟨go, 5, none⟩ (.int .i64 0) hn) ⟨go, 6, none⟩ (.int .i64 0) hn) 0 _, LB.other (LB.other (LB.other (LB.other (LB.other (LB.other (LB.other (LB.other (lb_new w (flt ⟨#[117, 112, 103, 114, 97, 100, 101]⟩) 37) ⟨go, 0, none⟩ (.int .i64 0) (by show w.heap.size ≠ go; omega)) ⟨go, 1, none⟩ (.int .i64 0) (by show w.heap.size ≠ go; omega)) ⟨go, 2, none⟩ (.int .i64 0) (by show w.heap.size ≠ go; omega)) ⟨go, 3, none⟩ (.int .i64 0) (by show w.heap.size ≠ go; omega)) ⟨go, 4, none⟩ (.int .i64 0) (by show w.heap.size ≠ go; omega)) ⟨go, 5, none⟩ (.int .i64 0) (by show w.heap.size ≠ go; omega)) ⟨go, 6, none⟩ (.int .i64 0) (by show w.heap.size ≠ go; omega)) _ _ (by show w.heap.size ≠ ge; omega), Below.setCell (p := ⟨ge, 0, none⟩) (Below.setCell (p := ⟨go, 6, none⟩) (Below.setCell (p := ⟨go, 5, none⟩) (Below.setCell (p := ⟨go, 4, none⟩) (Below.setCell (p := ⟨go, 3, none⟩) (Below.setCell (p := ⟨go, 2, none⟩) (Below.setCell (p := ⟨go, 1, none⟩) (Below.setCell (p := ⟨go, 0, none⟩) ((up0 w _).mono hs) h2 (.int .i64 0)) h2 (.int .i64 0)) h2 (.int .i64 0)) h2 (.int .i64 0)) h2 (.int .i64 0)) h2 (.int .i64 0)) h2 (.int .i64 0)) h1 _⟩
  clear hE hO
  go_enter_d Tryz.func20, Tryz.ntmps20
  go_wp2_with fail
  go_end0
  exact ⟨rfl, _, (HF.out _ rfl _ rfl).1, (HF.out _ rfl _ rfl).2.1, (HF.out _ rfl _ rfl).2.2.1, (HF.out _ rfl _ rfl).2.2.2, hs⟩
set_option maxRecDepth 100000 in
set_option maxHeartbeats 4000000 in
theorem rnupgrade (w : World) : Calls Tryz.prog 5 #[.pointer none] w fun e w' => RnPost w ⟨#[117, 112, 103, 114, 97, 100, 101]⟩ e w' := by
  have hmf : ∀ (fn : Fn) (first cap : Array Value) (w : World), (Instr.makeFunc fn first cap).run Tryz.prog w = .ok (.func fn first cap) w := fun _ _ _ _ => rfl
  go_enter_defers Tryz.func5, Tryz.ntmps5
  go_wp2_with fail
  refine (rnrecords_nil _).mono ?_
  rintro e w1 ⟨rfl, rfl⟩
  go_upto_region 4 with fail
  go_region
  go_wp2_with fail
  obtain ⟨x1, x2, x3⟩ := lb_new2 w rp7 [.iface 35 (.int .i64 1)] 23 25
  refine leaves_cons (f := 20) (args := #[.pointer (some ⟨w.heap.size + 1, 0, none⟩), .pointer (some ⟨w.heap.size, 0, none⟩)]) (by simp) (by simp [go_sem]) ?_
  refine (rnupgrade1 (w.heap.size + 1) w.heap.size w.heap.size _ (x2.kept (Below.drew (Below.refl _ _))) (x1.kept (Below.drew (Below.refl _ _))) (by omega) (Nat.le_refl _) (by omega) (Below.drew x3).size).mono ?_
  rintro e u' w'' ⟨rfl, rfl, g, l1, l2, l3, b, hg⟩
  have y0 := l1.cell 0 _ rfl
  have y1 := l1.cell 1 _ rfl
  have y2 := l1.cell 2 _ rfl
  have y3 := l1.cell 3 _ rfl
  have y4 := l1.cell 4 _ rfl
  have y5 := l1.cell 5 _ rfl
  have y6 := l1.cell 6 _ rfl
  have z0 := l2.cell 0 _ rfl
  refine ⟨_, by simp [results, Tryz.results5, go_sem, y0, y1, y2, y3, y4, y5, y6, z0], g, rfl, l3, (Below.drew x3).trans b, hg⟩
/-- Dead hands out two numbers and the Fault -/
def RdPost (w : World) (e : Ending) (w' : World) : Prop := ∃ g, e = .returned (.tuple #[.int .i64 0, .int .i64 0, .iface 34 (.pointer (some ⟨g, 0, none⟩))]) ∧ LB w' g 37 (flt ⟨#[100, 101, 97, 100]⟩) ∧ Below w.heap.size w w' ∧ w.heap.size ≤ g
set_option maxRecDepth 100000 in
set_option maxHeartbeats 4000000 in
theorem rndead1 (ge ga gb B : Nat) (w : World) (hE : LB w ge 25 [.iface 35 (.int .i64 1)]) (hA : LB w ga 3 [.int .i64 0]) (hB : LB w gb 3 [.int .i64 0]) (h1 : B ≤ ge) (h2 : B ≤ ga) (h3 : B ≤ gb) (n1 : ge ≠ ga) (n2 : ge ≠ gb) (n3 : ga ≠ gb) (hs : B ≤ w.heap.size) :
    CallsD Tryz.prog 22 #[.pointer (some ⟨ge, 0, none⟩), .pointer (some ⟨ga, 0, none⟩), .pointer (some ⟨gb, 0, none⟩)] .returning w fun e u' w' => u' = .returning ∧ (e = .returned (.tuple #[]) ∧ ∃ g, LB w' ga 3 [.int .i64 0] ∧ LB w' gb 3 [.int .i64 0] ∧ LB w' ge 25 [.iface 34 (.pointer (some ⟨g, 0, none⟩))] ∧ LB w' g 37 (flt ⟨#[100, 101, 97, 100]⟩) ∧ Below B w w' ∧ B ≤ g) := by
  have c0 := hE.cell 0 _ rfl
  have e0 : ∀ o, (w.alloc o).cell? ⟨ge, 0, none⟩ = some (.iface 35 (.int .i64 1)) := fun o => (hE.kept (up0 _ _)).cell 0 _ rfl
  have f0 : ∀ o, (w.alloc o).frozen? ⟨ge, 0, none⟩ = false := fun o => (hE.kept (up0 _ _)).free 0
  have e1 : ∀ o, (w.alloc o).cell? ⟨ga, 0, none⟩ = some (.int .i64 0) := fun o => (hA.kept (up0 _ _)).cell 0 _ rfl
  have f1 : ∀ o, (w.alloc o).frozen? ⟨ga, 0, none⟩ = false := fun o => (hA.kept (up0 _ _)).free 0
  have e2 : ∀ o, (w.alloc o).cell? ⟨gb, 0, none⟩ = some (.int .i64 0) := fun o => (hB.kept (up0 _ _)).cell 0 _ rfl
  have f2 : ∀ o, (w.alloc o).frozen? ⟨gb, 0, none⟩ = false := fun o => (hB.kept (up0 _ _)).free 0
  have m1 : ga ≠ ge := fun h => n1 h.symm
  have m2 : gb ≠ ge := fun h => n2 h.symm
  have m3 : gb ≠ ga := fun h => n3 h.symm
  have HF : Hid (∀ o, o = .cells #[.string ⟨#[100, 101, 97, 100]⟩, .iface 35 (.int .i64 1)] 37 → ∀ W, W = (((w.alloc o).setCell ⟨ga, 0, none⟩ (.int .i64 0)).setCell ⟨gb, 0, none⟩ (.int .i64 0)).setCell ⟨ge, 0, none⟩ (.iface 34 (.pointer (some ⟨w.heap.size, 0, none⟩))) → LB W ga 3 [.int .i64 0] ∧ LB W gb 3 [.int .i64 0] ∧ LB W ge 25 [.iface 34 (.pointer (some ⟨w.heap.size, 0, none⟩))] ∧ LB W w.heap.size 37 (flt ⟨#[100, 101, 97, 100]⟩) ∧ Below B w W) := fun o ho W hW => by
    subst ho hW
    have l1 := hE.lt
    have l2 := hA.lt
    have l3 := hB.lt
    refine ⟨LB.other (LB.other (LB.set (hA.kept (up0 _ _)) 0 (.int .i64 0)) _ _ n3) _ _ m1, LB.other (LB.set (LB.other (hB.kept (up0 _ _)) _ _ m3) 0 (.int .i64 0)) _ _ m2, LB.set (LB.other (LB.other (hE.kept (up0 _ _)) _ _ n1) _ _ n2) 0 _, LB.other (LB.other (LB.other (lb_new w (flt ⟨#[100, 101, 97, 100]⟩) 37) _ _ (by show w.heap.size ≠ ga; omega)) _ _ (by show w.heap.size ≠ gb; omega)) _ _ (by show w.heap.size ≠ ge; omega), Below.setCell (p := ⟨ge, 0, none⟩) (Below.setCell (p := ⟨gb, 0, none⟩) (Below.setCell (p := ⟨ga, 0, none⟩) ((up0 w _).mono hs) h2 _) h3 _) h1 _⟩
  clear hE hA hB
  go_enter_d Tryz.func22, Tryz.ntmps22
  go_wp2_with fail
  go_end0
  exact ⟨rfl, _, (HF.out _ rfl _ rfl).1, (HF.out _ rfl _ rfl).2.1, (HF.out _ rfl _ rfl).2.2.1, (HF.out _ rfl _ rfl).2.2.2.1, (HF.out _ rfl _ rfl).2.2.2.2, hs⟩
set_option maxRecDepth 100000 in
set_option maxHeartbeats 4000000 in
theorem rndead (w : World) : Calls Tryz.prog 6 #[.pointer none] w fun e w' => RdPost w e w' := by
  have hmf : ∀ (fn : Fn) (first cap : Array Value) (w : World), (Instr.makeFunc fn first cap).run Tryz.prog w = .ok (.func fn first cap) w := fun _ _ _ _ => rfl
  go_enter_defers Tryz.func6, Tryz.ntmps6
  go_wp2_with fail
  refine (rnrecords_nil _).mono ?_
  rintro e w1 ⟨rfl, rfl⟩
  go_upto_region 4 with fail
  go_region
  go_wp2_with fail
  have x0 : LB (((w.alloc (.cells #[.int .i64 0] 3)).alloc (.cells #[.int .i64 0] 3)).alloc (.cells #[.iface 35 (.int .i64 1)] 25)) w.heap.size 3 [.int .i64 0] := ((lb_new w [.int .i64 0] 3).kept (up0 _ _)).kept (up0 _ _)
  have x1 : LB (((w.alloc (.cells #[.int .i64 0] 3)).alloc (.cells #[.int .i64 0] 3)).alloc (.cells #[.iface 35 (.int .i64 1)] 25)) (w.heap.size + 1) 3 [.int .i64 0] := by
    have e := lb_new (w.alloc (.cells #[.int .i64 0] 3)) [.int .i64 0] 3
    rw [heap_one] at e
    exact e.kept (up0 _ _)
  have x2 : LB (((w.alloc (.cells #[.int .i64 0] 3)).alloc (.cells #[.int .i64 0] 3)).alloc (.cells #[.iface 35 (.int .i64 1)] 25)) (w.heap.size + 1 + 1) 25 [.iface 35 (.int .i64 1)] := by
    have e := lb_new ((w.alloc (.cells #[.int .i64 0] 3)).alloc (.cells #[.int .i64 0] 3)) [.iface 35 (.int .i64 1)] 25
    rw [heap_one, heap_one] at e
    exact e
  have x3 : Below w.heap.size w (((w.alloc (.cells #[.int .i64 0] 3)).alloc (.cells #[.int .i64 0] 3)).alloc (.cells #[.iface 35 (.int .i64 1)] 25)) := up (up (up0 w _) _) _
  refine leaves_cons (f := 22) (args := #[.pointer (some ⟨w.heap.size + 1 + 1, 0, none⟩), .pointer (some ⟨w.heap.size, 0, none⟩), .pointer (some ⟨w.heap.size + 1, 0, none⟩)]) (by simp) (by simp [go_sem]) ?_
  refine (rndead1 (w.heap.size + 1 + 1) w.heap.size (w.heap.size + 1) w.heap.size _ (x2.kept (Below.drew (Below.refl _ _))) (x0.kept (Below.drew (Below.refl _ _))) (x1.kept (Below.drew (Below.refl _ _))) (by omega) (Nat.le_refl _) (by omega) (by omega) (by omega) (by omega) (Below.drew x3).size).mono ?_
  rintro e u' w'' ⟨rfl, rfl, g, l1, l2, l3, l4, b, hg⟩
  have y0 := l1.cell 0 _ rfl
  have y1 := l2.cell 0 _ rfl
  have z0 := l3.cell 0 _ rfl
  refine ⟨_, by simp [results, Tryz.results6, go_sem, y0, y1, z0], g, rfl, l4, (Below.drew x3).trans b, hg⟩
end Go.Proofs.YtfbldghhmjenlaaGreatDoor
