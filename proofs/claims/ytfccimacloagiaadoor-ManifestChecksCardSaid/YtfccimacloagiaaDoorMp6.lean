/-
  Package manifest: the reader's next number.
-/
import Derived.Test.YtfccimacloagiaaDoorMp5
import Derived.Deep.QuietTactic
import Derived.BigQuiet
import Derived.Deep.CutRange
namespace Go.Proofs.YtfccimacloagiaaDoor
open Go Go.RowKit
open Wb

/-- a reader in a block -/
def Rd (w : World) (R : Nat) (v : Value) (at0 : Int) (f : Nat) : Prop := ∃ t, w.heap[R]? = some (.cells #[v, .int .i64 at0, .int .i64 (f : Int)] t)
theorem Rd.c0 {w : World} {R : Nat} {v : Value} {a : Int} {f : Nat} (h : Rd w R v a f) : w.cell? ⟨R, 0, none⟩ = some v := by
  obtain ⟨t, h⟩ := h
  unfold World.cell?
  rw [h]
  rfl
theorem Rd.c1 {w : World} {R : Nat} {v : Value} {a : Int} {f : Nat} (h : Rd w R v a f) : w.cell? ⟨R, 1, none⟩ = some (.int .i64 a) := by
  obtain ⟨t, h⟩ := h
  unfold World.cell?
  rw [h]
  rfl
theorem Rd.c2 {w : World} {R : Nat} {v : Value} {a : Int} {f : Nat} (h : Rd w R v a f) : w.cell? ⟨R, 2, none⟩ = some (.int .i64 (f : Int)) := by
  obtain ⟨t, h⟩ := h
  unfold World.cell?
  rw [h]
  rfl
theorem Rd.frozen {w : World} {R : Nat} {v : Value} {a : Int} {f : Nat} (h : Rd w R v a f) (j : Nat) : w.frozen? ⟨R, j, none⟩ = false := by
  obtain ⟨t, h⟩ := h
  unfold World.frozen?
  rw [h]
  simp
/-- only block R is another -/
structure Only (R : Nat) (w w' : World) : Prop where
  os : w'.os = w.os
  tape : w'.tape = w.tape
  output : w'.output = w.output
  size : w'.heap.size = w.heap.size
  block : ∀ g, g ≠ R → w'.heap[g]? = w.heap[g]?
theorem Only.refl (R : Nat) (w : World) : Only R w w := ⟨rfl, rfl, rfl, rfl, fun _ _ => rfl⟩
theorem Only.set (R : Nat) (w : World) (j : Nat) (u : Value) : Only R w (w.setCell ⟨R, j, none⟩ u) := ⟨rfl, rfl, rfl, by simp [World.setCell], fun g hg => by
  simp only [World.setCell]
  rw [Array.getElem?_modify]
  rw [if_neg (Ne.symm hg)]⟩
theorem Rd.put1 {w : World} {R : Nat} {v : Value} {a : Int} {f : Nat} (h : Rd w R v a f) (a' : Int) : Rd (w.setCell ⟨R, 1, none⟩ (.int .i64 a')) R v a' f := by
  obtain ⟨t, h⟩ := h
  refine ⟨t, ?_⟩
  simp only [World.setCell]
  rw [Array.getElem?_modify, if_pos rfl, h]
  rfl
theorem Rd.put2 {w : World} {R : Nat} {v : Value} {a : Int} {f : Nat} (h : Rd w R v a f) (f' : Nat) : Rd (w.setCell ⟨R, 2, none⟩ (.int .i64 (f' : Int))) R v a f' := by
  obtain ⟨t, h⟩ := h
  refine ⟨t, ?_⟩
  simp only [World.setCell]
  rw [Array.getElem?_modify, if_pos rfl, h]
  rfl
theorem bdrewM (w : World) (n : Nat) : Below w.heap.size w (w.drewN n) := ⟨rfl, rfl, rfl, Nat.le_refl _, fun _ _ => rfl⟩
theorem ru_lt (body : List Nat) (hok : ok body) (p : Int) : (Wn.ru body p).1 < 18446744073709551616 := by
  rcases Wn.ru_cases body p with ⟨e, _, _, hr⟩ | ⟨a, x, n, _, _, _, hrd, hr⟩
  · rw [hr]; show (0 : Nat) < _; decide
  · rw [hr]
    exact (ru_there body a x n hok hrd).2.2
theorem rd_drew {w : World} {R : Nat} {v : Value} {a : Int} {f : Nat} (h : Rd w R v a f) (n : Nat) : Rd (w.drewN n) R v a f := h
theorem only_drew {R : Nat} {w w' : World} (h : Only R w w') (n : Nat) : Only R w (w'.drewN n) := ⟨h.os, h.tape, h.output, h.size, h.block⟩
/-- what next leaves -/
def NxPost (R : Nat) (v : Value) (w : World) (r : Int × (Int × Nat)) (e : Ending) (w' : World) : Prop := e = .returned (.int .i64 r.1) ∧ Rd w' R v r.2.1 r.2.2 ∧ Only R w w'
set_option maxRecDepth 100000 in
set_option maxHeartbeats 4000000 in
theorem next_fault (R : Nat) (v : Value) (body : List Nat) (a : Int) (f : Nat) (base : Int) (w : World) (hR : Rd w R v a f) (hf : f ≠ 0) :
    Calls Tryd.prog 51 #[.pointer (some ⟨R, 0, none⟩), .int .i64 base] w fun e w' => NxPost R v w (nx body (a, f) base) e w' := by
  have HN : Hid (nx body (a, f) base = (0, (a, f))) := by
    show _ = _
    unfold nx
    rw [if_pos hf]
  have c2 := hR.c2
  have hz : ¬ (f : Int) = 0 := by omega
  rw [HN.out]
  go_enter Tryd.func51, Tryd.ntmps51
  go_wp2
  go_ret
  exact ⟨rfl, hR, Only.refl _ _⟩
set_option maxRecDepth 100000 in
set_option maxHeartbeats 4000000 in
theorem next_ok (R : Nat) (v : Value) (body : List Nat) (a : Int) (base : Int) (w : World) (hR : Rd w R v a 0) (hb : Bs w v body) (hl : body.length ≤ 140737488355328) (h0 : 0 ≤ base) (h1 : base ≤ 9223372036854775807) :
    Calls Tryd.prog 51 #[.pointer (some ⟨R, 0, none⟩), .int .i64 base] w fun e w' => NxPost R v w (nx body (a, 0) base) e w' := by
  have c0 := hR.c0
  have c1 := hR.c1
  have c2 := hR.c2
  have f1 := hR.frozen 1
  have f2 := hR.frozen 2
  have HRU : Hid (∀ n, Calls Tryd.prog 48 #[v, .int .i64 a] (w.drewN n) fun e w' => e = .returned (tup3 (Wn.ru body a).1 (Wn.ru body a).2.1 (Wn.ru body a).2.2) ∧ ∃ m, w' = (w.drewN n).drewN m) := fun n => (readUint_any v body a (w.drewN n) (hb.kept (bdrewM w n)) hl).mono fun e w' ⟨he, hw⟩ => ⟨he, 0, hw.symm⟩
  obtain ⟨ab, cb, rfl, _⟩ := hb.shape
  unfold tup3 at HRU
  rcases hru : Wn.ru body a with ⟨x, q, e⟩
  rw [hru] at HRU
  simp only at HRU
  have HD : Hid (Rd w R (.slice ab body.length cb) a 0) := hR
  have hx := ru_lt body hb.good a
  rw [hru] at hx
  simp only at hx
  clear hR hb
  rw [show ((0 : Nat) : Int) = 0 from rfl] at c2
  by_cases he : e = 0
  · subst he
    rw [show ((0 : Nat) : Int) = 0 from rfl] at HRU
    by_cases hg : 9223372036854775807 - base < (x : Int)
    · have HN : Hid (nx body (a, 0) base = (0, (a, 85))) := by
        show _ = _
        unfold nx
        rw [if_neg (by simp), hru, if_neg (by simp), if_pos hg]
      clear hru
      rw [HN.out]
      go_enter Tryd.func51, Tryd.ntmps51
      go_upto_region 3 with fail
      go_quiet (first | (go_at_call 48; refine Calls.quiet_of (HRU.out _)))
      go_wp2
      go_ret
      exact ⟨rfl, rd_drew (HD.out.put2 85) _, only_drew (Only.set _ _ _ _) _⟩
    · have HN : Hid (nx body (a, 0) base = (base + (x : Int), (q, 0))) := by
        show _ = _
        unfold nx
        rw [if_neg (by simp), hru, if_neg (by simp), if_neg hg]
      clear hru
      rw [HN.out]
      go_enter Tryd.func51, Tryd.ntmps51
      go_upto_region 3 with fail
      go_quiet (first | (go_at_call 48; refine Calls.quiet_of (HRU.out _)))
      go_wp2
      go_ret
      exact ⟨rfl, rd_drew (HD.out.put1 q) _, only_drew (Only.set _ _ _ _) _⟩
  · have HN : Hid (nx body (a, 0) base = (0, (a, e))) := by
      show _ = _
      unfold nx
      rw [if_neg (by simp), hru, if_pos he]
    have hz : ¬ (e : Int) = 0 := by omega
    clear hru he
    rw [HN.out]
    go_enter Tryd.func51, Tryd.ntmps51
    go_upto_region 3 with fail
    go_quiet (first | (go_at_call 48; refine Calls.quiet_of (HRU.out _)))
    go_wp2
    go_ret
    exact ⟨rfl, rd_drew (HD.out.put2 e) _, only_drew (Only.set _ _ _ _) _⟩
theorem next_any (R : Nat) (v : Value) (body : List Nat) (st : Int × Nat) (base : Int) (w : World) (hR : Rd w R v st.1 st.2) (hb : Bs w v body) (hl : body.length ≤ 140737488355328) (h0 : 0 ≤ base) (h1 : base ≤ 9223372036854775807) :
    Calls Tryd.prog 51 #[.pointer (some ⟨R, 0, none⟩), .int .i64 base] w fun e w' => NxPost R v w (nx body st base) e w' := by
  obtain ⟨a, f⟩ := st
  by_cases hf : f = 0
  · subst hf
    exact next_ok R v body a base w hR hb hl h0 h1
  · exact next_fault R v body a f base w hR hf
theorem nx_val (body : List Nat) (st : Int × Nat) (base : Int) (h0 : 0 ≤ base) (h1 : base ≤ 9223372036854775807) : 0 ≤ (nx body st base).1 ∧ (nx body st base).1 ≤ 9223372036854775807 := by
  unfold nx
  split
  · exact ⟨by show (0 : Int) ≤ 0; omega, by show (0 : Int) ≤ _; omega⟩
  · split
    · exact ⟨by show (0 : Int) ≤ 0; omega, by show (0 : Int) ≤ _; omega⟩
    · split
      · exact ⟨by show (0 : Int) ≤ 0; omega, by show (0 : Int) ≤ _; omega⟩
      · exact ⟨by show (0 : Int) ≤ base + _; omega, by show base + _ ≤ (9223372036854775807 : Int); omega⟩
theorem nx_step (body : List Nat) (st : Int × Nat) (base : Int) (h : (nx body st base).2.2 = 0) : st.1 < (nx body st base).2.1 ∧ (nx body st base).2.1 ≤ (body.length : Int) ∧ 0 < (nx body st base).2.1 := by
  have hf := nx_fault body st base h
  unfold nx at h ⊢
  rw [if_neg (by omega)] at h ⊢
  rcases Wn.ru_cases body st.1 with ⟨e, he, _, hr⟩ | ⟨a, x, n, ha, hle, hn, hrd, hr⟩
  · rw [hr] at h
    rw [if_pos he] at h
    exact absurd h he
  · rw [hr] at h ⊢
    rw [if_neg (by simp)] at h ⊢
    split at h
    · simp at h
    · rw [if_neg (by assumption)]
      exact ⟨by show st.1 < ((a + n : Nat) : Int); omega, by show ((a + n : Nat) : Int) ≤ _; omega, by show (0 : Int) < ((a + n : Nat) : Int); omega⟩
end Go.Proofs.YtfccimacloagiaaDoor
