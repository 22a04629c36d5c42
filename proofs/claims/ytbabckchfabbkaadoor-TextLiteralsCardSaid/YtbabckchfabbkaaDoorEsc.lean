/-
  Package text: escape.
-/
import Derived.Test.YtbabckchfabbkaaDoorEsr2
namespace Go.Proofs.YtbabckchfabbkaaDoor
open Go Go.RowKit Go.Lib
open Tx

/-- what escape reads -/
def Tx.esc (s : ByteArray) : ByteArray × Nat :=
  if pre s ⟨#[92, 120]⟩ = true then eb s
  else if pre s ⟨#[92, 117, 123]⟩ = true then erL (s.extract 3 s.size) 0 0
  else if pre s ⟨#[92, 34]⟩ = true then (⟨#[34]⟩, 2)
  else if pre s ⟨#[92, 92]⟩ = true then (⟨#[92]⟩, 2)
  else if pre s ⟨#[92, 110]⟩ = true then (⟨#[10]⟩, 2)
  else if pre s ⟨#[92, 116]⟩ = true then (⟨#[9]⟩, 2)
  else if pre s ⟨#[92, 114]⟩ = true then (⟨#[13]⟩, 2)
  else (⟨#[]⟩, 0)
theorem pre_size (s p : ByteArray) (h : pre s p = true) : p.size ≤ s.size := by
  unfold pre at h
  simp only [Bool.and_eq_true, decide_eq_true_eq] at h
  exact h.1
set_option maxRecDepth 100000 in
set_option maxHeartbeats 2000000 in
theorem esc_any (s : ByteArray) (w : World) (hs : s.size ≤ 8000000) :
    Calls Tryd.prog 50 #[.string s] w fun e w' => e = .returned (.tuple #[.string (esc s).1, .int .i64 (esc s).2]) ∧ Below w.heap.size w w' := by
  cases p0 : pre s ⟨#[92, 120]⟩ with
  | true =>
    have HF : Hid (esc s = eb s) := by show _ = _; unfold esc; rw [if_pos p0]
    have HP0 : Hid (pre s ⟨#[92, 120]⟩ = true) := p0
    rw [HF.out]
    generalize hE : eb s = E
    have HE : Hid (∀ w', Calls Tryd.prog 68 #[.string s] w' fun e w1 => e = .returned (.tuple #[.string E.1, .int .i64 E.2]) ∧ Below w'.heap.size w' w1) := fun w' => hE ▸ ebyte_any s w' hs
    clear HF p0 hE
    go_enter Tryd.func50, Tryd.ntmps50
    go_wp2_with fail
    refine (hp_any _ _ _).mono ?_
    rw [HP0.out]
    rintro e w1 ⟨rfl, rfl⟩
    go_wp2_with fail
    refine (HE.out _).mono ?_
    rintro e w2 ⟨rfl, b2⟩
    go_wp2
    go_ret2
    exact ⟨rfl, b2⟩
  | false =>
  have HP0 : Hid (pre s ⟨#[92, 120]⟩ = false) := p0
  clear p0
  cases p1 : pre s ⟨#[92, 117, 123]⟩ with
  | true =>
    have HF : Hid (esc s = erL (s.extract 3 s.size) 0 0) := by show _ = _; unfold esc; rw [if_neg (by rw [HP0.out]; simp), if_pos p1]
    have HP1 : Hid (pre s ⟨#[92, 117, 123]⟩ = true) := p1
    rw [HF.out]
    generalize hE : erL (s.extract 3 s.size) 0 0 = E
    have HE : Hid (∀ w', Calls Tryd.prog 69 #[.string s] w' fun e w1 => e = .returned (.tuple #[.string E.1, .int .i64 E.2]) ∧ Below w'.heap.size w' w1) := fun w' => hE ▸ erune_any s w' hs (pre_size _ _ p1)
    clear HF p1 hE
    go_enter Tryd.func50, Tryd.ntmps50
    go_wp2_with fail
    refine (hp_any _ _ _).mono ?_
    rw [HP0.out]
    rintro e w1 ⟨rfl, rfl⟩
    go_wp2_with fail
    refine (hp_any _ _ _).mono ?_
    rw [HP1.out]
    rintro e w1 ⟨rfl, rfl⟩
    go_wp2_with fail
    refine (HE.out _).mono ?_
    rintro e w2 ⟨rfl, b2⟩
    go_wp2
    go_ret2
    exact ⟨rfl, b2⟩
  | false =>
  have HP1 : Hid (pre s ⟨#[92, 117, 123]⟩ = false) := p1
  clear p1
  cases p2 : pre s ⟨#[92, 34]⟩ with
  | true =>
    have HF : Hid (esc s = (⟨#[34]⟩, 2)) := by show _ = _; unfold esc; rw [if_neg (by rw [HP0.out]; simp), if_neg (by rw [HP1.out]; simp), if_pos p2]
    have HP2 : Hid (pre s ⟨#[92, 34]⟩ = true) := p2
    rw [HF.out]
    clear HF p2
    go_enter Tryd.func50, Tryd.ntmps50
    go_wp2_with fail
    refine (hp_any _ _ _).mono ?_
    rw [HP0.out]
    rintro e w1 ⟨rfl, rfl⟩
    go_wp2_with fail
    refine (hp_any _ _ _).mono ?_
    rw [HP1.out]
    rintro e w1 ⟨rfl, rfl⟩
    go_wp2_with fail
    refine (hp_any _ _ _).mono ?_
    rw [HP2.out]
    rintro e w1 ⟨rfl, rfl⟩
    go_wp2
    go_ret2
    exact ⟨rfl, Below.refl _ _⟩
  | false =>
  have HP2 : Hid (pre s ⟨#[92, 34]⟩ = false) := p2
  clear p2
  cases p3 : pre s ⟨#[92, 92]⟩ with
  | true =>
    have HF : Hid (esc s = (⟨#[92]⟩, 2)) := by show _ = _; unfold esc; rw [if_neg (by rw [HP0.out]; simp), if_neg (by rw [HP1.out]; simp), if_neg (by rw [HP2.out]; simp), if_pos p3]
    have HP3 : Hid (pre s ⟨#[92, 92]⟩ = true) := p3
    rw [HF.out]
    clear HF p3
    go_enter Tryd.func50, Tryd.ntmps50
    go_wp2_with fail
    refine (hp_any _ _ _).mono ?_
    rw [HP0.out]
    rintro e w1 ⟨rfl, rfl⟩
    go_wp2_with fail
    refine (hp_any _ _ _).mono ?_
    rw [HP1.out]
    rintro e w1 ⟨rfl, rfl⟩
    go_wp2_with fail
    refine (hp_any _ _ _).mono ?_
    rw [HP2.out]
    rintro e w1 ⟨rfl, rfl⟩
    go_wp2_with fail
    refine (hp_any _ _ _).mono ?_
    rw [HP3.out]
    rintro e w1 ⟨rfl, rfl⟩
    go_wp2
    go_ret2
    exact ⟨rfl, Below.refl _ _⟩
  | false =>
  have HP3 : Hid (pre s ⟨#[92, 92]⟩ = false) := p3
  clear p3
  cases p4 : pre s ⟨#[92, 110]⟩ with
  | true =>
    have HF : Hid (esc s = (⟨#[10]⟩, 2)) := by show _ = _; unfold esc; rw [if_neg (by rw [HP0.out]; simp), if_neg (by rw [HP1.out]; simp), if_neg (by rw [HP2.out]; simp), if_neg (by rw [HP3.out]; simp), if_pos p4]
    have HP4 : Hid (pre s ⟨#[92, 110]⟩ = true) := p4
    rw [HF.out]
    clear HF p4
    go_enter Tryd.func50, Tryd.ntmps50
    go_wp2_with fail
    refine (hp_any _ _ _).mono ?_
    rw [HP0.out]
    rintro e w1 ⟨rfl, rfl⟩
    go_wp2_with fail
    refine (hp_any _ _ _).mono ?_
    rw [HP1.out]
    rintro e w1 ⟨rfl, rfl⟩
    go_wp2_with fail
    refine (hp_any _ _ _).mono ?_
    rw [HP2.out]
    rintro e w1 ⟨rfl, rfl⟩
    go_wp2_with fail
    refine (hp_any _ _ _).mono ?_
    rw [HP3.out]
    rintro e w1 ⟨rfl, rfl⟩
    go_wp2_with fail
    refine (hp_any _ _ _).mono ?_
    rw [HP4.out]
    rintro e w1 ⟨rfl, rfl⟩
    go_wp2
    go_ret2
    exact ⟨rfl, Below.refl _ _⟩
  | false =>
  have HP4 : Hid (pre s ⟨#[92, 110]⟩ = false) := p4
  clear p4
  cases p5 : pre s ⟨#[92, 116]⟩ with
  | true =>
    have HF : Hid (esc s = (⟨#[9]⟩, 2)) := by show _ = _; unfold esc; rw [if_neg (by rw [HP0.out]; simp), if_neg (by rw [HP1.out]; simp), if_neg (by rw [HP2.out]; simp), if_neg (by rw [HP3.out]; simp), if_neg (by rw [HP4.out]; simp), if_pos p5]
    have HP5 : Hid (pre s ⟨#[92, 116]⟩ = true) := p5
    rw [HF.out]
    clear HF p5
    go_enter Tryd.func50, Tryd.ntmps50
    go_wp2_with fail
    refine (hp_any _ _ _).mono ?_
    rw [HP0.out]
    rintro e w1 ⟨rfl, rfl⟩
    go_wp2_with fail
    refine (hp_any _ _ _).mono ?_
    rw [HP1.out]
    rintro e w1 ⟨rfl, rfl⟩
    go_wp2_with fail
    refine (hp_any _ _ _).mono ?_
    rw [HP2.out]
    rintro e w1 ⟨rfl, rfl⟩
    go_wp2_with fail
    refine (hp_any _ _ _).mono ?_
    rw [HP3.out]
    rintro e w1 ⟨rfl, rfl⟩
    go_wp2_with fail
    refine (hp_any _ _ _).mono ?_
    rw [HP4.out]
    rintro e w1 ⟨rfl, rfl⟩
    go_wp2_with fail
    refine (hp_any _ _ _).mono ?_
    rw [HP5.out]
    rintro e w1 ⟨rfl, rfl⟩
    go_wp2
    go_ret2
    exact ⟨rfl, Below.refl _ _⟩
  | false =>
  have HP5 : Hid (pre s ⟨#[92, 116]⟩ = false) := p5
  clear p5
  cases p6 : pre s ⟨#[92, 114]⟩ with
  | true =>
    have HF : Hid (esc s = (⟨#[13]⟩, 2)) := by show _ = _; unfold esc; rw [if_neg (by rw [HP0.out]; simp), if_neg (by rw [HP1.out]; simp), if_neg (by rw [HP2.out]; simp), if_neg (by rw [HP3.out]; simp), if_neg (by rw [HP4.out]; simp), if_neg (by rw [HP5.out]; simp), if_pos p6]
    have HP6 : Hid (pre s ⟨#[92, 114]⟩ = true) := p6
    rw [HF.out]
    clear HF p6
    go_enter Tryd.func50, Tryd.ntmps50
    go_wp2_with fail
    refine (hp_any _ _ _).mono ?_
    rw [HP0.out]
    rintro e w1 ⟨rfl, rfl⟩
    go_wp2_with fail
    refine (hp_any _ _ _).mono ?_
    rw [HP1.out]
    rintro e w1 ⟨rfl, rfl⟩
    go_wp2_with fail
    refine (hp_any _ _ _).mono ?_
    rw [HP2.out]
    rintro e w1 ⟨rfl, rfl⟩
    go_wp2_with fail
    refine (hp_any _ _ _).mono ?_
    rw [HP3.out]
    rintro e w1 ⟨rfl, rfl⟩
    go_wp2_with fail
    refine (hp_any _ _ _).mono ?_
    rw [HP4.out]
    rintro e w1 ⟨rfl, rfl⟩
    go_wp2_with fail
    refine (hp_any _ _ _).mono ?_
    rw [HP5.out]
    rintro e w1 ⟨rfl, rfl⟩
    go_wp2_with fail
    refine (hp_any _ _ _).mono ?_
    rw [HP6.out]
    rintro e w1 ⟨rfl, rfl⟩
    go_wp2
    go_ret2
    exact ⟨rfl, Below.refl _ _⟩
  | false =>
  have HP6 : Hid (pre s ⟨#[92, 114]⟩ = false) := p6
  clear p6
  have HF : Hid (esc s = (⟨#[]⟩, 0)) := by show _ = _; unfold esc; rw [if_neg (by rw [HP0.out]; simp), if_neg (by rw [HP1.out]; simp), if_neg (by rw [HP2.out]; simp), if_neg (by rw [HP3.out]; simp), if_neg (by rw [HP4.out]; simp), if_neg (by rw [HP5.out]; simp), if_neg (by rw [HP6.out]; simp)]
  rw [HF.out]
  clear HF
  go_enter Tryd.func50, Tryd.ntmps50
  go_wp2_with fail
  refine (hp_any _ _ _).mono ?_
  rw [HP0.out]
  rintro e w1 ⟨rfl, rfl⟩
  go_wp2_with fail
  refine (hp_any _ _ _).mono ?_
  rw [HP1.out]
  rintro e w1 ⟨rfl, rfl⟩
  go_wp2_with fail
  refine (hp_any _ _ _).mono ?_
  rw [HP2.out]
  rintro e w1 ⟨rfl, rfl⟩
  go_wp2_with fail
  refine (hp_any _ _ _).mono ?_
  rw [HP3.out]
  rintro e w1 ⟨rfl, rfl⟩
  go_wp2_with fail
  refine (hp_any _ _ _).mono ?_
  rw [HP4.out]
  rintro e w1 ⟨rfl, rfl⟩
  go_wp2_with fail
  refine (hp_any _ _ _).mono ?_
  rw [HP5.out]
  rintro e w1 ⟨rfl, rfl⟩
  go_wp2_with fail
  refine (hp_any _ _ _).mono ?_
  rw [HP6.out]
  rintro e w1 ⟨rfl, rfl⟩
  go_wp2
  go_ret2
  exact ⟨rfl, Below.refl _ _⟩
end Go.Proofs.YtbabckchfabbkaaDoor
