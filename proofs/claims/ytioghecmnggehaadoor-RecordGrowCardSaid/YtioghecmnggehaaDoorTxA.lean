/-
  Package text: HasPrefix of the library, stray, Valid, Clip; the law package's cutText.
-/
import Derived.Test.YtioghecmnggehaaDoorUtf
import Derived.Test.YtioghecmnggehaaDoorChecked
namespace Go.Proofs.YtioghecmnggehaaDoor.Text
open Go Go.RowKit
open Tx

theorem up {w w1 : World} (h : Below w.heap.size w w1) (o : Obj) : Below w.heap.size w (w1.alloc o) := h.alloc h.size o
theorem andThen {w w1 w2 : World} (h : Below w.heap.size w w1) (k : Below w1.heap.size w1 w2) : Below w.heap.size w w2 := h.trans (k.mono h.size)
theorem up0 (w : World) (o : Obj) : Below w.heap.size w (w.alloc o) := up (Below.refl _ _) o
theorem up_iter (w : World) (s : ByteArray) (p : Nat) : Below w.heap.size w (w.iter s p) := up0 w _

theorem hpl_any (s p : ByteArray) (w : World) :
    Calls Tryd.prog 56 #[.string s, .string p] w fun e w' => e = .returned (.bool (pre s p)) ∧ w' = w := by
  by_cases h : p.size ≤ s.size
  · have hp : pre s p = ((s.extract 0 p.size).toList == p.toList) := by unfold pre; rw [decide_eq_true h, Bool.true_and]
    have HP : Hid (pre s p = ((s.extract 0 p.size).toList == p.toList)) := hp
    clear hp
    go_enter Tryd.func56, Tryd.ntmps56
    go_wp2
    go_ret
    rw [HP.out]
    exact ⟨rfl, rfl⟩
  · have hp : pre s p = false := by unfold pre; rw [decide_eq_false h, Bool.false_and]
    have HP : Hid (pre s p = false) := hp
    clear hp
    go_enter Tryd.func56, Tryd.ntmps56
    go_wp2
    go_ret
    rw [HP.out]
    exact ⟨rfl, rfl⟩
theorem hp_any (s p : ByteArray) (w : World) :
    Calls Tryd.prog 55 #[.string s, .string p] w fun e w' => e = .returned (.bool (pre s p)) ∧ w' = w := by
  go_enter Tryd.func55, Tryd.ntmps55
  go_wp2_with fail
  refine (hpl_any s p _).mono ?_
  rintro e w1 ⟨rfl, rfl⟩
  go_wp2
  go_ret
  exact ⟨rfl, rfl⟩
theorem stray_any (s : ByteArray) (i : Nat) (w : World) (h : i < s.size) :
    Calls Tryd.prog 54 #[.string s, .int .i64 (i : Int), .int .i32 ((Utf8.decode s i).1 : Int)] w fun e w' => e = .returned (.bool (stray s i)) ∧ w' = w := by
  have hs := stray_pre s i
  generalize stray s i = b at *
  generalize (Utf8.decode s i).1 = r at *
  by_cases hr : r = 65533
  · subst hr
    have HS : Hid (b = !(pre (s.extract i s.size) ⟨#[239, 191, 189]⟩)) := by show _ = _; rw [hs]; simp
    clear hs
    go_enter Tryd.func54, Tryd.ntmps54
    go_wp2_with fail
    refine (hp_any _ _ _).mono ?_
    rintro e w1 ⟨rfl, rfl⟩
    go_wp2
    go_ret
    rw [HS.out]
    exact ⟨rfl, rfl⟩
  · have HS : Hid (b = false) := by show _ = _; rw [hs, decide_eq_false hr]; rfl
    clear hs
    go_enter Tryd.func54, Tryd.ntmps54
    go_wp2
    go_ret
    rw [HS.out]
    exact ⟨rfl, rfl⟩
end Go.Proofs.YtioghecmnggehaaDoor.Text
