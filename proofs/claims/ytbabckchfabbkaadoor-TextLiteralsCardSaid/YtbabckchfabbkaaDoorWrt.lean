/-
  Package text: how a rune stands in a literal.
-/
import Derived.Test.YtbabckchfabbkaaDoorFmt16
import Derived.Laws.Runes
namespace Go.Proofs.YtbabckchfabbkaaDoor
open Go Go.RowKit
open Tx

namespace Tx
/-- how a rune stands in a literal -/
def wrt (r : Nat) : ByteArray :=
  if r = 34 ∨ r = 92 then ⟨#[92]⟩ ++ Utf8.encode (r : Int)
  else if r = 10 then ⟨#[92, 110]⟩
  else if r = 9 then ⟨#[92, 116]⟩
  else if r = 13 then ⟨#[92, 114]⟩
  else if ctl (r : Int) then hexB r
  else if among hids (r : Int) then ⟨#[92, 117, 123]⟩ ++ ⟨(hexL r).toArray⟩ ++ ⟨#[125]⟩
  else Utf8.encode (r : Int)
end Tx

theorem hexL_len : ∀ (k u : Nat), u < 16 ^ (k + 1) → (hexL u).length ≤ k + 1
  | 0, u, h => by rw [hexL_lo u (by simpa using h)]; simp
  | k + 1, u, h => by
    by_cases hu : u < 16
    · rw [hexL_lo u hu]; simp
    · rw [hexL_hi u hu, List.length_append]
      have h1 : u / 16 < 16 ^ (k + 1) := by
        rw [Nat.div_lt_iff_lt_mul (by decide), ← Nat.pow_succ]
        exact h
      have := hexL_len k (u / 16) h1
      simp
      omega
set_option maxRecDepth 100000 in
set_option maxHeartbeats 2000000 in
theorem written_any (r : Nat) (w : World) (hr : r < 2147483648) (hT : TabP 3 .i32 hids w) (hD : w.cell? ⟨9, 15, none⟩ = some (.int .u8 4)) :
    Calls Tryd.prog 34 #[.int .i32 (r : Int)] w fun e w' => e = .returned (.string (wrt r)) ∧ Below w.heap.size w w' := by
  have HT : Hid (TabP 3 .i32 hids w) := hT
  have HD : Hid (∀ w', Below w.heap.size w w' → w'.cell? ⟨9, 15, none⟩ = some (.int .u8 4)) := fun w' hb => (hb.cell (p := ⟨9, 15, none⟩) (World.block_lt_of_cell? _ _ hD)).trans hD
  clear hT hD
  have HW : Hid (wrt r = _) := rfl
  by_cases h1 : r = 34
  · subst h1
    have HE : Hid (wrt 34 = ⟨#[92]⟩ ++ Utf8.encode 34) := rfl
    clear HW
    generalize wrt 34 = W at *
    go_enter Tryd.func34, Tryd.ntmps34
    go_wp2
    go_ret
    rw [HE.out]
    exact ⟨rfl, Below.refl _ _⟩
  by_cases h2 : r = 92
  · subst h2
    have HE : Hid (wrt 92 = ⟨#[92]⟩ ++ Utf8.encode 92) := rfl
    clear HW
    generalize wrt 92 = W at *
    go_enter Tryd.func34, Tryd.ntmps34
    go_wp2
    go_ret
    rw [HE.out]
    exact ⟨rfl, Below.refl _ _⟩
  have n1 : ¬ (r = 34 ∨ r = 92) := by omega
  by_cases h3 : r = 10
  · subst h3
    have HE : Hid (wrt 10 = ⟨#[92, 110]⟩) := rfl
    clear HW
    generalize wrt 10 = W at *
    go_enter Tryd.func34, Tryd.ntmps34
    go_wp2
    go_ret
    rw [HE.out]
    exact ⟨rfl, Below.refl _ _⟩
  by_cases h4 : r = 9
  · subst h4
    have HE : Hid (wrt 9 = ⟨#[92, 116]⟩) := rfl
    clear HW
    generalize wrt 9 = W at *
    go_enter Tryd.func34, Tryd.ntmps34
    go_wp2
    go_ret
    rw [HE.out]
    exact ⟨rfl, Below.refl _ _⟩
  by_cases h5 : r = 13
  · subst h5
    have HE : Hid (wrt 13 = ⟨#[92, 114]⟩) := rfl
    clear HW
    generalize wrt 13 = W at *
    go_enter Tryd.func34, Tryd.ntmps34
    go_wp2
    go_ret
    rw [HE.out]
    exact ⟨rfl, Below.refl _ _⟩
  have e1 : ((r : Int) == 34) = false := by simp; omega
  have e2 : ((r : Int) == 92) = false := by simp; omega
  have e3 : ((r : Int) == 10) = false := by simp; omega
  have e4 : ((r : Int) == 9) = false := by simp; omega
  have e5 : ((r : Int) == 13) = false := by simp; omega
  clear HW
  cases hc : ctl (r : Int) with
  | true =>
    have HE : Hid (wrt r = hexB r) := by show _ = _; unfold wrt; rw [if_neg n1, if_neg h3, if_neg h4, if_neg h5, if_pos hc]
    have HC : Hid (ctl (r : Int) = true) := hc
    have hr8 : r < 256 := by
      unfold ctl at hc
      simp at hc
      omega
    generalize wrt r = W at *
    clear hc h1 h2 h3 h4 h5 n1
    go_enter Tryd.func34, Tryd.ntmps34
    go_wp2_with fail
    refine (control_any _ _).mono ?_
    rw [HC.out]
    rintro e w1 ⟨rfl, rfl⟩
    go_wp2_with fail
    refine (hexb_any r _ hr8).mono ?_
    rintro e w1 ⟨rfl, b1⟩
    go_wp2
    go_ret
    rw [HE.out]
    exact ⟨rfl, b1⟩
  | false =>
    have HC : Hid (ctl (r : Int) = false) := hc
    cases hh : among hids (r : Int) with
    | true =>
      have HE : Hid (wrt r = ⟨#[92, 117, 123]⟩ ++ ⟨(hexL r).toArray⟩ ++ ⟨#[125]⟩) := by show _ = _; unfold wrt; rw [if_neg n1, if_neg h3, if_neg h4, if_neg h5, if_neg (by simp [hc]), if_pos hh]
      have HH : Hid (among hids (r : Int) = true) := hh
      generalize wrt r = W at *
      clear hc hh h1 h2 h3 h4 h5 n1
      go_enter Tryd.func34, Tryd.ntmps34
      go_wp2_with fail
      refine (control_any _ _).mono ?_
      rw [HC.out]
      rintro e w1 ⟨rfl, rfl⟩
      go_wp2_with fail
      refine (hidden_any _ _ HT.out).mono ?_
      rw [HH.out]
      rintro e w1 ⟨rfl, b1⟩
      go_wp2_with fail
      refine (fmt16_any r _ hr (HD.out _ b1)).mono ?_
      rintro e w2 ⟨rfl, b2⟩
      have B2 := andThen b1 b2
      clear b1 b2
      have hX : (hexL r).toArray.size ≤ 8 := by
        have := hexL_len 7 r (by omega)
        simpa using this
      generalize (hexL r).toArray = X at *
      have hX2 : (⟨X⟩ : ByteArray).size ≤ 8 := hX
      go_wp2
      go_ret
      rw [HE.out]
      exact ⟨rfl, B2⟩
    | false =>
      have HE : Hid (wrt r = Utf8.encode (r : Int)) := by show _ = _; unfold wrt; rw [if_neg n1, if_neg h3, if_neg h4, if_neg h5, if_neg (by simp [hc]), if_neg (by simp [hh])]
      have HH : Hid (among hids (r : Int) = false) := hh
      generalize wrt r = W at *
      clear hc hh h1 h2 h3 h4 h5 n1
      go_enter Tryd.func34, Tryd.ntmps34
      go_wp2_with fail
      refine (control_any _ _).mono ?_
      rw [HC.out]
      rintro e w1 ⟨rfl, rfl⟩
      go_wp2_with fail
      refine (hidden_any _ _ HT.out).mono ?_
      rw [HH.out]
      rintro e w1 ⟨rfl, b1⟩
      go_wp2
      go_ret
      rw [HE.out]
      exact ⟨rfl, b1⟩
end Go.Proofs.YtbabckchfabbkaaDoor
