/-
  Package text: Unquote.
-/
import Derived.Test.YtbabckchfabbkaaDoorCon2
import Derived.Deep.RegionHeld
namespace Go.Proofs.YtbabckchfabbkaaDoor
open Go Go.RowKit Go.Lib
open Tx

theorem toList_inj {a b : ByteArray} (h : a.toList = b.toList) : a = b := by
  have hs : a.size = b.size := by rw [← toList_len a, ← toList_len b, h]
  apply ByteArray.ext
  apply Array.ext hs
  intro i h1 h2
  have e1 := toList_get a i h1
  rw [h, toList_get b i h2] at e1
  have e2 := Option.some.inj e1
  have q1 : a.get! i = a.data[i] := getElem!_pos a.data i h1
  have q2 : b.get! i = b.data[i] := getElem!_pos b.data i h2
  rw [← q1, ← q2, e2]
/-- what Unquote reads at a place -/
def Tx.unq (s : ByteArray) (at_ : Int) : ByteArray × Int × Int :=
  if at_ < 0 ∨ (s.size : Int) < at_ then (⟨#[]⟩, 0, 1)
  else if at_ = (s.size : Int) ∨ at' s at_.toNat ≠ 34 then (⟨#[]⟩, 0, 24)
  else if (con (s.extract (at_.toNat + 1) s.size) 0 [] 0).2.2 ≠ 0 then (⟨#[]⟩, 0, ((con (s.extract (at_.toNat + 1) s.size) 0 [] 0).2.2 : Int))
  else if quo (con (s.extract (at_.toNat + 1) s.size) 0 [] 0).1 ≠ s.extract at_.toNat (at_.toNat + 1 + (con (s.extract (at_.toNat + 1) s.size) 0 [] 0).2.1) then (⟨#[]⟩, 0, 28)
  else ((con (s.extract (at_.toNat + 1) s.size) 0 [] 0).1, ((at_.toNat + 1 + (con (s.extract (at_.toNat + 1) s.size) 0 [] 0).2.1 : Nat) : Int), 0)

set_option maxRecDepth 100000 in
set_option maxHeartbeats 4000000 in
theorem unq_any (s : ByteArray) (at_ : Int) (w : World) (hs : s.size ≤ 2000000) (hT : TabP 3 .i32 hids w) (hD : w.cell? ⟨9, 15, none⟩ = some (.int .u8 4)) :
    Calls Tryd.prog 9 #[.string s, .int .i64 at_] w fun e w' => e = .returned (.tuple #[.string (unq s at_).1, .int .i64 (unq s at_).2.1, .int .i64 (unq s at_).2.2]) ∧ Below w.heap.size w w' := by
  have HT : Hid (∀ w', Below w.heap.size w w' → TabP 3 .i32 hids w') := fun w' hb => hT.kept hb
  have HD : Hid (∀ w', Below w.heap.size w w' → w'.cell? ⟨9, 15, none⟩ = some (.int .u8 4)) := fun w' hb => (hb.cell (p := ⟨9, 15, none⟩) (World.block_lt_of_cell? _ _ hD)).trans hD
  clear hT hD
  by_cases h0 : at_ < 0
  · have HF : Hid (unq s at_ = (⟨#[]⟩, 0, 1)) := by show _ = _; unfold unq; rw [if_pos (.inl h0)]
    rw [HF.out]
    go_enter Tryd.func9, Tryd.ntmps9
    go_wp2
    go_ret3
    exact ⟨rfl, Below.refl _ _⟩
  by_cases h1 : (s.size : Int) < at_
  · have HF : Hid (unq s at_ = (⟨#[]⟩, 0, 1)) := by show _ = _; unfold unq; rw [if_pos (.inr h1)]
    rw [HF.out]
    go_enter Tryd.func9, Tryd.ntmps9
    go_wp2
    go_ret3
    exact ⟨rfl, Below.refl _ _⟩
  have n1 : ¬ (at_ < 0 ∨ (s.size : Int) < at_) := by omega
  obtain ⟨k, rfl⟩ := Int.eq_ofNat_of_zero_le (by omega : 0 ≤ at_)
  have hk : k ≤ s.size := by omega
  clear h0 h1
  by_cases h2 : k = s.size
  · have HF : Hid (unq s k = (⟨#[]⟩, 0, 24)) := by show _ = _; unfold unq; rw [if_neg n1, if_pos (.inl (by rw [h2]))]
    rw [HF.out]
    have t2 : ((k : Int) == (s.size : Int)) = true := by rw [h2]; exact beq_self_eq_true _
    clear h2 n1
    go_enter Tryd.func9, Tryd.ntmps9
    go_wp2
    go_ret3
    exact ⟨rfl, Below.refl _ _⟩
  have hlt : k < s.size := by omega
  have t2 : ((k : Int) == (s.size : Int)) = false := by rw [beq_eq_false_iff_ne]; omega
  have g0 := at_get s k hlt
  by_cases h3 : at' s k = 34
  · have n3 : ¬ ((k : Int) = (s.size : Int) ∨ at' s (k : Int).toNat ≠ 34) := by rw [Int.toNat_natCast]; omega
    have hx0 : (s[k]'hlt).toNat = 34 := by rw [← g0]; exact h3
    have HC : Hid (∀ w', Below w.heap.size w w' → Calls Tryd.prog 28 #[.string (s.extract (k + 1) s.size)] w' fun e w'' => e = .returned (.tuple #[.string (con (s.extract (k + 1) s.size) 0 [] 0).1, .int .i64 (con (s.extract (k + 1) s.size) 0 [] 0).2.1, .int .i64 (con (s.extract (k + 1) s.size) 0 [] 0).2.2]) ∧ Below w'.heap.size w' w'') := fun w' hb => content_any _ w' (by rw [size_cut s (k + 1) s.size (Nat.le_refl _)]; omega) (HT.out _ hb)
    have hfit := con_fits (s.extract (k + 1) s.size) _ 0 [] 0 (Nat.le_refl _) (by simp) (Nat.zero_le _)
    rw [size_cut s (k + 1) s.size (Nat.le_refl _)] at hfit
    have HU : Hid (unq s k = if (con (s.extract (k + 1) s.size) 0 [] 0).2.2 ≠ 0 then (⟨#[]⟩, 0, ((con (s.extract (k + 1) s.size) 0 [] 0).2.2 : Int)) else if quo (con (s.extract (k + 1) s.size) 0 [] 0).1 ≠ s.extract k (k + 1 + (con (s.extract (k + 1) s.size) 0 [] 0).2.1) then (⟨#[]⟩, 0, 28) else ((con (s.extract (k + 1) s.size) 0 [] 0).1, ((k + 1 + (con (s.extract (k + 1) s.size) 0 [] 0).2.1 : Nat) : Int), 0)) := by
      show _ = _
      unfold unq
      rw [if_neg n1, if_neg n3, Int.toNat_natCast]
    generalize hX : con (s.extract (k + 1) s.size) 0 [] 0 = X at *
    obtain ⟨x1, x2, x3⟩ := X
    dsimp only at hfit HU HC
    clear hX n1 n3 g0 h3
    by_cases he : x3 = 0
    · subst he
      have hQ : ∀ w', Below w.heap.size w w' → Calls Tryd.prog 11 #[.string x1] w' fun e w'' => e = .returned (.string (quo x1)) ∧ Below w'.heap.size w' w'' := fun w' hb => quote_any x1 w' (by omega) (HT.out _ hb) (HD.out _ hb)
      have HQ : Hid (∀ w', Below w.heap.size w w' → Calls Tryd.prog 11 #[.string x1] w' fun e w'' => e = .returned (.string (quo x1)) ∧ Below w'.heap.size w' w'') := hQ
      have hx2 : k + 1 + x2 ≤ s.size := by have := hfit.2.1; omega
      clear hQ hfit
      by_cases hq : quo x1 = s.extract k (k + 1 + x2)
      · have HF : Hid (unq s k = (x1, ((k + 1 + x2 : Nat) : Int), 0)) := by show _ = _; rw [HU.out, if_neg (by decide), if_neg (fun h => h hq)]
        rw [hq] at HQ
        clear hq HU
        go_enter Tryd.func9, Tryd.ntmps9
        go_wp2_with fail
        refine (HC.out _ (Below.refl _ _)).mono ?_
        rintro e w1 ⟨rfl, b1⟩
        go_wp2_with fail
        go_region_held (fun _ => True) (exact trivial) (first
          | (go_at_call 11; refine (HQ.out _ (by repeat (first | exact b1 | refine Below.drew ?_))).mono ?_; rintro e w2 ⟨rfl, b2⟩))
        all_goals
          have B2 := andThen (Below.drew b1) b2
          clear b2
          go_wp2
          go_ret3
          exact ⟨by rw [HF.out]; rfl, B2⟩
      · have HF : Hid (unq s k = (⟨#[]⟩, 0, 28)) := by show _ = _; rw [HU.out, if_neg (by decide), if_pos hq]
        have tq : ((quo x1).toList == (s.extract k (k + 1 + x2)).toList) = false := by rw [beq_eq_false_iff_ne]; exact fun h => hq (toList_inj h)
        clear hq
        clear HU
        generalize quo x1 = Y at *
        go_enter Tryd.func9, Tryd.ntmps9
        go_wp2_with fail
        refine (HC.out _ (Below.refl _ _)).mono ?_
        rintro e w1 ⟨rfl, b1⟩
        go_wp2_with fail
        go_region_held (fun _ => True) (exact trivial) (first
          | (go_at_call 11; refine (HQ.out _ (by repeat (first | exact b1 | refine Below.drew ?_))).mono ?_; rintro e w2 ⟨rfl, b2⟩))
        all_goals
          have B2 := andThen (Below.drew b1) b2
          clear b2
          go_wp2
          go_ret3
          exact ⟨by rw [HF.out]; rfl, B2⟩
    · have HF : Hid (unq s k = (⟨#[]⟩, 0, (x3 : Int))) := by show _ = _; rw [HU.out, if_pos he]
      rw [HF.out]
      have t3 : ((x3 : Int) != (0 : Int)) = true := by rw [bne_iff_ne]; omega
      clear HU he hfit
      go_enter Tryd.func9, Tryd.ntmps9
      go_wp2_with fail
      refine (HC.out _ (Below.refl _ _)).mono ?_
      rintro e w1 ⟨rfl, b1⟩
      go_wp2
      go_ret3
      exact ⟨rfl, b1⟩
  · have HF : Hid (unq s k = (⟨#[]⟩, 0, 24)) := by show _ = _; unfold unq; rw [if_neg n1, if_pos (.inr (by rw [Int.toNat_natCast]; exact h3))]
    rw [HF.out]
    rw [g0] at h3
    have t3 : (((s[k]'hlt).toNat : Int) != (34 : Int)) = true := by rw [bne_iff_ne]; omega
    clear n1 g0 h3 h2
    go_enter Tryd.func9, Tryd.ntmps9
    go_wp2
    go_ret3
    exact ⟨rfl, Below.refl _ _⟩
end Go.Proofs.YtbabckchfabbkaaDoor
