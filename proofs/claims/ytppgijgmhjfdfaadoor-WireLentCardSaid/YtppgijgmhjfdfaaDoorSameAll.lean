/-
  The law package's 'same' and 'sameAll' where they answer true.
-/
import Derived.Test.YtppgijgmhjfdfaaDoorRuns
import Derived.Deep.RegionHeld
namespace Go.Proofs.YtppgijgmhjfdfaaDoor
open Go Go.RowKit
open Wb

theorem same_ok (va vb : Value) (a : List Nat) (w : World) (ha : Bs w va a) (hb : Bs w vb a) :
    Calls Tryd.prog 13 #[va, vb] w fun e w' => e = .returned (.bool true) ∧ Below w.heap.size w w' := by
  have := same_any va vb a a w ha hb
  simpa using this

set_option maxHeartbeats 1000000 in
theorem sameAll_ok (va vb : Value) (ls : List (List Nat)) (w : World) (ha : Ps w va ls) (hb : Ps w vb ls) :
    Calls Tryd.prog 10 #[va, vb] w fun e w' => e = .returned (.bool true) ∧ Below w.heap.size w w' := by
  obtain ⟨aoa, capa, rfl, hma, hca⟩ := ha.shape
  obtain ⟨aob, capb, rfl, hmb, hcb⟩ := hb.shape
  unfold maxLen at hma hmb
  have d0 : ((ls.length : Int) != (ls.length : Int)) = false := by simp
  clear ha hb
  go_enter Tryd.func10, Tryd.ntmps10
  go_wp2
  go_loopw [5] (fun i wr => ∃ k : Nat, k ≤ ls.length ∧ i = .int .i64 k ∧ Below w.heap.size w wr) (fun i _ => ls.length - (intOf i).toNat)
  case atStart => exact ⟨0, Nat.zero_le _, rfl, Below.refl _ _⟩
  case round =>
    obtain ⟨k, hk, rfl, hbel⟩ := hrel
    by_cases hlt : k < ls.length
    · obtain ⟨b1, off1, rfl, hcell1⟩ := hca (List.ne_nil_of_length_pos (by omega))
      obtain ⟨b2, off2, rfl, hcell2⟩ := hcb (List.ne_nil_of_length_pos (by omega))
      obtain ⟨v1, c1, h1⟩ := hcell1 k hlt
      obtain ⟨v2, c2, h2⟩ := hcell2 k hlt
      have HB : Hid (∀ w', Below w.heap.size w w' → (w'.cell? ⟨b1, off1 + k, none⟩ = some v1 ∧ w'.cell? ⟨b2, off2 + k, none⟩ = some v2)) := fun w' hb => ⟨(hb.cell (p := ⟨b1, off1 + k, none⟩) (World.block_lt_of_cell? _ _ c1)).trans c1, (hb.cell (p := ⟨b2, off2 + k, none⟩) (World.block_lt_of_cell? _ _ c2)).trans c2⟩
      have H1 : Hid (∀ w', Below w.heap.size w w' → Bs w' v1 ls[k]) := fun w' hb => h1.kept hb
      have H2 : Hid (∀ w', Below w.heap.size w w' → Bs w' v2 ls[k]) := fun w' hb => h2.kept hb
      obtain ⟨q1, q2⟩ := HB.out wr hbel
      obtain ⟨ao1, cp1, rfl, _⟩ := h1.shape
      obtain ⟨ao2, cp2, rfl, _⟩ := h2.shape
      clear hca hcb hcell1 hcell2 c1 c2 h1 h2
      generalize ls[k] = x at *
      go_wp2
      go_region_held (fun w' => w'.cell? ⟨b1, off1 + k, none⟩ = some (.slice ao1 x.length cp1) ∧ w'.cell? ⟨b2, off2 + k, none⟩ = some (.slice ao2 x.length cp2)) (first | go_keep | (exact HB.out _ (andThen (Below.drew hbel) hb')))
        (first | (go_at_call 13; refine (same_ok _ _ x _ ?_ ?_).mono ?_; (exact H1.out _ (Below.drew hbel)); (exact H2.out _ (Below.drew hbel)); rintro e w' ⟨rfl, hb'⟩))
      have hb2 : Below w.heap.size w w' := andThen (Below.drew hbel) hb'
      clear hb' hbel HB H1 H2 q1 q2
      go_wp2
      go_roundw
      case rel => exact ⟨k + 1, by omega, by go_num, hb2⟩
      case measure => simp [intOf]; omega
    · go_wp2
      go_ret
      exact ⟨rfl, hbel⟩

end Go.Proofs.YtppgijgmhjfdfaaDoor
