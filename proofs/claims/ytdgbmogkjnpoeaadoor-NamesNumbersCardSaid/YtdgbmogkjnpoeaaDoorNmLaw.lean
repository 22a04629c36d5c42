/-
  NamesNumbers: the law's walk.
-/
import Derived.Test.YtdgbmogkjnpoeaaDoorNmTab
import Derived.Test.YtdgbmogkjnpoeaaDoorNmItoa
namespace Go.Proofs.YtdgbmogkjnpoeaaDoor
open Go Go.RowKit

theorem errno_64 (w : World) : Calls Tryd.prog 20 #[.int .i64 64] w fun e w' => e = .returned (.int .i64 64) ∧ w' = w := by
  go_enter Tryd.func20, Tryd.ntmps20
  go_wp2
  go_ret
  exact ⟨rfl, rfl⟩
theorem upN {w w1 : World} (h : Below w.heap.size w w1) (o : Obj) : Below w.heap.size w (w1.alloc o) := h.alloc h.size o
theorem andThenN {w w1 w2 : World} (h : Below w.heap.size w w1) (k : Below w1.heap.size w1 w2) : Below w.heap.size w w2 := h.trans (k.mono h.size)
theorem twin_cells (w : World) (t : List Int) : ∀ wr, Below (w.alloc (.cells (twin t).toArray 44)).heap.size (w.alloc (.cells (twin t).toArray 44)) wr → ∀ k (h : k < t.length),
    wr.cell? ⟨w.heap.size, k * 2, none⟩ = some (.int .i64 t[k]) ∧ wr.cell? ⟨w.heap.size, k * 2 + 1, none⟩ = some (.int .i64 t[k]) := by
  intro wr hb k h
  have hg := twin_get t k h
  have h1 : (w.alloc (.cells (twin t).toArray 44)).heap[w.heap.size]? = some (.cells (twin t).toArray 44) := by
    show (w.heap.push _)[w.heap.size]? = _
    simp
  have h2 := (hb.block w.heap.size (Array.getElem?_eq_some_iff.1 h1).1).trans h1
  unfold World.cell?
  rw [h2]
  simp only [List.getElem?_toArray]
  exact hg

set_option maxRecDepth 100000 in
set_option maxHeartbeats 1000000 in
theorem namesnumbers_any (w : World) (h : w.cell? ⟨1, 0, none⟩ = some (.int .u64 1)) :
    Calls Tryd.prog 5 #[] w fun e w' => e = .returned (.bool true) ∧ Below w.heap.size w w' := by
  have HP : Hid (∀ w', Below w.heap.size w w' → w'.cell? ⟨1, 0, none⟩ = some (.int .u64 1)) := fun w' hb => (hb.cell (p := ⟨1, 0, none⟩) (World.block_lt_of_cell? _ _ h)).trans h
  have HE : Hid (tabE.length = 122) := rfl
  have HM : Hid (tabM.length = 80) := rfl
  clear h
  go_enter Tryd.func5, Tryd.ntmps5
  go_wp2_with fail
  refine (errs_any _).mono ?_
  rintro e w1 ⟨rfl, hw1⟩
  have HC1 : Hid (∀ wr, Below w1.heap.size w1 wr → ∀ k (h : k < tabE.length), wr.cell? ⟨w.heap.size, k * 2, none⟩ = some (.int .i64 tabE[k]) ∧ wr.cell? ⟨w.heap.size, k * 2 + 1, none⟩ = some (.int .i64 tabE[k])) := by rw [hw1]; exact twin_cells w tabE
  have B1 : Below w.heap.size w w1 := by rw [hw1]; exact upN (Below.refl _ _) _
  have HB1 : Hid (∀ wr, Below w1.heap.size w1 wr → Below w.heap.size w wr) := fun wr hb => andThenN B1 hb
  clear hw1 B1
  go_wp2
  go_loopw [8] (fun i wr => ∃ k : Nat, k ≤ 122 ∧ i = .int .i64 (k : Int) ∧ Below w1.heap.size w1 wr) (fun i _ => 122 - (intOf i).toNat)
  case atStart => exact ⟨0, by omega, rfl, Below.refl _ _⟩
  case round =>
    obtain ⟨k, hk, rfl, hbel⟩ := hrel
    by_cases hlt : k < 122
    · obtain ⟨c0, c1⟩ := HC1.out wr hbel k (by rw [HE.out]; exact hlt)
      generalize tabE[k]'(by rw [HE.out]; exact hlt) = x at *
      have HBB : Hid (∀ o, Below w1.heap.size w1 (wr.alloc o)) := fun o => upN hbel o
      have d1 : (x != x) = false := by simp
      clear HC1
      go_wp2
      go_roundw
      case rel => exact ⟨k + 1, by omega, by go_num, HBB.out _⟩
      case measure => simp [intOf]; omega
    · have BW := HB1.out wr hbel
      clear HC1 HB1 hbel
      go_wp2_with fail
      refine (limits_any _).mono ?_
      rintro e w2 ⟨rfl, hw2⟩
      have HC2 : Hid (∀ wx, Below w2.heap.size w2 wx → ∀ k (h : k < tabM.length), wx.cell? ⟨wr.heap.size, k * 2, none⟩ = some (.int .i64 tabM[k]) ∧ wx.cell? ⟨wr.heap.size, k * 2 + 1, none⟩ = some (.int .i64 tabM[k])) := by rw [hw2]; exact twin_cells wr tabM
      have B2 : Below w.heap.size w w2 := by rw [hw2]; exact upN BW _
      have HB2 : Hid (∀ wx, Below w2.heap.size w2 wx → Below w.heap.size w wx) := fun wx hb => andThenN B2 hb
      clear hw2 B2 BW
      go_wp2
      go_loopw [20] (fun i wx => ∃ j : Nat, j ≤ 80 ∧ i = .int .i64 (j : Int) ∧ Below w2.heap.size w2 wx) (fun i _ => 80 - (intOf i).toNat)
      case atStart => exact ⟨0, by omega, rfl, Below.refl _ _⟩
      case round =>
        obtain ⟨j, hj, rfl, hbel⟩ := hrel
        rename_i wx
        by_cases hlt2 : j < 80
        · obtain ⟨c0, c1⟩ := HC2.out _ hbel j (by rw [HM.out]; exact hlt2)
          generalize tabM[j]'(by rw [HM.out]; exact hlt2) = x at *
          have HBB : Hid (∀ o, Below w2.heap.size w2 (_root_.Go.World.alloc _ o)) := fun o => upN hbel o
          have d1 : (x != x) = false := by simp
          clear HC2
          go_wp2
          go_roundw
          case rel => exact ⟨j + 1, by omega, by go_num, HBB.out _⟩
          case measure => simp [intOf]; omega
        · have BX := HB2.out _ hbel
          clear HC2 HB2 hbel
          go_wp2_with fail
          refine (errno_64 _).mono ?_
          rintro e w3 ⟨rfl, rfl⟩
          go_wp2_with fail
          refine (error_64 _).mono ?_
          rintro e w3 ⟨rfl, rfl⟩
          go_wp2_with fail
          refine (error_m5 _ (HP.out _ BX)).mono ?_
          rintro e w4 ⟨rfl, b4⟩
          have B4 := andThenN BX b4
          go_wp2
          go_ret
          exact ⟨rfl, B4⟩
end Go.Proofs.YtdgbmogkjnpoeaaDoor
