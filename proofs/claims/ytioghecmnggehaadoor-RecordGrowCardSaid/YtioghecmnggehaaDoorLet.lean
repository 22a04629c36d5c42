/-
  Package text: the table of letters; Letter.
-/
import Derived.Test.YtioghecmnggehaaDoorTxB
import Derived.Deep.MidRow
namespace Go.Proofs.YtioghecmnggehaaDoor.Text
open Go Go.RowKit
open Tx

namespace Tx
/-- letters -/
def lets : List (Int × Int) := [(65, 90), (97, 122), (192, 214), (216, 246), (248, 383), (913, 929), (931, 937), (940, 974), (1024, 1119), (1329, 1366), (1488, 1514), (1569, 1594), (1601, 1610), (2308, 2361), (3585, 3632), (4304, 4346), (12353, 12438), (12449, 12538), (19968, 40959), (44032, 55203), (66560, 66639), (131072, 173791)]
def hids : List (Int × Int) := [(128, 159), (173, 173), (8203, 8207), (8232, 8238), (8288, 8292), (65279, 65279), (65529, 65531), (917505, 917631)]
def flat (t : List (Int × Int)) : List Int := t.flatMap fun p => [p.1, p.2]
def among (t : List (Int × Int)) (r : Int) : Bool := t.any fun p => decide (p.1 ≤ r) && decide (r ≤ p.2)
theorem flat_len (t : List (Int × Int)) : (flat t).length = 2 * t.length := by
  induction t with
  | nil => rfl
  | cons p t ih => simp only [flat, List.flatMap_cons, List.length_append, List.length_cons, List.length_nil] at *; omega
theorem flat_get (t : List (Int × Int)) : ∀ (k : Nat) (h : k < t.length), (flat t)[2 * k]? = some t[k].1 ∧ (flat t)[2 * k + 1]? = some t[k].2 := by
  induction t with
  | nil => intro k h; simp at h
  | cons p t ih =>
    intro k h
    cases k with
    | zero => exact ⟨rfl, rfl⟩
    | succ k =>
      have := ih k (by simpa using h)
      simp only [flat, List.flatMap_cons] at *
      exact this
theorem among_take (t : List (Int × Int)) (r : Int) (k : Nat) (h : k < t.length) : among (t.take (k + 1)) r = (among (t.take k) r || (decide (t[k].1 ≤ r) && decide (r ≤ t[k].2))) := by
  unfold among
  rw [List.take_succ_eq_append_getElem h, List.any_append]
  simp
theorem among_yes (t : List (Int × Int)) (r : Int) (k : Nat) (h : k < t.length) (h1 : t[k].1 ≤ r) (h2 : r ≤ t[k].2) : among t r = true := by
  unfold among
  rw [List.any_eq_true]
  exact ⟨t[k], List.getElem_mem h, by simp [h1, h2]⟩
end Tx
/-- the numbers of a table of pairs in a block's cells -/
def TabP (g : Nat) (k : IntKind) (t : List (Int × Int)) (w : World) : Prop := ∀ j (h : j < (flat t).length), w.cell? ⟨g, j, none⟩ = some (.int k (flat t)[j])
theorem TabP.kept {g : Nat} {k : IntKind} {t : List (Int × Int)} {w w' : World} (h : TabP g k t w) (hb : Below w.heap.size w w') : TabP g k t w' := fun j hj =>
  (hb.cell (p := ⟨g, j, none⟩) (World.block_lt_of_cell? _ _ (h j hj))).trans (h j hj)
theorem TabP.range {g : Nat} {k : IntKind} {t : List (Int × Int)} {w : World} (h : TabP g k t w) : w.rangeAt g 0 ((flat t).map fun z => Value.int k z) := by
  intro j v hv
  rw [List.getElem?_map, Option.map_eq_some_iff] at hv
  obtain ⟨z, hz, rfl⟩ := hv
  obtain ⟨hj, rfl⟩ := List.getElem?_eq_some_iff.1 hz
  rw [Nat.zero_add]
  exact h j hj
/-- the k-th pair of a table by value -/
theorem run_index_pair {P : Program} (w : World) (ta te : TypeId) (n : Nat) (d : TypeDesc) (k : IntKind) (t : List (Int × Int)) (i : Nat) (hi : i < t.length) (hn : t.length = n) (ht : P.underlying ta = some (.array n te)) (he : P.underlying te = some d) (hd : d.isRow = true) (hs : (P.info? te).map (·.size) = some 2) :
    (Instr.index ta (.agg ((flat t).map fun z => Value.int k z).toArray) (.int .i64 (i : Int))).run P w = .ok (.agg #[.int k t[i].1, .int k t[i].2]) w := by
  have h1 : (0 : Int) ≤ (i : Int) ∧ (i : Int) < (n : Int) := by omega
  have hagg : (isAgg te).run P w = .ok true w := by
    unfold isAgg
    rw [Sem.run_bind, run_underlying he w]
    cases d <;> simp_all [TypeDesc.isRow]
  cases hq : P.info? te with
  | none => simp [hq] at hs
  | some inf =>
    have hz : inf.size = 2 := by simpa [hq] using hs
    have e : List.take 2 (List.drop (i * 2) (List.map (fun z => Value.int k z) (flat t))) = [.int k t[i].1, .int k t[i].2] := by
      have hg := flat_get t i hi
      apply List.ext_getElem?
      intro j
      match j with
      | 0 => simp [Nat.mul_comm i 2, hg.1]
      | 1 => simp [List.getElem?_drop, Nat.mul_comm i 2, hg.2]
      | j + 2 => rw [List.getElem?_eq_none (by simp; omega), List.getElem?_eq_none (by simp)]
    have h2 : i < n := by omega
    simp [Instr.index, run_underlying ht, asIntOf, h2, part, hagg, sizeOf, typeInfo, hq, hz, e, go_sem]

theorem infoSpan : (Tryd.prog.info? 84).map (·.size) = some 2 := by kernel_rfl
theorem infoLets : (Tryd.prog.info? 85).map (·.size) = some 44 := by kernel_rfl

theorem has_any (a b r : Int) (w : World) :
    Calls Tryd.prog 53 #[.agg #[.int .i32 a, .int .i32 b], .int .i32 r] w fun e w' => e = .returned (.bool (decide (a ≤ r) && decide (r ≤ b))) ∧ Below w.heap.size w w' := by
  by_cases h1 : a ≤ r
  · have H1 : Hid ((decide (a ≤ r) && decide (r ≤ b)) = decide (r ≤ b)) := by show _ = _; rw [decide_eq_true h1, Bool.true_and]
    rw [H1.out]
    go_enter Tryd.func53, Tryd.ntmps53
    go_wp2
    go_ret
    exact ⟨rfl, up0 _ _⟩
  · have H1 : Hid ((decide (a ≤ r) && decide (r ≤ b)) = false) := by show _ = _; rw [decide_eq_false h1, Bool.false_and]
    rw [H1.out]
    go_enter Tryd.func53, Tryd.ntmps53
    go_wp2
    go_ret
    exact ⟨rfl, up0 _ _⟩

set_option maxRecDepth 100000 in
theorem letter_any (r : Int) (w : World) (hT : TabP 1 .i32 lets w) :
    Calls Tryd.prog 50 #[.int .i32 r] w fun e w' => e = .returned (.bool (among lets r)) ∧ Below w.heap.size w w' := by
  have HIX : Hid (∀ w' (i : Nat) (hi : i < lets.length), (Instr.index 85 (.agg ((flat lets).map fun z => Value.int .i32 z).toArray) (.int .i64 (i : Int))).run Tryd.prog w' = .ok (.agg #[.int .i32 lets[i].1, .int .i32 lets[i].2]) w') :=
    fun w' i hi => run_index_pair w' 85 84 22 _ .i32 lets i hi rfl Tryd.underlying85 Tryd.underlying84 rfl infoSpan
  have HR := hT.range
  generalize hC : ((flat lets).map fun z => Value.int .i32 z) = C at *
  have HL : Hid (lets.length = 22) := rfl
  have HN : Hid ((Tryd.prog.info? 85).map (·.size) = some C.length) := by show _ = _; rw [← hC]; exact infoLets
  clear hC hT
  go_enter Tryd.func50, Tryd.ntmps50
  go_wp2_with (refine wpList_load_mid rfl 85 _ rfl 1 0 rfl C _ HR Tryd.underlying85 rfl HN.out ?_)
  clear HR HN
  have H0 : Hid (among (lets.take 0) r = false) := rfl
  go_loopw [6] (fun i wr => ∃ k : Nat, k ≤ 22 ∧ i = .int .i64 (k : Int) ∧ among (lets.take k) r = false ∧ Below w.heap.size w wr) (fun i _ => 22 - (intOf i).toNat)
  case atStart => exact ⟨0, by omega, rfl, H0.out, Below.refl _ _⟩
  case round =>
    obtain ⟨k, hk, rfl, ha, hbel⟩ := hrel
    have HA : Hid (among (lets.take k) r = false) := ha
    clear ha
    by_cases hlt : k < 22
    · have hkl : k < lets.length := by rw [HL.out]; exact hlt
      have hix := fun w' => HIX.out w' k hkl
      have HS : Hid (among (lets.take (k + 1)) r = (among (lets.take k) r || (decide (lets[k].1 ≤ r) && decide (r ≤ lets[k].2)))) := among_take lets r k hkl
      have HY : Hid (lets[k].1 ≤ r → r ≤ lets[k].2 → among lets r = true) := among_yes lets r k hkl
      generalize lets[k].1 = lo at *
      generalize lets[k].2 = hi at *
      clear HIX hkl
      go_wp2_with fail
      refine (has_any lo hi r _).mono ?_
      rintro e w1 ⟨rfl, b1⟩
      have hb1 := andThen (up hbel _) b1
      clear b1 hbel hix
      by_cases hh : lo ≤ r ∧ r ≤ hi
      · have HT : Hid ((decide (lo ≤ r) && decide (r ≤ hi)) = true) := by show _ = _; simp [hh]
        have HY2 : Hid (among lets r = true) := HY.out hh.1 hh.2
        rw [HT.out]
        clear HY HS
        go_wp2
        go_ret
        rw [HY2.out]
        exact ⟨rfl, hb1⟩
      · have HT : Hid ((decide (lo ≤ r) && decide (r ≤ hi)) = false) := by show _ = _; simp; omega
        have HS2 : Hid (among (lets.take (k + 1)) r = false) := by show _ = _; rw [HS.out, HA.out, HT.out]; rfl
        rw [HT.out]
        clear HY HS
        go_wp2
        go_roundw
        case rel => exact ⟨k + 1, by omega, by go_num, HS2.out, hb1⟩
        case measure => simp [intOf]; omega
    · obtain rfl : k = 22 := by omega
      have HF : Hid (among lets r = false) := HA.out
      go_wp2
      go_ret
      rw [HF.out]
      exact ⟨rfl, hbel⟩
end Go.Proofs.YtioghecmnggehaaDoor.Text
