import Derived.Test.YtppabcihbpbfpaaGreatDoorChecked
import Derived.WalkKit
import Derived.Below
import Derived.LoopN
import Derived.Handy
import Derived.Laws.BytesString
import Derived.Laws.IdiomStrings
import Derived.Laws.Rows
import Derived.Lib.SmallJoins
import Derived.Test.YtppabcihbpbfpaaGreatDoorQKn
import Derived.Test.YtppabcihbpbfpaaGreatDoorQKf
/-
  ManifestNames: the walks.
-/
namespace Go.Proofs.YtppabcihbpbfpaaGreatDoor
open Go Go.RowKit

theorem gPow : Tryz.prog.globalNamed "internal/strconv.uint64pow10" = some 2 := by kernel_rfl
theorem gSyn : Tryz.prog.globalNamed "strconv.ErrSyntax" = some 0 := by kernel_rfl
theorem gRng : Tryz.prog.globalNamed "strconv.ErrRange" = some 1 := by kernel_rfl
/-- the library's variables that are read -/
structure NTab (w : World) : Prop where
  pow : Lib.TabIs Tryz.prog w "internal/strconv.uint64pow10" .u64 Lib.pow10Tab
  syn : ∃ tp p, w.var? Tryz.prog "strconv.ErrSyntax" = some #[.iface tp p]
  rng : ∃ tp p, w.var? Tryz.prog "strconv.ErrRange" = some #[.iface tp p]
theorem NTab.kept {w w' : World} (h : NTab w) (hb : Below w.heap.size w w') : NTab w' :=
  ⟨Joins.var_stays gPow h.pow hb (Nat.le_refl _), let ⟨tp, p, e⟩ := h.syn; ⟨tp, p, Joins.var_stays gSyn e hb (Nat.le_refl _)⟩, let ⟨tp, p, e⟩ := h.rng; ⟨tp, p, Joins.var_stays gRng e hb (Nat.le_refl _)⟩⟩
theorem andThenM {w w1 w2 : World} (h : Below w.heap.size w w1) (k : Below w1.heap.size w1 w2) : Below w.heap.size w w2 := h.trans (k.mono h.size)
theorem trim_any (s p : ByteArray) (w : World) : Calls Tryz.prog 35 #[.string s, .string p] w fun e w' => e = .returned (.string ⟨(Lib.trimPrefix s.data.toList p.data.toList).toArray⟩) ∧ w' = w := Any.strings_TrimPrefix laysTrim s p w
theorem itoa_pos (u : Nat) (hu : u ≤ 1099511627776) (w : World) (hT : NTab w) : Calls Tryz.prog 53 #[.int .i64 (u : Int)] w fun e w' => e = .returned (.string ⟨(Lib.decDigits u).toArray⟩) ∧ Below w.heap.size w w' := by
  refine (Any.strconv_Itoa laysItoa (u : Int) (by omega) (by omega) w hT.pow).mono ?_
  rintro e w' ⟨rfl, k, os, rfl⟩
  rw [Lib.itoa_nonneg]
  refine ⟨rfl, ⟨rfl, rfl, rfl, ?_, fun j hj => ?_⟩⟩
  · show w.heap.size ≤ (w.heap ++ os).size
    rw [Array.size_append]
    omega
  · show (w.heap ++ os)[j]? = w.heap[j]?
    rw [Array.getElem?_append_left hj]
theorem atoi_good (s : ByteArray) (hs : s.size ≤ 281474976710656) (v : Int) (h : Lib.atoiAll s.data.toList = .ok v) (w : World) : Calls Tryz.prog 34 #[.string s] w fun e w' => e = .returned (.tuple #[.int .i64 v, .nilIface]) ∧ Below w.heap.size w w' := by
  refine (Any.strconv_Atoi_ok laysAtoi s (by omega) v h w).mono ?_
  rintro e w' ⟨rfl, rfl | ⟨t, rfl⟩⟩
  · exact ⟨rfl, Below.refl _ _⟩
  · exact ⟨rfl, Lib.bytesWorld_below _ _ _⟩
theorem atoi_bad (s : ByteArray) (hs : s.size ≤ 281474976710656) (h : ∀ v, Lib.atoiAll s.data.toList ≠ .ok v) (w : World) (hT : NTab w) : Calls Tryz.prog 34 #[.string s] w fun e w' => ∃ z t p, e = .returned (.tuple #[.int .i64 z, .iface t (.pointer p)]) ∧ Below w.heap.size w w' := by
  cases hc : Lib.atoiAll s.data.toList with
  | ok v => exact absurd hc (h v)
  | «syntax» =>
    obtain ⟨tp, p, e⟩ := hT.syn
    refine (Any.strconv_Atoi_syntax_var laysAtoi s hs hc tp p w e).mono ?_
    rintro e w' ⟨N, rfl, _, _, hb⟩
    exact ⟨_, _, _, rfl, hb⟩
  | range =>
    obtain ⟨tp, p, e⟩ := hT.rng
    refine (Any.strconv_Atoi_range_var laysAtoi s hs hc tp p w e).mono ?_
    rintro e w' ⟨N, rfl, _, _, hb⟩
    exact ⟨_, _, _, rfl, hb⟩
theorem isnum_any (n : Int) (w : World) : Calls Tryz.prog 19 #[.int .i64 n] w fun e w' => e = .returned (.bool (decide (1 ≤ n ∧ n ≤ 1099511627776))) ∧ w' = w := by
  by_cases h1 : 1 ≤ n
  · by_cases h2 : n ≤ 1099511627776
    · rw [decide_eq_true ⟨h1, h2⟩]
      go_enter Tryz.func19, Tryz.ntmps19
      go_wp2
      go_ret
      exact ⟨rfl, rfl⟩
    · rw [decide_eq_false (fun h => h2 h.2)]
      go_enter Tryz.func19, Tryz.ntmps19
      go_wp2
      go_ret
      exact ⟨rfl, rfl⟩
  · rw [decide_eq_false (fun h => h1 h.1)]
    go_enter Tryz.func19, Tryz.ntmps19
    go_wp2
    go_ret
    exact ⟨rfl, rfl⟩
/-- manifest.Name -/
theorem name_any (n : Int) (w : World) (hT : NTab w) : Calls Tryz.prog 36 #[.int .i64 n] w fun e w' => e = .returned (.string ⟨(nmL n).toArray⟩) ∧ Below w.heap.size w w' := by
  have hi := isnum_any n w
  by_cases h : 1 ≤ n ∧ n ≤ 1099511627776
  · rw [decide_eq_true h] at hi
    obtain ⟨u, rfl⟩ : ∃ u : Nat, n = (u : Int) := ⟨n.toNat, by omega⟩
    rw [nm_in u (by omega) (by omega)]
    have HI := itoa_pos u (by omega) w hT
    have hl := decDigits_short 13 u (by omega)
    clear h hT
    go_enter Tryz.func36, Tryz.ntmps36
    go_wp2_with fail
    refine hi.mono ?_
    rintro e w1 ⟨rfl, rfl⟩
    go_wp2_with fail
    refine HI.mono ?_
    rintro e w2 ⟨rfl, b2⟩
    go_wp2
    go_ret
    exact ⟨rfl, b2⟩
  · rw [decide_eq_false h] at hi
    rw [nm_out n h]
    clear h hT
    go_enter Tryz.func36, Tryz.ntmps36
    go_wp2_with fail
    refine hi.mono ?_
    rintro e w1 ⟨rfl, rfl⟩
    go_wp2
    go_ret
    exact ⟨rfl, Below.refl _ _⟩
end Go.Proofs.YtppabcihbpbfpaaGreatDoor

/-
  ManifestNames: Num, the reference's Name and Num, the law.
-/
namespace Go.Proofs.YtppabcihbpbfpaaGreatDoor
open Go Go.RowKit

theorem rem10n (k : Nat) : Int.tmod (k : Int) 10 = ((k % 10 : Nat) : Int) := by
  rw [Int.tmod_eq_emod_of_nonneg (by omega)]
  omega
theorem quo10n (k : Nat) : Int.tdiv (k : Int) 10 = ((k / 10 : Nat) : Int) := by
  rw [Int.tdiv_eq_ediv_of_nonneg (by omega)]
  omega
theorem upM (w : World) (o : Obj) : Below w.heap.size w (w.alloc o) := (Below.refl _ w).alloc (Nat.le_refl _) o
theorem conv_one (w : World) (z : Int) (d : Nat) (hz : z = ((48 + d : Nat) : Int)) (hd : d < 10) : (convert 32 9 (.slice (some ⟨w.heap.size, 0, none⟩) 1 1)).run Tryz.prog (w.alloc (.cells #[.int .u8 z] 5)) = .ok (.string ⟨#[UInt8.ofNat (48 + d)]⟩) (w.alloc (.cells #[.int .u8 z] 5)) := by
  have h := run_convert_bytes_back (P := Tryz.prog) (w.alloc (.cells #[.int .u8 z] 5)) 32 9 5 ⟨w.heap.size, 0, none⟩ 1 [UInt8.ofNat (48 + d)] Tryz.underlying32 Tryz.underlying5 Tryz.underlying9 (fun j hj => by
    obtain rfl : j = 0 := by simpa using hj
    rw [Addr.add_lit, World.cell?_alloc_new]
    have h9 := dg_nat d hd
    simp [hz]
    omega)
  exact h
theorem texts_ne {a b : ByteArray} (h : a ≠ b) : (a.toList == b.toList) = false := by
  cases hc : a.toList == b.toList with
  | false => rfl
  | true =>
    have h1 := eq_of_beq hc
    rw [ByteArray.toList_eq, ByteArray.toList_eq] at h1
    exact absurd (ByteArray.ext (Array.toList_inj.1 h1)) h
/-- manifest.Num -/
theorem num_any (s : ByteArray) (hs : s.size ≤ 281474976710656) (w : World) (hT : NTab w) : Calls Tryz.prog 13 #[.string s] w fun e w' => e = .returned (.tuple #[.int .i64 (mNum s.data.toList).1, .bool (mNum s.data.toList).2]) ∧ Below w.heap.size w w' := by
  have HTR : Hid (Calls Tryz.prog 35 #[.string s, .string ⟨#[115]⟩] w fun e w' => e = .returned (.string ⟨(Lib.trimPrefix s.data.toList [115]).toArray⟩) ∧ w' = w) := trim_any s ⟨#[115]⟩ w
  have hts : (⟨(Lib.trimPrefix s.data.toList [115]).toArray⟩ : ByteArray).size ≤ 281474976710656 := by
    show (Lib.trimPrefix s.data.toList [115]).toArray.size ≤ _
    have h9 : s.data.toList.length = s.size := by rw [Array.length_toList]; rfl
    unfold Lib.trimPrefix
    split <;> simp <;> omega
  cases hc : Lib.atoiAll (Lib.trimPrefix s.data.toList [115]) with
  | ok v =>
    have HA : Hid (Calls Tryz.prog 34 #[.string ⟨(Lib.trimPrefix s.data.toList [115]).toArray⟩] w fun e w' => e = .returned (.tuple #[.int .i64 v, .nilIface]) ∧ Below w.heap.size w w') := atoi_good _ hts v hc w
    have HN : Hid (∀ w', Below w.heap.size w w' → Calls Tryz.prog 36 #[.int .i64 v] w' fun e w'' => e = .returned (.string ⟨(nmL v).toArray⟩) ∧ Below w'.heap.size w' w'') := fun w' hb => name_any v w' (hT.kept hb)
    have HM : Hid (mNum s.data.toList = if nmL v = s.data.toList then (v, true) else (0, false)) := by
      show _ = _
      unfold mNum
      rw [hc]
    obtain ⟨t, ht⟩ : ∃ t : ByteArray, t = ⟨(nmL v).toArray⟩ := ⟨_, rfl⟩
    rw [← ht] at HN
    by_cases he : nmL v = s.data.toList
    · have es : t = s := by
        rw [ht]
        apply ByteArray.ext
        rw [he]
      rw [HM.out, if_pos he]
      rw [es] at HN
      clear hc hT he es HM hts ht
      generalize (⟨(Lib.trimPrefix s.data.toList [115]).toArray⟩ : ByteArray) = r at *
      go_enter Tryz.func13, Tryz.ntmps13
      go_wp2_with fail
      refine HTR.out.mono ?_
      rintro e w1 ⟨rfl, rfl⟩
      go_wp2_with fail
      refine HA.out.mono ?_
      rintro e w2 ⟨rfl, b2⟩
      go_wp2_with fail
      refine (HN.out _ b2).mono ?_
      rintro e w3 ⟨rfl, b3⟩
      have B3 := andThenM b2 b3
      clear b2 b3 HTR HA HN
      go_wp2
      go_ret2
      exact ⟨rfl, B3⟩
    · have hne := texts_ne (a := t) (b := s) (fun e => he (by rw [← e, ht]))
      rw [HM.out, if_neg he]
      clear hc hT he HM hts ht
      generalize (⟨(Lib.trimPrefix s.data.toList [115]).toArray⟩ : ByteArray) = r at *
      go_enter Tryz.func13, Tryz.ntmps13
      go_wp2_with fail
      refine HTR.out.mono ?_
      rintro e w1 ⟨rfl, rfl⟩
      go_wp2_with fail
      refine HA.out.mono ?_
      rintro e w2 ⟨rfl, b2⟩
      go_wp2_with fail
      refine (HN.out _ b2).mono ?_
      rintro e w3 ⟨rfl, b3⟩
      have B3 := andThenM b2 b3
      clear b2 b3 HTR HA HN
      go_wp2
      go_ret2
      exact ⟨rfl, B3⟩
  | _ =>
    have HA : Hid (Calls Tryz.prog 34 #[.string ⟨(Lib.trimPrefix s.data.toList [115]).toArray⟩] w fun e w' => ∃ z t p, e = .returned (.tuple #[.int .i64 z, .iface t (.pointer p)]) ∧ Below w.heap.size w w') := atoi_bad _ hts (fun v hv => by have h9 := hc.symm.trans hv; cases h9) w hT
    have HM : Hid (mNum s.data.toList = (0, false)) := by
      show _ = _
      unfold mNum
      rw [hc]
    rw [HM.out]
    clear hc hT HM hts
    generalize (⟨(Lib.trimPrefix s.data.toList [115]).toArray⟩ : ByteArray) = r at *
    go_enter Tryz.func13, Tryz.ntmps13
    go_wp2_with fail
    refine HTR.out.mono ?_
    rintro e w1 ⟨rfl, rfl⟩
    go_wp2_with fail
    refine HA.out.mono ?_
    rintro e w2 ⟨z, tt, p, rfl, b2⟩
    go_wp2
    go_ret2
    exact ⟨rfl, b2⟩
end Go.Proofs.YtppabcihbpbfpaaGreatDoor
