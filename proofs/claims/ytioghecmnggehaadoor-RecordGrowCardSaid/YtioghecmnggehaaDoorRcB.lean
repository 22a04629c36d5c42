/-
  Package record: bounds, checkName, checkData, checkField; slices.Contains.
-/
import Derived.Test.YtioghecmnggehaaDoorRcA
import Derived.Deep.QuietTactic
import Derived.BigQuiet
import Derived.WalkSmall
namespace Go.Proofs.YtioghecmnggehaaDoor
open Go Go.RowKit
open Wb

set_option maxRecDepth 100000 in
set_option maxHeartbeats 4000000 in
theorem bounds_any (x : Nums) (nm : ByteArray) (ao : Option Addr) (n cap : Nat) (t : Nat) (w : World) (h1 : 3 ≤ t) (h2 : t ≤ 9) :
    Calls Tryd.prog 38 #[rv x nm (.slice ao n cap), .int .i64 (t : Int)] w fun e w' => e = .returned (.tuple #[.int .i64 (x.lo t), .int .i64 (x.hi t)]) ∧ Below w.heap.size w w' := by
  have HO : Hid (∀ w', Calls Tryd.prog 46 #[rv x nm (.slice ao n cap)] w' fun e w'' => e = .returned (.bool x.old) ∧ Below w'.heap.size w' w'') := fun w' => old_any x nm ao n cap w'
  have HX : Hid (∀ o, Below w.heap.size w (w.alloc o)) := fun o => up0 w o
  unfold rv at *
  obtain rfl | rfl | rfl | rfl | rfl | rfl | rfl : t = 3 ∨ t = 4 ∨ t = 5 ∨ t = 6 ∨ t = 7 ∨ t = 8 ∨ t = 9 := by omega
  · cases hold : x.old with
    | true =>
      simp only [Nums.lo, Nums.hi, if_true, hold]
      rw [hold] at HO
      clear hold
      go_enter Tryd.func38, Tryd.ntmps38
      go_wp2_with fail
      refine (HO.out _).mono ?_
      rintro e w1 ⟨rfl, b1⟩
      go_wp2
      go_ret2
      exact ⟨rfl, andThen (HX.out _) b1⟩
    | false =>
      simp only [Nums.lo, Nums.hi, if_true, hold]
      rw [hold] at HO
      clear hold
      go_enter Tryd.func38, Tryd.ntmps38
      go_wp2_with fail
      refine (HO.out _).mono ?_
      rintro e w1 ⟨rfl, b1⟩
      go_wp2
      go_ret2
      exact ⟨rfl, andThen (HX.out _) b1⟩
  · simp only [Nums.lo, Nums.hi, if_true, if_false, Nat.reduceEqDiff]
    go_enter Tryd.func38, Tryd.ntmps38
    go_wp2
    go_ret2
    exact ⟨rfl, by go_grown⟩
  · simp only [Nums.lo, Nums.hi, if_false, Nat.reduceEqDiff]
    go_enter Tryd.func38, Tryd.ntmps38
    go_wp2
    go_ret2
    exact ⟨rfl, by go_grown⟩
  · simp only [Nums.lo, Nums.hi, if_true, if_false, Nat.reduceEqDiff]
    go_enter Tryd.func38, Tryd.ntmps38
    go_wp2
    go_ret2
    exact ⟨rfl, by go_grown⟩
  · by_cases hk : x.k = 7
    · have HL : Hid (x.lo 7 = 0) := by show _ = _; simp [Nums.lo, hk]
      have HH : Hid (x.hi 7 = 2) := by show _ = _; simp [Nums.hi, hk]
      rw [HL.out, HH.out, hk]
      go_enter Tryd.func38, Tryd.ntmps38
      go_wp2
      go_ret2
      exact ⟨rfl, by go_grown⟩
    · have HL : Hid (x.lo 7 = -9223372036854775808) := by show _ = _; simp [Nums.lo, hk]
      have HH : Hid (x.hi 7 = 9223372036854775807) := by show _ = _; simp [Nums.hi, hk]
      have d1 : (x.k == 7) = false := by rw [beq_eq_false_iff_ne]; exact hk
      rw [HL.out, HH.out]
      clear hk
      go_enter Tryd.func38, Tryd.ntmps38
      go_wp2
      go_ret2
      exact ⟨rfl, by go_grown⟩
  · simp only [Nums.lo, Nums.hi, if_true, if_false, Nat.reduceEqDiff]
    go_enter Tryd.func38, Tryd.ntmps38
    go_wp2
    go_ret2
    exact ⟨rfl, by go_grown⟩
  · simp only [Nums.lo, Nums.hi, if_true, if_false, Nat.reduceEqDiff]
    go_enter Tryd.func38, Tryd.ntmps38
    go_wp2
    go_quiet (fail)
    go_wp2
    go_ret2
    exact ⟨rfl, below_drewN (by go_grown) _⟩
theorem cname_any (s : ByteArray) (w : World) (hs : s.size ≤ 140737488355000) (hT : Text.TabP 1 .i32 Text.Tx.lets w) :
    Calls Tryd.prog 36 #[.string s] w fun e w' => e = .returned (.int .i64 (lab s)) ∧ Below w.heap.size w w' := by
  by_cases h : (Text.Tx.nmA s).1 = 0
  · have HL : Hid (lab s = 0) := by show _ = _; unfold lab; rw [if_pos h]
    rw [HL.out]
    go_enter Tryd.func36, Tryd.ntmps36
    go_wp2_with fail
    refine (Text.name_any s _ hs hT).mono ?_
    rw [h]
    rintro e w1 ⟨rfl, b1⟩
    go_wp2
    go_ret
    exact ⟨rfl, b1⟩
  · have HL : Hid (lab s = 35) := by show _ = _; unfold lab; rw [if_neg h]
    have d1 : ((Text.Tx.nmA s).1 != 0) = true := by rw [bne_iff_ne]; exact h
    rw [HL.out]
    go_enter Tryd.func36, Tryd.ntmps36
    go_wp2_with fail
    refine (Text.name_any s _ hs hT).mono ?_
    rintro e w1 ⟨rfl, b1⟩
    generalize (Text.Tx.nmA s).1 = z at *
    generalize (Text.Tx.nmA s).2 = y at *
    go_wp2
    go_ret
    exact ⟨rfl, b1⟩
set_option maxRecDepth 100000 in
set_option maxHeartbeats 1000000 in
theorem cdata_any (x : Nums) (nm : ByteArray) (d : Value) (l : List Nat) (w : World) (h : Bs w d l) (hT : Text.TabP 1 .i32 Text.Tx.lets w) :
    Calls Tryd.prog 37 #[rv x nm d] w fun e w' => e = .returned (.int .i64 (datE x l)) ∧ Below w.heap.size w w' := by
  have HB : Hid (∀ w', Below w.heap.size w w' → Bs w' d l) := fun w' hb => h.kept hb
  have HT : Hid (∀ w', Below w.heap.size w w' → Text.TabP 1 .i32 Text.Tx.lets w') := fun w' hb => hT.kept hb
  obtain ⟨ao, cap, rfl, _⟩ := h.shape
  have HO : Hid (∀ w', Calls Tryd.prog 46 #[rv x nm (.slice ao l.length cap)] w' fun e w'' => e = .returned (.bool x.old) ∧ Below w'.heap.size w' w'') := fun w' => old_any x nm ao l.length cap w'
  have HX : Hid (∀ o, (w.alloc o).heap[w.heap.size]? = some o ∧ Below w.heap.size w (w.alloc o)) := fun o => ⟨Array.getElem?_push_size, up0 w o⟩
  have HZ : Hid ((bstr l).size = l.length) := bstr_size l
  clear h hT
  unfold rv at *
  by_cases hl : 16384 < l.length
  · have HE : Hid (datE x l = 36) := by show _ = _; unfold datE; rw [if_pos hl]
    rw [HE.out]
    go_enter Tryd.func37, Tryd.ntmps37
    go_wp2
    go_ret
    exact ⟨rfl, by go_grown⟩
  · cases hold : x.old with
    | false =>
      have HE : Hid (datE x l = 0) := by show _ = _; unfold datE; rw [if_neg hl, hold]; rfl
      rw [HE.out]
      rw [hold] at HO
      go_enter Tryd.func37, Tryd.ntmps37
      go_wp2_with fail
      refine (HO.out _).mono ?_
      rintro e w1 ⟨rfl, b1⟩
      go_wp2
      go_ret
      exact ⟨rfl, andThen (HX.out _).2 b1⟩
    | true =>
      have HE : Hid (datE x l = lab (bstr l)) := by show _ = _; unfold datE; rw [if_neg hl, hold]; rfl
      rw [HE.out]
      rw [hold] at HO
      go_enter Tryd.func37, Tryd.ntmps37
      go_wp2_with fail
      refine (HO.out _).mono ?_
      rintro e w1 ⟨rfl, b1⟩
      have hc : w1.cell? ⟨w.heap.size, 11, none⟩ = some (.slice ao l.length cap) := by
        have h1 := (b1.block w.heap.size (Array.getElem?_eq_some_iff.1 (HX.out _).1).1).trans (HX.out _).1
        simp [World.cell?, h1]
      have B1 := andThen (HX.out _).2 b1
      have hcv := conv_bs (HB.out _ B1)
      clear b1
      go_wp2_with fail
      refine (cname_any (bstr l) _ (by rw [HZ.out]; omega) (HT.out _ B1)).mono ?_
      rintro e w2 ⟨rfl, b2⟩
      go_wp2
      go_ret
      exact ⟨rfl, andThen B1 b2⟩
/-- a slice that holds these numbers -/
def SlI (w : World) (v : Value) (l : List Int) : Prop := ∃ b off cap, v = .slice (some ⟨b, off, none⟩) l.length cap ∧ ∀ j (hj : j < l.length), w.cell? ⟨b, off + j, none⟩ = some (.int .i64 l[j])
theorem index_any (l : List Int) (t : Int) (v : Value) (w : World) (h : SlI w v l) (hl : l.length ≤ 1000) :
    Calls Tryd.prog 35 #[v, .int .i64 t] w fun e w' => ∃ r : Int, e = .returned (.int .i64 r) ∧ (decide (0 ≤ r) = l.contains t) ∧ w' = w := by
  obtain ⟨b, off, cap, rfl, hc⟩ := h
  go_enter Tryd.func35, Tryd.ntmps35
  go_wp2
  go_loopw [8] (fun i wr => ∃ k : Nat, k ≤ l.length ∧ i = .int .i64 (k : Int) ∧ (∀ j, j < k → l[j]? ≠ some t) ∧ wr = w) (fun i _ => l.length - (intOf i).toNat)
  case atStart => exact ⟨0, Nat.zero_le _, rfl, fun j hj => absurd hj (Nat.not_lt_zero _), rfl⟩
  case round =>
    obtain ⟨k, hk, rfl, hno, rfl⟩ := hrel
    have HNO : Hid (∀ j, j < k → l[j]? ≠ some t) := hno
    clear hno
    by_cases hlt : k < l.length
    · have q := hc k hlt
      by_cases he : t = l[k]
      · have HR : Hid (decide (0 ≤ (k : Int)) = l.contains t) := by
          show _ = _
          rw [decide_eq_true (by omega)]
          symm
          rw [List.contains_iff_mem, he]
          exact List.getElem_mem hlt
        rw [← he] at q
        have d1 : (t == t) = true := beq_self_eq_true _
        clear hc he
        go_wp2
        go_ret
        exact ⟨_, rfl, HR.out, rfl⟩
      · have d1 : (t == l[k]) = false := by rw [beq_eq_false_iff_ne]; exact he
        have HN2 : Hid (∀ j, j < k + 1 → l[j]? ≠ some t) := fun j hj => by
          by_cases hjk : j < k
          · exact HNO.out j hjk
          · obtain rfl : j = k := by omega
            rw [List.getElem?_eq_getElem hlt]
            intro e
            exact he (Option.some.inj e).symm
        clear hc he HNO
        generalize l[k] = y at *
        go_wp2
        go_roundw
        case rel => exact ⟨k + 1, by omega, by go_num, HN2.out, trivial⟩
        case measure => simp [intOf]; omega
    · have HR : Hid (decide (0 ≤ (-1 : Int)) = l.contains t) := by
        show _ = _
        symm
        show l.contains t = false
        rw [← Bool.not_eq_true, List.contains_iff_mem]
        intro hm
        obtain ⟨j, hj, he⟩ := List.getElem_of_mem hm
        exact HNO.out j (by omega) (by rw [List.getElem?_eq_getElem hj, he])
      clear hc
      go_wp2
      go_ret
      exact ⟨_, rfl, HR.out, rfl⟩
theorem contains_any (l : List Int) (t : Int) (v : Value) (w : World) (h : SlI w v l) (hl : l.length ≤ 1000) :
    Calls Tryd.prog 26 #[v, .int .i64 t] w fun e w' => e = .returned (.bool (l.contains t)) ∧ w' = w := by
  have HI : Hid (Calls Tryd.prog 35 #[v, .int .i64 t] w fun e w' => ∃ r : Int, e = .returned (.int .i64 r) ∧ (decide (0 ≤ r) = l.contains t) ∧ w' = w) := index_any l t v w h hl
  obtain ⟨b, off, cap, rfl, _⟩ := h
  go_enter Tryd.func26, Tryd.ntmps26
  go_wp2_with fail
  refine HI.out.mono ?_
  rintro e w1 ⟨r, rfl, hr, rfl⟩
  have HR : Hid (decide (0 ≤ r) = l.contains t) := hr
  clear hr
  go_wp2
  go_ret
  exact ⟨by rw [← HR.out]; rfl, rfl⟩
end Go.Proofs.YtioghecmnggehaaDoor
