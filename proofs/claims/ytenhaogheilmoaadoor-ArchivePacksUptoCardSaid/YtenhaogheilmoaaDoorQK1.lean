import Derived.Test.YtenhaogheilmoaaDoorQR3
import Derived.Test.YtenhaogheilmoaaDoorQF1
import Derived.Test.YtenhaogheilmoaaDoorQT2
/-
  The reference's record: within, label, stands, zero, bounds.
-/
namespace Go.Proofs.YtenhaogheilmoaaDoor
open Go Go.RowKit
open Wb

theorem rwithin_any (n lo hi : Int) (w : World) : Calls Tryd.prog 63 #[.int .i64 n, .int .i64 lo, .int .i64 hi] w fun e w' => e = .returned (.int .i64 (if n < lo ∨ hi < n then 34 else 0)) ∧ w' = w := by
  by_cases h1 : n < lo
  · rw [if_pos (Or.inl h1)]
    go_enter Tryd.func63, Tryd.ntmps63
    go_wp2
    go_ret
    exact ⟨rfl, rfl⟩
  · by_cases h2 : hi < n
    · rw [if_pos (Or.inr h2)]
      go_enter Tryd.func63, Tryd.ntmps63
      go_wp2
      go_ret
      exact ⟨rfl, rfl⟩
    · rw [if_neg (by omega)]
      go_enter Tryd.func63, Tryd.ntmps63
      go_wp2
      go_ret
      exact ⟨rfl, rfl⟩
theorem rlabel_any (s : ByteArray) (w : World) (hs : s.size ≤ 2000000) (hT : Text.TabP 4 .i64 Text.Tx.lets w) :
    Calls Tryd.prog 64 #[.string s] w fun e w' => e = .returned (.int .i64 (lab s)) ∧ Below w.heap.size w w' := by
  by_cases h : (Text.Tx.nmA s).1 = 0
  · have HL : Hid (lab s = 0) := by show _ = _; unfold lab; rw [if_pos h]
    rw [HL.out]
    go_enter Tryd.func64, Tryd.ntmps64
    go_wp2_with fail
    refine (Text.rname_any s _ hs hT).mono ?_
    rw [h]
    rintro e w1 ⟨rfl, b1⟩
    go_wp2
    go_ret
    exact ⟨rfl, b1⟩
  · have HL : Hid (lab s = 35) := by show _ = _; unfold lab; rw [if_neg h]
    have d1 : ((Text.Tx.nmA s).1 != 0) = true := by rw [bne_iff_ne]; exact h
    rw [HL.out]
    go_enter Tryd.func64, Tryd.ntmps64
    go_wp2_with fail
    refine (Text.rname_any s _ hs hT).mono ?_
    rintro e w1 ⟨rfl, b1⟩
    generalize (Text.Tx.nmA s).1 = z at *
    generalize (Text.Tx.nmA s).2 = y at *
    go_wp2
    go_ret
    exact ⟨rfl, b1⟩
set_option maxRecDepth 100000 in
set_option maxHeartbeats 1000000 in
theorem rstands_any (v k : Int) (t : Int) (w : World) (hT : Fld.RowsT w) :
    Calls Tryd.prog 40 #[.int .i64 v, .int .i64 k, .int .i64 t] w fun e w' => e = .returned (.bool ((Fld.fl v k).contains t)) ∧ Below w.heap.size w w' := by
  have hll := Fld.fl_len v k
  have HF : Hid (∀ w', Fld.RowsT w' → Calls Tryd.prog 61 #[.int .i64 v, .int .i64 k] w' fun e w'' => ∃ o, e = .returned o ∧ Fld.RoI w'.heap.size w'' o (Fld.fl v k) ∧ Below w'.heap.size w' w'') := fun w' h => Fld.rfields_any v k w' h
  generalize Fld.fl v k = l at *
  go_enter Tryd.func40, Tryd.ntmps40
  go_wp2_with fail
  refine (HF.out _ hT).mono ?_
  rintro e w1 ⟨o, rfl, hro, b1⟩
  obtain ⟨ao, cap, rfl⟩ := hro.shape
  have HC : Hid (∀ j (hj : j < l.length), ∃ g, ao = some ⟨g, 0, none⟩ ∧ w1.cell? ⟨g, j, none⟩ = some (.int .i64 l[j])) := fun j hj => hro.cell j hj
  clear hro HF hT
  go_wp2
  go_loopw [8] (fun i wr => ∃ k : Nat, k ≤ l.length ∧ i = .int .i64 (k : Int) ∧ (∀ j, j < k → l[j]? ≠ some t) ∧ wr = w1) (fun i _ => l.length - (intOf i).toNat)
  case atStart => exact ⟨0, Nat.zero_le _, rfl, fun j hj => absurd hj (Nat.not_lt_zero _), rfl⟩
  case round =>
    obtain ⟨k, hk, rfl, hno, rfl⟩ := hrel
    have HNO : Hid (∀ j, j < k → l[j]? ≠ some t) := hno
    clear hno
    by_cases hlt : k < l.length
    · obtain ⟨g, rfl, q⟩ := HC.out k hlt
      by_cases he : l[k] = t
      · have HR : Hid (l.contains t = true) := by
          show _ = _
          rw [List.contains_iff_mem, ← he]
          exact List.getElem_mem hlt
        rw [he] at q
        have d1 : (t == t) = true := beq_self_eq_true _
        clear HC he
        go_wp2
        go_ret
        exact ⟨by rw [HR.out]; rfl, b1⟩
      · have d1 : (l[k] == t) = false := by rw [beq_eq_false_iff_ne]; exact he
        have HN2 : Hid (∀ j, j < k + 1 → l[j]? ≠ some t) := fun j hj => by
          by_cases hjk : j < k
          · exact HNO.out j hjk
          · obtain rfl : j = k := by omega
            rw [List.getElem?_eq_getElem hlt]
            intro e
            exact he (Option.some.inj e)
        clear HC he HNO
        generalize l[k] = y at *
        go_wp2
        go_roundw
        case rel => exact ⟨k + 1, by omega, by go_num, HN2.out, trivial⟩
        case measure => simp [intOf]; omega
    · have HR : Hid (l.contains t = false) := by
        show _ = _
        rw [← Bool.not_eq_true, List.contains_iff_mem]
        intro hm
        obtain ⟨j, hj, he⟩ := List.getElem_of_mem hm
        exact HNO.out j (by omega) (by rw [List.getElem?_eq_getElem hj, he])
      clear HC
      go_wp2
      go_ret
      exact ⟨by rw [HR.out]; rfl, b1⟩
set_option maxRecDepth 100000 in
set_option maxHeartbeats 4000000 in
theorem rzero_any (x : Nums) (nm : ByteArray) (ao : Option Addr) (n cap : Nat) (t : Nat) (w : World) (h1 : 1 ≤ t) (h2 : t ≤ 11) :
    Calls Tryd.prog 41 #[rv x nm (.slice ao n cap), .int .i64 (t : Int)] w fun e w' => e = .returned (.bool (zeroT x nm n t)) ∧ Below w.heap.size w w' := by
  have HN : Hid (∀ (t : Nat) (w' : World), 1 ≤ t → t ≤ 9 → Calls Tryd.prog 62 #[rv x nm (.slice ao n cap), .int .i64 (t : Int)] w' fun e w'' => e = .returned (.int .i64 (x.tag t)) ∧ Below w'.heap.size w' w'') := fun t w' a b => number_any x nm ao n cap t w' a b
  have HX : Hid (∀ o, Below w.heap.size w (w.alloc o)) := fun o => up0 w o
  have hn : decide (n = 0) = ((n : Int) == 0) := by
    by_cases e : n = 0
    · subst e; rfl
    · rw [decide_eq_false e]; symm; rw [beq_eq_false_iff_ne]; omega
  by_cases h10 : t = 10
  · subst h10
    unfold rv
    simp only [zeroT, if_true]
    clear hn HN
    go_enter Tryd.func41, Tryd.ntmps41
    go_wp2
    go_ret
    exact ⟨rfl, by go_grown⟩
  · by_cases h11 : t = 11
    · subst h11
      unfold rv
      simp only [zeroT, if_true, if_false, Nat.reduceEqDiff, hn]
      clear hn HN
      go_enter Tryd.func41, Tryd.ntmps41
      go_wp2
      go_ret
      exact ⟨rfl, by go_grown⟩
    · have HZ : Hid (zeroT x nm n t = (x.tag t == 0)) := by show _ = _; unfold zeroT; rw [if_neg h10, if_neg h11]; rfl
      have HNT : Hid (∀ (w' : World), Calls Tryd.prog 62 #[rv x nm (.slice ao n cap), .int .i64 (t : Int)] w' fun e w'' => e = .returned (.int .i64 (x.tag t)) ∧ Below w'.heap.size w' w'') := fun w' => HN.out t w' h1 (by omega)
      have e10 : ((t : Int) == 10) = false := by rw [beq_eq_false_iff_ne]; omega
      have e11 : ((t : Int) == 11) = false := by rw [beq_eq_false_iff_ne]; omega
      rw [HZ.out]
      clear hn HN
      generalize x.tag t = z at *
      unfold rv at *
      go_enter Tryd.func41, Tryd.ntmps41
      go_wp2_with fail
      refine (HNT.out _).mono ?_
      rintro e w1 ⟨rfl, b1⟩
      have B1 := andThen (HX.out _) b1
      clear b1
      go_wp2
      go_ret
      exact ⟨rfl, B1⟩
end Go.Proofs.YtenhaogheilmoaaDoor

/-
  The reference's record: bounds.
-/
namespace Go.Proofs.YtenhaogheilmoaaDoor
open Go Go.RowKit
open Wb

theorem old_tt {x : Nums} (h1 : x.v = 1) (h2 : x.k = 1) : x.old = true := by unfold Nums.old; simp [h1, h2]
theorem old_v {x : Nums} (h1 : ¬ x.v = 1) : x.old = false := by unfold Nums.old; simp [h1]
theorem old_k {x : Nums} (h1 : ¬ x.k = 1) : x.old = false := by unfold Nums.old; simp [h1]

set_option maxRecDepth 100000 in
set_option maxHeartbeats 4000000 in
theorem rbounds_3 (x : Nums) (nm : ByteArray) (d : Value) (l : List Nat) (w : World) (h : Bs w d l) :
    Calls Tryd.prog 42 #[rv x nm d, .int .i64 3] w fun e w' => e = .returned (.int .i64 (fldE x nm l 3)) ∧ Below w.heap.size w w' := by
  have HX : Hid (∀ o, (w.alloc o).heap[w.heap.size]? = some o ∧ Below w.heap.size w (w.alloc o)) := fun o => ⟨Array.getElem?_push_size, up0 w o⟩
  obtain ⟨ao, cap, rfl, _⟩ := h.shape
  clear h
  by_cases hv : x.v = 1
  · by_cases hk : x.k = 1
    · have HO : Hid (x.old = true) := old_tt hv hk
      have hv2 : (x.v == 1) = true := by rw [hv]; rfl
      have hk2 : (x.k == 1) = true := by rw [hk]; rfl
      have HF : Hid (fldE x nm l 3 = if x.p < 1 ∨ 32 < x.p then 34 else 0) := by
        show (if x.p < x.lo 3 ∨ x.hi 3 < x.p then (34 : Int) else 0) = _
        have h1 : x.lo 3 = 1 := by simp [Nums.lo, HO.out]
        have h2 : x.hi 3 = 32 := by simp [Nums.hi, HO.out]
        rw [h1, h2]
      obtain ⟨z, hz⟩ : ∃ z : Int, (if x.p < 1 ∨ 32 < x.p then (34 : Int) else 0) = z := ⟨_, rfl⟩
      have HW : Hid (∀ w', Calls Tryd.prog 63 #[.int .i64 x.p, .int .i64 (1), .int .i64 (32)] w' fun e w'' => e = .returned (.int .i64 z) ∧ w'' = w') := fun w' => by
        have := rwithin_any x.p (1) (32) w'
        rwa [hz] at this
      rw [HF.out, hz]
      clear hz HF HO hv hk
      unfold rv
      go_enter Tryd.func42, Tryd.ntmps42
      go_wp2_with fail
      refine (HW.out _).mono ?_
      rintro e w1 ⟨rfl, rfl⟩
      go_wp2
      go_ret
      exact ⟨rfl, (HX.out _).2⟩
    · have HO : Hid (x.old = false) := old_k hk
      have hv2 : (x.v == 1) = true := by rw [hv]; rfl
      have hk2 : (x.k == 1) = false := by rw [beq_eq_false_iff_ne]; exact hk
      have HF : Hid (fldE x nm l 3 = if x.p < 0 ∨ 31 < x.p then 34 else 0) := by
        show (if x.p < x.lo 3 ∨ x.hi 3 < x.p then (34 : Int) else 0) = _
        have h1 : x.lo 3 = 0 := by simp [Nums.lo, HO.out]
        have h2 : x.hi 3 = 31 := by simp [Nums.hi, HO.out]
        rw [h1, h2]
      obtain ⟨z, hz⟩ : ∃ z : Int, (if x.p < 0 ∨ 31 < x.p then (34 : Int) else 0) = z := ⟨_, rfl⟩
      have HW : Hid (∀ w', Calls Tryd.prog 63 #[.int .i64 x.p, .int .i64 (0), .int .i64 (31)] w' fun e w'' => e = .returned (.int .i64 z) ∧ w'' = w') := fun w' => by
        have := rwithin_any x.p (0) (31) w'
        rwa [hz] at this
      rw [HF.out, hz]
      clear hz HF HO hv hk
      unfold rv
      go_enter Tryd.func42, Tryd.ntmps42
      go_wp2_with fail
      refine (HW.out _).mono ?_
      rintro e w1 ⟨rfl, rfl⟩
      go_wp2
      go_ret
      exact ⟨rfl, (HX.out _).2⟩
  · have HO : Hid (x.old = false) := old_v hv
    have hv2 : (x.v == 1) = false := by rw [beq_eq_false_iff_ne]; exact hv
    have HF : Hid (fldE x nm l 3 = if x.p < 0 ∨ 31 < x.p then 34 else 0) := by
      show (if x.p < x.lo 3 ∨ x.hi 3 < x.p then (34 : Int) else 0) = _
      have h1 : x.lo 3 = 0 := by simp [Nums.lo, HO.out]
      have h2 : x.hi 3 = 31 := by simp [Nums.hi, HO.out]
      rw [h1, h2]
    obtain ⟨z, hz⟩ : ∃ z : Int, (if x.p < 0 ∨ 31 < x.p then (34 : Int) else 0) = z := ⟨_, rfl⟩
    have HW : Hid (∀ w', Calls Tryd.prog 63 #[.int .i64 x.p, .int .i64 (0), .int .i64 (31)] w' fun e w'' => e = .returned (.int .i64 z) ∧ w'' = w') := fun w' => by
      have := rwithin_any x.p (0) (31) w'
      rwa [hz] at this
    rw [HF.out, hz]
    clear hz HF HO hv
    unfold rv
    go_enter Tryd.func42, Tryd.ntmps42
    go_wp2_with fail
    refine (HW.out _).mono ?_
    rintro e w1 ⟨rfl, rfl⟩
    go_wp2
    go_ret
    exact ⟨rfl, (HX.out _).2⟩
set_option maxRecDepth 100000 in
set_option maxHeartbeats 4000000 in
theorem rbounds_4 (x : Nums) (nm : ByteArray) (d : Value) (l : List Nat) (w : World) (h : Bs w d l) :
    Calls Tryd.prog 42 #[rv x nm d, .int .i64 4] w fun e w' => e = .returned (.int .i64 (fldE x nm l 4)) ∧ Below w.heap.size w w' := by
  have HX : Hid (∀ o, (w.alloc o).heap[w.heap.size]? = some o ∧ Below w.heap.size w (w.alloc o)) := fun o => ⟨Array.getElem?_push_size, up0 w o⟩
  obtain ⟨ao, cap, rfl, _⟩ := h.shape
  clear h
  have HF : Hid (fldE x nm l 4 = if x.t < 1 ∨ 1000 < x.t then 34 else 0) := by
    show (if x.t < x.lo 4 ∨ x.hi 4 < x.t then (34 : Int) else 0) = _
    have h1 : x.lo 4 = 1 := by simp [Nums.lo]
    have h2 : x.hi 4 = 1000 := by simp [Nums.hi]
    rw [h1, h2]
  obtain ⟨z, hz⟩ : ∃ z : Int, (if x.t < 1 ∨ 1000 < x.t then (34 : Int) else 0) = z := ⟨_, rfl⟩
  have HW : Hid (∀ w', Calls Tryd.prog 63 #[.int .i64 x.t, .int .i64 (1), .int .i64 (1000)] w' fun e w'' => e = .returned (.int .i64 z) ∧ w'' = w') := fun w' => by
    have := rwithin_any x.t (1) (1000) w'
    rw [hz] at this
    exact this
  rw [HF.out, hz]
  clear hz HF
  rcases Bool.eq_false_or_eq_true (x.v == 1) with hv2 | hv2 <;> rcases Bool.eq_false_or_eq_true (x.k == 1) with hk2 | hk2
  all_goals
    unfold rv
    go_enter Tryd.func42, Tryd.ntmps42
    go_wp2_with fail
    refine (HW.out _).mono ?_
    rintro e w1 ⟨rfl, rfl⟩
    go_wp2
    go_ret
    exact ⟨rfl, (HX.out _).2⟩
set_option maxRecDepth 100000 in
set_option maxHeartbeats 4000000 in
theorem rbounds_5 (x : Nums) (nm : ByteArray) (d : Value) (l : List Nat) (w : World) (h : Bs w d l) :
    Calls Tryd.prog 42 #[rv x nm d, .int .i64 5] w fun e w' => e = .returned (.int .i64 (fldE x nm l 5)) ∧ Below w.heap.size w w' := by
  have HX : Hid (∀ o, (w.alloc o).heap[w.heap.size]? = some o ∧ Below w.heap.size w (w.alloc o)) := fun o => ⟨Array.getElem?_push_size, up0 w o⟩
  obtain ⟨ao, cap, rfl, _⟩ := h.shape
  clear h
  have HF : Hid (fldE x nm l 5 = if x.a < 0 ∨ 9223372036854775807 < x.a then 34 else 0) := by
    show (if x.a < x.lo 5 ∨ x.hi 5 < x.a then (34 : Int) else 0) = _
    have h1 : x.lo 5 = 0 := by simp [Nums.lo]
    have h2 : x.hi 5 = 9223372036854775807 := by simp [Nums.hi]
    rw [h1, h2]
  obtain ⟨z, hz⟩ : ∃ z : Int, (if x.a < 0 ∨ 9223372036854775807 < x.a then (34 : Int) else 0) = z := ⟨_, rfl⟩
  have HW : Hid (∀ w', Calls Tryd.prog 63 #[.int .i64 x.a, .int .i64 (0), .int .i64 (9223372036854775807)] w' fun e w'' => e = .returned (.int .i64 z) ∧ w'' = w') := fun w' => by
    have := rwithin_any x.a (0) (9223372036854775807) w'
    rw [hz] at this
    exact this
  rw [HF.out, hz]
  clear hz HF
  rcases Bool.eq_false_or_eq_true (x.v == 1) with hv2 | hv2 <;> rcases Bool.eq_false_or_eq_true (x.k == 1) with hk2 | hk2
  all_goals
    unfold rv
    go_enter Tryd.func42, Tryd.ntmps42
    go_wp2_with fail
    refine (HW.out _).mono ?_
    rintro e w1 ⟨rfl, rfl⟩
    go_wp2
    go_ret
    exact ⟨rfl, (HX.out _).2⟩
set_option maxRecDepth 100000 in
set_option maxHeartbeats 4000000 in
theorem rbounds_6 (x : Nums) (nm : ByteArray) (d : Value) (l : List Nat) (w : World) (h : Bs w d l) :
    Calls Tryd.prog 42 #[rv x nm d, .int .i64 6] w fun e w' => e = .returned (.int .i64 (fldE x nm l 6)) ∧ Below w.heap.size w w' := by
  have HX : Hid (∀ o, (w.alloc o).heap[w.heap.size]? = some o ∧ Below w.heap.size w (w.alloc o)) := fun o => ⟨Array.getElem?_push_size, up0 w o⟩
  obtain ⟨ao, cap, rfl, _⟩ := h.shape
  clear h
  have HF : Hid (fldE x nm l 6 = if x.l < 0 ∨ 1 < x.l then 34 else 0) := by
    show (if x.l < x.lo 6 ∨ x.hi 6 < x.l then (34 : Int) else 0) = _
    have h1 : x.lo 6 = 0 := by simp [Nums.lo]
    have h2 : x.hi 6 = 1 := by simp [Nums.hi]
    rw [h1, h2]
  obtain ⟨z, hz⟩ : ∃ z : Int, (if x.l < 0 ∨ 1 < x.l then (34 : Int) else 0) = z := ⟨_, rfl⟩
  have HW : Hid (∀ w', Calls Tryd.prog 63 #[.int .i64 x.l, .int .i64 (0), .int .i64 (1)] w' fun e w'' => e = .returned (.int .i64 z) ∧ w'' = w') := fun w' => by
    have := rwithin_any x.l (0) (1) w'
    rw [hz] at this
    exact this
  rw [HF.out, hz]
  clear hz HF
  rcases Bool.eq_false_or_eq_true (x.v == 1) with hv2 | hv2 <;> rcases Bool.eq_false_or_eq_true (x.k == 1) with hk2 | hk2
  all_goals
    unfold rv
    go_enter Tryd.func42, Tryd.ntmps42
    go_wp2_with fail
    refine (HW.out _).mono ?_
    rintro e w1 ⟨rfl, rfl⟩
    go_wp2
    go_ret
    exact ⟨rfl, (HX.out _).2⟩
set_option maxRecDepth 100000 in
set_option maxHeartbeats 4000000 in
theorem rbounds_7 (x : Nums) (nm : ByteArray) (d : Value) (l : List Nat) (w : World) (h : Bs w d l) (hb : -9223372036854775808 ≤ x.c ∧ x.c ≤ 9223372036854775807) :
    Calls Tryd.prog 42 #[rv x nm d, .int .i64 7] w fun e w' => e = .returned (.int .i64 (fldE x nm l 7)) ∧ Below w.heap.size w w' := by
  have HX : Hid (∀ o, (w.alloc o).heap[w.heap.size]? = some o ∧ Below w.heap.size w (w.alloc o)) := fun o => ⟨Array.getElem?_push_size, up0 w o⟩
  obtain ⟨ao, cap, rfl, _⟩ := h.shape
  clear h
  by_cases hv : x.v = 1
  · by_cases hk : x.k = 1
    · have HO : Hid (x.old = true) := old_tt hv hk
      have hv2 : (x.v == 1) = true := by rw [hv]; rfl
      have hk2 : (x.k == 1) = true := by rw [hk]; rfl
      have h7 : (x.k == 7) = false := by rw [hk]; rfl
      have HK : Hid (¬ x.k = 7) := by show ¬ _; omega
      have HF : Hid (fldE x nm l 7 = 0) := by
        show (if x.c < x.lo 7 ∨ x.hi 7 < x.c then (34 : Int) else 0) = _
        have h1 : x.lo 7 = -9223372036854775808 := by simp [Nums.lo, HK.out]
        have h2 : x.hi 7 = 9223372036854775807 := by simp [Nums.hi, HK.out]
        rw [h1, h2, if_neg (by omega)]
      rw [HF.out]
      clear hv hk
      unfold rv
      go_enter Tryd.func42, Tryd.ntmps42
      go_wp2
      go_ret
      exact ⟨rfl, by go_grown⟩
    · have HO : Hid (x.old = false) := old_k hk
      have hv2 : (x.v == 1) = true := by rw [hv]; rfl
      have hk2 : (x.k == 1) = false := by rw [beq_eq_false_iff_ne]; exact hk
      by_cases hk7 : x.k = 7
      · have h7 : (x.k == 7) = true := by rw [hk7]; rfl
        have HF : Hid (fldE x nm l 7 = if x.c < 0 ∨ 2 < x.c then 34 else 0) := by
          show (if x.c < x.lo 7 ∨ x.hi 7 < x.c then (34 : Int) else 0) = _
          have h1 : x.lo 7 = 0 := by simp [Nums.lo, hk7]
          have h2 : x.hi 7 = 2 := by simp [Nums.hi, hk7]
          rw [h1, h2]
        obtain ⟨z, hz⟩ : ∃ z : Int, (if x.c < 0 ∨ 2 < x.c then (34 : Int) else 0) = z := ⟨_, rfl⟩
        have HW : Hid (∀ w', Calls Tryd.prog 63 #[.int .i64 x.c, .int .i64 0, .int .i64 2] w' fun e w'' => e = .returned (.int .i64 z) ∧ w'' = w') := fun w' => by
          have := rwithin_any x.c 0 2 w'
          rwa [hz] at this
        rw [HF.out, hz]
        clear hz HF HO hv hk7 hk
        unfold rv
        go_enter Tryd.func42, Tryd.ntmps42
        go_wp2_with fail
        refine (HW.out _).mono ?_
        rintro e w1 ⟨rfl, rfl⟩
        go_wp2
        go_ret
        exact ⟨rfl, (HX.out _).2⟩
      · have h7 : (x.k == 7) = false := by rw [beq_eq_false_iff_ne]; exact hk7
        have HF : Hid (fldE x nm l 7 = 0) := by
          show (if x.c < x.lo 7 ∨ x.hi 7 < x.c then (34 : Int) else 0) = _
          have h1 : x.lo 7 = -9223372036854775808 := by simp [Nums.lo, hk7]
          have h2 : x.hi 7 = 9223372036854775807 := by simp [Nums.hi, hk7]
          rw [h1, h2, if_neg (by omega)]
        rw [HF.out]
        clear hv hk7 hk
        unfold rv
        go_enter Tryd.func42, Tryd.ntmps42
        go_wp2
        go_ret
        exact ⟨rfl, by go_grown⟩
  · have HO : Hid (x.old = false) := old_v hv
    have hv2 : (x.v == 1) = false := by rw [beq_eq_false_iff_ne]; exact hv
    by_cases hk7 : x.k = 7
    · have h7 : (x.k == 7) = true := by rw [hk7]; rfl
      have HF : Hid (fldE x nm l 7 = if x.c < 0 ∨ 2 < x.c then 34 else 0) := by
        show (if x.c < x.lo 7 ∨ x.hi 7 < x.c then (34 : Int) else 0) = _
        have h1 : x.lo 7 = 0 := by simp [Nums.lo, hk7]
        have h2 : x.hi 7 = 2 := by simp [Nums.hi, hk7]
        rw [h1, h2]
      obtain ⟨z, hz⟩ : ∃ z : Int, (if x.c < 0 ∨ 2 < x.c then (34 : Int) else 0) = z := ⟨_, rfl⟩
      have HW : Hid (∀ w', Calls Tryd.prog 63 #[.int .i64 x.c, .int .i64 0, .int .i64 2] w' fun e w'' => e = .returned (.int .i64 z) ∧ w'' = w') := fun w' => by
        have := rwithin_any x.c 0 2 w'
        rwa [hz] at this
      rw [HF.out, hz]
      clear hz HF HO hv hk7
      unfold rv
      go_enter Tryd.func42, Tryd.ntmps42
      go_wp2_with fail
      refine (HW.out _).mono ?_
      rintro e w1 ⟨rfl, rfl⟩
      go_wp2
      go_ret
      exact ⟨rfl, (HX.out _).2⟩
    · have h7 : (x.k == 7) = false := by rw [beq_eq_false_iff_ne]; exact hk7
      have HF : Hid (fldE x nm l 7 = 0) := by
        show (if x.c < x.lo 7 ∨ x.hi 7 < x.c then (34 : Int) else 0) = _
        have h1 : x.lo 7 = -9223372036854775808 := by simp [Nums.lo, hk7]
        have h2 : x.hi 7 = 9223372036854775807 := by simp [Nums.hi, hk7]
        rw [h1, h2, if_neg (by omega)]
      rw [HF.out]
      clear hv hk7
      unfold rv
      go_enter Tryd.func42, Tryd.ntmps42
      go_wp2
      go_ret
      exact ⟨rfl, by go_grown⟩
set_option maxRecDepth 100000 in
set_option maxHeartbeats 4000000 in
theorem rbounds_8 (x : Nums) (nm : ByteArray) (d : Value) (l : List Nat) (w : World) (h : Bs w d l) :
    Calls Tryd.prog 42 #[rv x nm d, .int .i64 8] w fun e w' => e = .returned (.int .i64 (fldE x nm l 8)) ∧ Below w.heap.size w w' := by
  have HX : Hid (∀ o, (w.alloc o).heap[w.heap.size]? = some o ∧ Below w.heap.size w (w.alloc o)) := fun o => ⟨Array.getElem?_push_size, up0 w o⟩
  obtain ⟨ao, cap, rfl, _⟩ := h.shape
  clear h
  have HF : Hid (fldE x nm l 8 = if x.n < 1 ∨ 32 < x.n then 34 else 0) := by
    show (if x.n < x.lo 8 ∨ x.hi 8 < x.n then (34 : Int) else 0) = _
    have h1 : x.lo 8 = 1 := by simp [Nums.lo]
    have h2 : x.hi 8 = 32 := by simp [Nums.hi]
    rw [h1, h2]
  obtain ⟨z, hz⟩ : ∃ z : Int, (if x.n < 1 ∨ 32 < x.n then (34 : Int) else 0) = z := ⟨_, rfl⟩
  have HW : Hid (∀ w', Calls Tryd.prog 63 #[.int .i64 x.n, .int .i64 (1), .int .i64 (32)] w' fun e w'' => e = .returned (.int .i64 z) ∧ w'' = w') := fun w' => by
    have := rwithin_any x.n (1) (32) w'
    rw [hz] at this
    exact this
  rw [HF.out, hz]
  clear hz HF
  rcases Bool.eq_false_or_eq_true (x.v == 1) with hv2 | hv2 <;> rcases Bool.eq_false_or_eq_true (x.k == 1) with hk2 | hk2
  all_goals
    unfold rv
    go_enter Tryd.func42, Tryd.ntmps42
    go_wp2_with fail
    refine (HW.out _).mono ?_
    rintro e w1 ⟨rfl, rfl⟩
    go_wp2
    go_ret
    exact ⟨rfl, (HX.out _).2⟩
set_option maxRecDepth 100000 in
set_option maxHeartbeats 4000000 in
theorem rbounds_9 (x : Nums) (nm : ByteArray) (d : Value) (l : List Nat) (w : World) (h : Bs w d l) :
    Calls Tryd.prog 42 #[rv x nm d, .int .i64 9] w fun e w' => e = .returned (.int .i64 (fldE x nm l 9)) ∧ Below w.heap.size w w' := by
  have HX : Hid (∀ o, (w.alloc o).heap[w.heap.size]? = some o ∧ Below w.heap.size w (w.alloc o)) := fun o => ⟨Array.getElem?_push_size, up0 w o⟩
  obtain ⟨ao, cap, rfl, _⟩ := h.shape
  clear h
  have HF : Hid (fldE x nm l 9 = if x.i < 0 ∨ x.n < x.i then 34 else 0) := by
    show (if x.i < x.lo 9 ∨ x.hi 9 < x.i then (34 : Int) else 0) = _
    have h1 : x.lo 9 = 0 := by simp [Nums.lo]
    have h2 : x.hi 9 = x.n := by simp [Nums.hi]
    rw [h1, h2]
  obtain ⟨z, hz⟩ : ∃ z : Int, (if x.i < 0 ∨ x.n < x.i then (34 : Int) else 0) = z := ⟨_, rfl⟩
  have HW : Hid (∀ w', Calls Tryd.prog 63 #[.int .i64 x.i, .int .i64 (0), .int .i64 (x.n)] w' fun e w'' => e = .returned (.int .i64 z) ∧ w'' = w') := fun w' => by
    have := rwithin_any x.i (0) (x.n) w'
    rw [hz] at this
    exact this
  rw [HF.out, hz]
  clear hz HF
  rcases Bool.eq_false_or_eq_true (x.v == 1) with hv2 | hv2 <;> rcases Bool.eq_false_or_eq_true (x.k == 1) with hk2 | hk2
  all_goals
    unfold rv
    go_enter Tryd.func42, Tryd.ntmps42
    go_wp2_with fail
    refine (HW.out _).mono ?_
    rintro e w1 ⟨rfl, rfl⟩
    go_wp2
    go_ret
    exact ⟨rfl, (HX.out _).2⟩
set_option maxRecDepth 100000 in
set_option maxHeartbeats 4000000 in
theorem rbounds_10 (x : Nums) (nm : ByteArray) (d : Value) (l : List Nat) (w : World) (h : Bs w d l) (hT : Text.TabP 4 .i64 Text.Tx.lets w) (hnm : nm.size ≤ 2000000) :
    Calls Tryd.prog 42 #[rv x nm d, .int .i64 10] w fun e w' => e = .returned (.int .i64 (fldE x nm l 10)) ∧ Below w.heap.size w w' := by
  have HX : Hid (∀ o, (w.alloc o).heap[w.heap.size]? = some o ∧ Below w.heap.size w (w.alloc o)) := fun o => ⟨Array.getElem?_push_size, up0 w o⟩
  have HT : Hid (∀ w', Below w.heap.size w w' → Text.TabP 4 .i64 Text.Tx.lets w') := fun w' hb => hT.kept hb
  obtain ⟨ao, cap, rfl, _⟩ := h.shape
  clear h hT
  by_cases hv : x.v = 1
  · by_cases hk : x.k = 1
    · have HO : Hid (x.old = true) := old_tt hv hk
      have hv2 : (x.v == 1) = true := by rw [hv]; rfl
      have hk2 : (x.k == 1) = true := by rw [hk]; rfl
      have HF : Hid (fldE x nm l 10 = lab nm) := rfl
      rw [HF.out]
      clear hv hk
      unfold rv
      go_enter Tryd.func42, Tryd.ntmps42
      go_wp2_with fail
      refine (rlabel_any _ _ hnm (HT.out _ (HX.out _).2)).mono ?_
      rintro e w1 ⟨rfl, b1⟩
      have B1 := andThen (HX.out _).2 b1
      clear b1
      go_wp2
      go_ret
      exact ⟨rfl, B1⟩
    · have HO : Hid (x.old = false) := old_k hk
      have hv2 : (x.v == 1) = true := by rw [hv]; rfl
      have hk2 : (x.k == 1) = false := by rw [beq_eq_false_iff_ne]; exact hk
      have HF : Hid (fldE x nm l 10 = lab nm) := rfl
      rw [HF.out]
      clear hv hk
      unfold rv
      go_enter Tryd.func42, Tryd.ntmps42
      go_wp2_with fail
      refine (rlabel_any _ _ hnm (HT.out _ (HX.out _).2)).mono ?_
      rintro e w1 ⟨rfl, b1⟩
      have B1 := andThen (HX.out _).2 b1
      clear b1
      go_wp2
      go_ret
      exact ⟨rfl, B1⟩
  · have HO : Hid (x.old = false) := old_v hv
    have hv2 : (x.v == 1) = false := by rw [beq_eq_false_iff_ne]; exact hv
    have HF : Hid (fldE x nm l 10 = lab nm) := rfl
    rw [HF.out]
    clear hv
    unfold rv
    go_enter Tryd.func42, Tryd.ntmps42
    go_wp2_with fail
    refine (rlabel_any _ _ hnm (HT.out _ (HX.out _).2)).mono ?_
    rintro e w1 ⟨rfl, b1⟩
    have B1 := andThen (HX.out _).2 b1
    clear b1
    go_wp2
    go_ret
    exact ⟨rfl, B1⟩
set_option maxRecDepth 100000 in
set_option maxHeartbeats 4000000 in
theorem rbounds_11 (x : Nums) (nm : ByteArray) (d : Value) (l : List Nat) (w : World) (h : Bs w d l) (hT : Text.TabP 4 .i64 Text.Tx.lets w) :
    Calls Tryd.prog 42 #[rv x nm d, .int .i64 11] w fun e w' => e = .returned (.int .i64 (fldE x nm l 11)) ∧ Below w.heap.size w w' := by
  have HX : Hid (∀ o, (w.alloc o).heap[w.heap.size]? = some o ∧ Below w.heap.size w (w.alloc o)) := fun o => ⟨Array.getElem?_push_size, up0 w o⟩
  have HT : Hid (∀ w', Below w.heap.size w w' → Text.TabP 4 .i64 Text.Tx.lets w') := fun w' hb => hT.kept hb
  have HB : Hid (∀ w', Below w.heap.size w w' → Bs w' d l) := fun w' hb => h.kept hb
  have HZ : Hid ((bstr l).size = l.length) := bstr_size l
  obtain ⟨ao, cap, rfl, _⟩ := h.shape
  clear h hT
  by_cases hv : x.v = 1
  · by_cases hk : x.k = 1
    · have HO : Hid (x.old = true) := old_tt hv hk
      have hv2 : (x.v == 1) = true := by rw [hv]; rfl
      have hk2 : (x.k == 1) = true := by rw [hk]; rfl
      by_cases hl : 16384 < l.length
      · have HF : Hid (fldE x nm l 11 = 36) := by
          show datE x l = _
          unfold datE
          rw [if_pos hl]
        rw [HF.out]
        clear hv hk
        unfold rv
        go_enter Tryd.func42, Tryd.ntmps42
        go_wp2
        go_ret
        exact ⟨rfl, by go_grown⟩
      · have HF : Hid (fldE x nm l 11 = lab (bstr l)) := by
          show datE x l = _
          unfold datE
          rw [if_neg hl, HO.out]
          rfl
        rw [HF.out]
        clear hv hk
        have hcv := fun o => conv_bs (HB.out _ (HX.out o).2)
        unfold rv
        go_enter Tryd.func42, Tryd.ntmps42
        go_wp2_with fail
        refine (rlabel_any (bstr l) _ (by rw [HZ.out]; omega) (HT.out _ (HX.out _).2)).mono ?_
        rintro e w1 ⟨rfl, b1⟩
        have B1 := andThen (HX.out _).2 b1
        clear b1 hcv
        go_wp2
        go_ret
        exact ⟨rfl, B1⟩
    · have HO : Hid (x.old = false) := old_k hk
      have hv2 : (x.v == 1) = true := by rw [hv]; rfl
      have hk2 : (x.k == 1) = false := by rw [beq_eq_false_iff_ne]; exact hk
      by_cases hl : 16384 < l.length
      · have HF : Hid (fldE x nm l 11 = 36) := by
          show datE x l = _
          unfold datE
          rw [if_pos hl]
        rw [HF.out]
        clear hv hk
        unfold rv
        go_enter Tryd.func42, Tryd.ntmps42
        go_wp2
        go_ret
        exact ⟨rfl, by go_grown⟩
      · have HF : Hid (fldE x nm l 11 = 0) := by
          show datE x l = _
          unfold datE
          rw [if_neg hl, HO.out]
          rfl
        rw [HF.out]
        clear hv hk
        unfold rv
        go_enter Tryd.func42, Tryd.ntmps42
        go_wp2
        go_ret
        exact ⟨rfl, by go_grown⟩
  · have HO : Hid (x.old = false) := old_v hv
    have hv2 : (x.v == 1) = false := by rw [beq_eq_false_iff_ne]; exact hv
    by_cases hl : 16384 < l.length
    · have HF : Hid (fldE x nm l 11 = 36) := by
        show datE x l = _
        unfold datE
        rw [if_pos hl]
      rw [HF.out]
      clear hv
      unfold rv
      go_enter Tryd.func42, Tryd.ntmps42
      go_wp2
      go_ret
      exact ⟨rfl, by go_grown⟩
    · have HF : Hid (fldE x nm l 11 = 0) := by
        show datE x l = _
        unfold datE
        rw [if_neg hl, HO.out]
        rfl
      rw [HF.out]
      clear hv
      unfold rv
      go_enter Tryd.func42, Tryd.ntmps42
      go_wp2
      go_ret
      exact ⟨rfl, by go_grown⟩
theorem rbounds_any (x : Nums) (nm : ByteArray) (d : Value) (l : List Nat) (t : Nat) (w : World) (h : Bs w d l) (hT : Text.TabP 4 .i64 Text.Tx.lets w) (hb : -9223372036854775808 ≤ x.c ∧ x.c ≤ 9223372036854775807) (hnm : nm.size ≤ 2000000) (h1 : 3 ≤ t) (h2 : t ≤ 11) :
    Calls Tryd.prog 42 #[rv x nm d, .int .i64 (t : Int)] w fun e w' => e = .returned (.int .i64 (fldE x nm l t)) ∧ Below w.heap.size w w' := by
  obtain rfl | rfl | rfl | rfl | rfl | rfl | rfl | rfl | rfl : t = 3 ∨ t = 4 ∨ t = 5 ∨ t = 6 ∨ t = 7 ∨ t = 8 ∨ t = 9 ∨ t = 10 ∨ t = 11 := by omega
  · exact rbounds_3 x nm d l w h
  · exact rbounds_4 x nm d l w h
  · exact rbounds_5 x nm d l w h
  · exact rbounds_6 x nm d l w h
  · exact rbounds_7 x nm d l w h hb
  · exact rbounds_8 x nm d l w h
  · exact rbounds_9 x nm d l w h
  · exact rbounds_10 x nm d l w h hT hnm
  · exact rbounds_11 x nm d l w h hT
end Go.Proofs.YtenhaogheilmoaaDoor

/-
  The reference's record: Check.
-/
namespace Go.Proofs.YtenhaogheilmoaaDoor
open Go Go.RowKit
open Wb

theorem nz_mem (l : List Int) (t : Int) (h : t ≠ 0) : (Fld.nz l).contains t = l.contains t := by
  have : ((Fld.nz l).contains t = true) ↔ (l.contains t = true) := by
    rw [List.contains_iff_mem, List.contains_iff_mem]
    unfold Fld.nz
    rw [List.mem_filter]
    constructor
    · exact fun h1 => h1.1
    · exact fun h1 => ⟨h1, by simpa using h⟩
  cases h1 : (Fld.nz l).contains t <;> cases h2 : l.contains t <;> simp_all
theorem fl_row (x : Nums) (t : Nat) (hv : 1 ≤ x.v ∧ x.v ≤ 3) (hk : 1 ≤ x.k ∧ x.k ≤ 7) (h1 : 1 ≤ t) : (Fld.fl x.v x.k).contains (t : Int) = x.row.contains (t : Int) := by
  have e : Fld.fl x.v x.k = Fld.nz (Fld.tagR ((x.k.toNat - 1) * 3 + (x.v.toNat - 1))) := by unfold Fld.fl; rw [if_pos ⟨hv.1, hv.2, hk.1, hk.2⟩]
  rw [e, nz_mem _ _ (by omega)]
  rfl
set_option maxRecDepth 100000 in
set_option maxHeartbeats 4000000 in
theorem refcheck_any (x : Nums) (nm : ByteArray) (d : Value) (l : List Nat) (w : World) (h : Bs w d l) (hT : Text.TabP 4 .i64 Text.Tx.lets w) (hG : Fld.RowsT w) (hb : -9223372036854775808 ≤ x.c ∧ x.c ≤ 9223372036854775807) (hnm : nm.size ≤ 2000000) :
    Calls Tryd.prog 21 #[rv x nm d] w fun e w' => e = .returned (.int .i64 (chk x nm l)) ∧ Below w.heap.size w w' := by
  by_cases hv : 1 ≤ x.v ∧ x.v ≤ 3
  · by_cases hk : 1 ≤ x.k ∧ x.k ≤ 7
    · by_cases hs : x.s < 1
      · have HC : Hid (chk x nm l = 32) := by show _ = _; unfold chk; rw [if_neg (by simp [hv.1, hv.2]), if_neg (by simp [hk.1, hk.2]), if_pos hs]
        rw [HC.out]
        obtain ⟨ao, cap, rfl, _⟩ := h.shape
        clear h hT hG
        unfold rv
        go_enter Tryd.func21, Tryd.ntmps21
        go_wp2
        go_ret
        exact ⟨rfl, by go_grown⟩
      · obtain ⟨A, hA⟩ : ∃ A, chk x nm l = A := ⟨_, rfl⟩
        have HA : Hid (chkN x nm l 9 = A) := by show _ = _; rw [← hA]; unfold chk; rw [if_neg (by simp [hv.1, hv.2]), if_neg (by simp [hk.1, hk.2]), if_neg hs]
        rw [hA]
        clear hA
        have HX : Hid (∀ o, (w.alloc o).heap[w.heap.size]? = some o ∧ Below w.heap.size w (w.alloc o)) := fun o => ⟨Array.getElem?_push_size, up0 w o⟩
        have HSD : Hid (∀ (t : Nat) w', 1 ≤ t → Below w.heap.size w w' → Calls Tryd.prog 40 #[.int .i64 x.v, .int .i64 x.k, .int .i64 (t : Int)] w' fun e w'' => e = .returned (.bool (x.row.contains (t : Int))) ∧ Below w'.heap.size w' w'') := fun t w' h1 hb' => by
          have := rstands_any x.v x.k (t : Int) w' (hG.kept hb')
          rwa [fl_row x t hv hk h1] at this
        have HBD : Hid (∀ (t : Nat) w', 3 ≤ t → t ≤ 11 → Below w.heap.size w w' → Calls Tryd.prog 42 #[rv x nm d, .int .i64 (t : Int)] w' fun e w'' => e = .returned (.int .i64 (fldE x nm l t)) ∧ Below w'.heap.size w' w'') := fun t w' h1 h2 hb' => rbounds_any x nm d l t w' (h.kept hb') (hT.kept hb') hb hnm h1 h2
        obtain ⟨ao, cap, rfl, _⟩ := h.shape
        have HZR : Hid (∀ (t : Nat) w', 1 ≤ t → t ≤ 11 → Calls Tryd.prog 41 #[rv x nm (.slice ao l.length cap), .int .i64 (t : Int)] w' fun e w'' => e = .returned (.bool (zeroT x nm l.length t)) ∧ Below w'.heap.size w' w'') := fun t w' h1 h2 => rzero_any x nm ao l.length cap t w' h1 h2
        clear h hT hG
        unfold rv at *
        go_enter Tryd.func21, Tryd.ntmps21
        go_wp2
        go_loopw [3] (fun i wr => ∃ k : Nat, 3 ≤ k ∧ k ≤ 12 ∧ i = .int .i64 (k : Int) ∧ chkN x nm l (12 - k) = A ∧ Box wr w.heap.size x nm (.slice ao l.length cap) ∧ Below w.heap.size w wr) (fun i _ => 12 - (intOf i).toNat)
        case atStart => exact ⟨3, by omega, by omega, rfl, HA.out, (HX.out _).1, (HX.out _).2⟩
        case round =>
          obtain ⟨k, hk3, hk12, rfl, hak, hbx, hbel⟩ := hrel
          have HAK : Hid (chkN x nm l (12 - k) = A) := hak
          clear hak HX HA
          by_cases hlt : k ≤ 11
          · have HST : Hid ((if tagE x nm l k = 0 then chkN x nm l (12 - (k + 1)) else tagE x nm l k) = A) := by
              show _ = _
              rw [← HAK.out, show 12 - k = (11 - k) + 1 by omega]
              rw [chkN_succ, show 11 - (11 - k) = k by omega, show 12 - (k + 1) = 11 - k by omega]
            have HTG : Hid (tagE x nm l k = if x.row.contains (k : Int) then fldE x nm l k else if zeroT x nm l.length k then 0 else 33) := rfl
            have HSD1 : Hid (∀ w', Below w.heap.size w w' → Calls Tryd.prog 40 #[.int .i64 x.v, .int .i64 x.k, .int .i64 (k : Int)] w' fun e w'' => e = .returned (.bool (x.row.contains (k : Int))) ∧ Below w'.heap.size w' w'') := fun w' hb' => HSD.out k w' (by omega) hb'
            have HBD1 : Hid (∀ w', Below w.heap.size w w' → Calls Tryd.prog 42 #[.agg #[.int .i64 x.v, .int .i64 x.k, .int .i64 x.s, .int .i64 x.p, .int .i64 x.t, .int .i64 x.a, .int .i64 x.l, .int .i64 x.c, .int .i64 x.n, .int .i64 x.i, .string nm, .slice ao l.length cap], .int .i64 (k : Int)] w' fun e w'' => e = .returned (.int .i64 (fldE x nm l k)) ∧ Below w'.heap.size w' w'') := fun w' hb' => HBD.out k w' hk3 hlt hb'
            have HZR1 : Hid (∀ w', Calls Tryd.prog 41 #[.agg #[.int .i64 x.v, .int .i64 x.k, .int .i64 x.s, .int .i64 x.p, .int .i64 x.t, .int .i64 x.a, .int .i64 x.l, .int .i64 x.c, .int .i64 x.n, .int .i64 x.i, .string nm, .slice ao l.length cap], .int .i64 (k : Int)] w' fun e w'' => e = .returned (.bool (zeroT x nm l.length k)) ∧ Below w'.heap.size w' w'') := fun w' => HZR.out k w' (by omega) hlt
            clear HSD HBD HZR HAK
            obtain ⟨c0, c1, c2, c3, c4, c5, c6, c7, c8, c9, c10, c11⟩ := hbx.cells
            generalize x.row.contains (k : Int) = con at *
            generalize zeroT x nm l.length k = zz at *
            generalize tagE x nm l k = te at *
            go_wp2_with fail
            refine (HSD1.out _ hbel).mono ?_
            rintro e w1 ⟨rfl, b1⟩
            have hbx1 := hbx.kept b1
            have B1 := andThen hbel b1
            clear c0 c1 c2 c3 c4 c5 c6 c7 c8 c9 c10 c11 b1 hbx hbel
            obtain ⟨c0, c1, c2, c3, c4, c5, c6, c7, c8, c9, c10, c11⟩ := hbx1.cells
            go_wp2_with fail
            refine (HZR1.out _).mono ?_
            rintro e w2 ⟨rfl, b2⟩
            have hbx2 := hbx1.kept b2
            have B2 := andThen B1 b2
            clear c0 c1 c2 c3 c4 c5 c6 c7 c8 c9 c10 c11 b2 hbx1 B1
            cases con with
            | true =>
              obtain ⟨c0, c1, c2, c3, c4, c5, c6, c7, c8, c9, c10, c11⟩ := hbx2.cells
              by_cases hf : fldE x nm l k = 0
              · have HN : Hid (chkN x nm l (12 - (k + 1)) = A) := by
                  show _ = _
                  rw [← HST.out, if_pos (by rw [HTG.out]; simpa using hf)]
                rw [hf] at HBD1
                clear HST HTG hf
                go_wp2_with fail
                refine (HBD1.out _ B2).mono ?_
                rintro e w3 ⟨rfl, b3⟩
                have hbx3 := hbx2.kept b3
                have B3 := andThen B2 b3
                clear c0 c1 c2 c3 c4 c5 c6 c7 c8 c9 c10 c11 b3 hbx2 B2
                go_wp2
                go_roundw
                case rel => exact ⟨k + 1, by omega, by omega, by go_num, HN.out, hbx3, B3⟩
                case measure => simp [intOf]; omega
              · have HN : Hid (fldE x nm l k = A) := by
                  show _ = _
                  rw [← HST.out, if_neg (by rw [HTG.out]; simpa using hf), HTG.out]
                  rfl
                have d1 : (fldE x nm l k != 0) = true := by rw [bne_iff_ne]; exact hf
                clear HST HTG hf
                generalize fldE x nm l k = z at *
                go_wp2_with fail
                refine (HBD1.out _ B2).mono ?_
                rintro e w3 ⟨rfl, b3⟩
                have B3 := andThen B2 b3
                clear c0 c1 c2 c3 c4 c5 c6 c7 c8 c9 c10 c11 b3 hbx2 B2
                go_wp2
                go_ret
                exact ⟨by rw [← HN.out]; rfl, B3⟩
            | false =>
              cases zz with
              | true =>
                have HN : Hid (chkN x nm l (12 - (k + 1)) = A) := by
                  show _ = _
                  rw [← HST.out, if_pos (by rw [HTG.out]; rfl)]
                clear HST HTG
                go_wp2
                go_roundw
                case rel => exact ⟨k + 1, by omega, by omega, by go_num, HN.out, hbx2, B2⟩
                case measure => simp [intOf]; omega
              | false =>
                have HN : Hid (33 = A) := by
                  show _ = _
                  rw [← HST.out, if_neg (by rw [HTG.out]; simp), HTG.out]
                  rfl
                clear HST HTG
                go_wp2
                go_ret
                exact ⟨by rw [← HN.out]; rfl, B2⟩
          · obtain rfl : k = 12 := by omega
            have HN : Hid (0 = A) := HAK.out
            clear HAK
            go_wp2
            go_ret
            exact ⟨by rw [← HN.out]; rfl, hbel⟩
    · have HC : Hid (chk x nm l = 31) := by show _ = _; unfold chk; rw [if_neg (by simp [hv.1, hv.2]), if_pos hk]
      rw [HC.out]
      obtain ⟨ao, cap, rfl, _⟩ := h.shape
      clear h hT hG
      unfold rv
      by_cases h1 : x.k < 1
      · go_enter Tryd.func21, Tryd.ntmps21
        go_wp2
        go_ret
        exact ⟨rfl, by go_grown⟩
      · have h2 : 7 < x.k := by omega
        go_enter Tryd.func21, Tryd.ntmps21
        go_wp2
        go_ret
        exact ⟨rfl, by go_grown⟩
  · have HC : Hid (chk x nm l = 3) := by show _ = _; unfold chk; rw [if_pos hv]
    rw [HC.out]
    obtain ⟨ao, cap, rfl, _⟩ := h.shape
    clear h hT hG
    unfold rv
    by_cases h1 : x.v < 1
    · go_enter Tryd.func21, Tryd.ntmps21
      go_wp2
      go_ret
      exact ⟨rfl, by go_grown⟩
    · have h2 : 3 < x.v := by omega
      go_enter Tryd.func21, Tryd.ntmps21
      go_wp2
      go_ret
      exact ⟨rfl, by go_grown⟩
end Go.Proofs.YtenhaogheilmoaaDoor
