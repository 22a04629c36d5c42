/-
  The reference's Alike and Same.
-/
import Derived.Test.YtggenlnknnhjgaaRwh
import Derived.Deep.QuietTactic
import Derived.BigQuiet
import Derived.WalkSmall
namespace Go.Proofs.Ytggenlnknnhjgaa
open Go Go.RowKit
open Wb

set_option maxHeartbeats 400000 in
theorem ralike_any (va vb : Value) (a b : List Nat) (w : World) (ha : Bs w va a) (hb : Bs w vb b) :
    Calls Try.prog 22 #[va, vb] w fun e w' => e = .returned (.bool (decide (a = b))) ∧ Below w.heap.size w w' := by
  obtain ⟨aoa, capa, rfl, hla, hma, hna, hca⟩ := ha.shape
  obtain ⟨aob, capb, rfl, hlb, hmb, hnb, hcb⟩ := hb.shape
  unfold maxLen at hma hmb
  have ga := ha.good
  have gb := hb.good
  by_cases hlen : a.length = b.length
  · have HL : Hid (a.length = b.length) := hlen
    have d0 : ((a.length : Int) != (b.length : Int)) = false := by simp [hlen]
    clear hlen
    go_enter Try.func22, Try.ntmps22
    go_wp2
    go_loopw [5] (fun i wr => ∃ k : Nat, k ≤ a.length ∧ i = .int .i64 k ∧ a.take k = b.take k ∧ Below w.heap.size w wr) (fun i _ => a.length - (intOf i).toNat)
    case atStart => exact ⟨0, Nat.zero_le _, rfl, by simp, Below.refl _ _⟩
    case round =>
      obtain ⟨k, hk, rfl, heq, hbel⟩ := hrel
      have HQ : Hid (a.take k = b.take k) := heq
      clear heq
      by_cases hlt : k < a.length
      · have hlt' : k < b.length := by rw [← HL.out]; exact hlt
        obtain ⟨b1, off1, rfl, hcell1⟩ := hca (List.ne_nil_of_length_pos (by omega))
        obtain ⟨b2, off2, rfl, hcell2⟩ := hcb (List.ne_nil_of_length_pos (by omega))
        have q1 := (hbel.cell (p := ⟨b1, off1 + k, none⟩) (World.block_lt_of_cell? _ _ (hcell1 k hlt))).trans (hcell1 k hlt)
        have q2 := (hbel.cell (p := ⟨b2, off2 + k, none⟩) (World.block_lt_of_cell? _ _ (hcell2 k hlt'))).trans (hcell2 k hlt')
        clear hca hcb hcell1 hcell2 hna hnb ha hb
        by_cases hxy : a[k] = b[k]
        · have HS : Hid (a.take (k + 1) = b.take (k + 1)) := by
            show _ = _
            rw [List.take_succ_eq_append_getElem hlt, List.take_succ_eq_append_getElem hlt', HQ.out, hxy]
          rw [hxy] at q1
          generalize b[k] = y at *
          have d1 : ((y : Int) != (y : Int)) = false := by simp
          clear hxy
          go_wp2
          go_quiet (fail)
          go_wp2
          go_roundw
          case rel => exact ⟨k + 1, by omega, by go_num, HS.out, below_drewN hbel _⟩
          case measure => simp [intOf]; omega
        · have HN : Hid (¬ a = b) := by
            intro e
            subst e
            exact hxy rfl
          have d1 : ((a[k] : Int) != (b[k] : Int)) = true := by rw [bne_iff_ne]; omega
          generalize a[k] = x at *
          generalize b[k] = y at *
          clear hxy
          go_wp2
          go_quiet (fail)
          go_wp2
          go_ret
          exact ⟨by rw [decide_eq_false HN.out]; rfl, below_drewN hbel _⟩
      · have HE : Hid (a = b) := by
          have h := HQ.out
          rw [List.take_of_length_le (by omega), List.take_of_length_le (by rw [← HL.out]; omega)] at h
          exact h
        go_wp2
        go_ret
        exact ⟨by rw [decide_eq_true HE.out]; rfl, hbel⟩
  · have HN : Hid (¬ a = b) := fun e => hlen (by rw [e])
    have d0 : ((a.length : Int) != (b.length : Int)) = true := by rw [bne_iff_ne]; omega
    clear hlen hca hcb
    go_enter Try.func22, Try.ntmps22
    go_wp2
    go_ret
    exact ⟨by rw [decide_eq_false HN.out]; rfl, Below.refl _ _⟩

/-- do two records hold the same? -/
def recEq (x y : Nums) (nm nm2 : ByteArray) (l l2 : List Nat) : Bool := decide (x = y) && (nm.toList == nm2.toList) && decide (l = l2)
theorem nums_eq (x y : Nums) (hv : x.v = y.v) (h : ∀ t, 1 ≤ t → t ≤ 9 → x.tag t = y.tag t) : x = y := by
  have h1 : x.k = y.k := h 1 (by omega) (by omega)
  have h2 : x.s = y.s := h 2 (by omega) (by omega)
  have h3 : x.p = y.p := h 3 (by omega) (by omega)
  have h4 : x.t = y.t := h 4 (by omega) (by omega)
  have h5 : x.a = y.a := h 5 (by omega) (by omega)
  have h6 : x.l = y.l := h 6 (by omega) (by omega)
  have h7 : x.c = y.c := h 7 (by omega) (by omega)
  have h8 : x.n = y.n := h 8 (by omega) (by omega)
  have h9 : x.i = y.i := h 9 (by omega) (by omega)
  cases x
  cases y
  simp_all
set_option maxRecDepth 100000 in
set_option maxHeartbeats 2000000 in
theorem refsame_any (x y : Nums) (nm nm2 : ByteArray) (d d2 : Value) (l l2 : List Nat) (w : World) (h : Bs w d l) (h2 : Bs w d2 l2) :
    Calls Try.prog 18 #[rv x nm d, rv y nm2 d2] w fun e w' => e = .returned (.bool (recEq x y nm nm2 l l2)) ∧ Below w.heap.size w w' := by
  have HB : Hid (∀ w', Below w.heap.size w w' → Bs w' d l) := fun w' hb => h.kept hb
  have HB2 : Hid (∀ w', Below w.heap.size w w' → Bs w' d2 l2) := fun w' hb => h2.kept hb
  obtain ⟨ao, cap, rfl, _⟩ := h.shape
  obtain ⟨ao2, cap2, rfl, _⟩ := h2.shape
  have HN1 : Hid (∀ (t : Nat) (w' : World), 1 ≤ t → t ≤ 9 → Calls Try.prog 21 #[.agg #[.int .i64 x.v, .int .i64 x.k, .int .i64 x.s, .int .i64 x.p, .int .i64 x.t, .int .i64 x.a, .int .i64 x.l, .int .i64 x.c, .int .i64 x.n, .int .i64 x.i, .string nm, .slice ao l.length cap], .int .i64 (t : Int)] w' fun e w'' => e = .returned (.int .i64 (x.tag t)) ∧ Below w'.heap.size w' w'') := fun t w' a b => number_any x nm ao l.length cap t w' a b
  have HN2 : Hid (∀ (t : Nat) (w' : World), 1 ≤ t → t ≤ 9 → Calls Try.prog 21 #[.agg #[.int .i64 y.v, .int .i64 y.k, .int .i64 y.s, .int .i64 y.p, .int .i64 y.t, .int .i64 y.a, .int .i64 y.l, .int .i64 y.c, .int .i64 y.n, .int .i64 y.i, .string nm2, .slice ao2 l2.length cap2], .int .i64 (t : Int)] w' fun e w'' => e = .returned (.int .i64 (y.tag t)) ∧ Below w'.heap.size w' w'') := fun t w' a b => number_any y nm2 ao2 l2.length cap2 t w' a b
  have HX1 : Hid (∀ o1 o2, (((w.alloc o1).alloc o2).heap[w.heap.size]? = some o1) ∧ (((w.alloc o1).alloc o2).heap[w.heap.size + 1]? = some o2)) := fun o1 o2 => ⟨(heap2 w o1 o2).1, (heap2 w o1 o2).2.1⟩
  clear h h2
  unfold rv
  go_enter Try.func18, Try.ntmps18
  go_wp2
  go_loopw [5] (fun i wr => ∃ k : Nat, 1 ≤ k ∧ k ≤ 10 ∧ i = .int .i64 (k : Int) ∧ (∀ t, 1 ≤ t → t < k → x.tag t = y.tag t) ∧ Box wr w.heap.size x nm (.slice ao l.length cap) ∧ Box wr (w.heap.size + 1) y nm2 (.slice ao2 l2.length cap2) ∧ Below w.heap.size w wr) (fun i _ => 10 - (intOf i).toNat)
  case atStart => exact ⟨1, by omega, by omega, rfl, fun t a b => by omega, (HX1.out _ _).1, (HX1.out _ _).2, up (up0 _ _) _⟩
  case round =>
    obtain ⟨k, hk1, hk2, rfl, heq, hb1, hb2, hbel⟩ := hrel
    have HEQ : Hid (∀ t, 1 ≤ t → t < k → x.tag t = y.tag t) := heq
    have HBX1 : Hid (∀ w', Below wr.heap.size wr w' → Box w' w.heap.size x nm (.slice ao l.length cap)) := fun w' hb => hb1.kept hb
    have HBX2 : Hid (∀ w', Below wr.heap.size wr w' → Box w' (w.heap.size + 1) y nm2 (.slice ao2 l2.length cap2)) := fun w' hb => hb2.kept hb
    clear heq HX1
    by_cases hlt : k ≤ 9
    · obtain ⟨c0, c1, c2, c3, c4, c5, c6, c7, c8, c9, c10, c11⟩ := hb1.cells
      clear hb1 hb2
      have HXT : Hid (x.tag k = y.tag k → ∀ t, 1 ≤ t → t < k + 1 → x.tag t = y.tag t) := fun e t a b => by
        by_cases ht : t < k
        · exact HEQ.out t a ht
        · obtain rfl : t = k := by omega
          exact e
      have HNE : Hid (x.tag k ≠ y.tag k → recEq x y nm nm2 l l2 = false) := fun hne => by
        unfold recEq
        rw [decide_eq_false (fun e => hne (by rw [e])), Bool.false_and, Bool.false_and]
      have HC1 : Hid (∀ w' : World, Calls Try.prog 21 #[.agg #[.int .i64 x.v, .int .i64 x.k, .int .i64 x.s, .int .i64 x.p, .int .i64 x.t, .int .i64 x.a, .int .i64 x.l, .int .i64 x.c, .int .i64 x.n, .int .i64 x.i, .string nm, .slice ao l.length cap], .int .i64 (k : Int)] w' fun e w'' => e = .returned (.int .i64 (x.tag k)) ∧ Below w'.heap.size w' w'') := fun w' => HN1.out k w' hk1 hlt
      have HC2 : Hid (∀ w' : World, Calls Try.prog 21 #[.agg #[.int .i64 y.v, .int .i64 y.k, .int .i64 y.s, .int .i64 y.p, .int .i64 y.t, .int .i64 y.a, .int .i64 y.l, .int .i64 y.c, .int .i64 y.n, .int .i64 y.i, .string nm2, .slice ao2 l2.length cap2], .int .i64 (k : Int)] w' fun e w'' => e = .returned (.int .i64 (y.tag k)) ∧ Below w'.heap.size w' w'') := fun w' => HN2.out k w' hk1 hlt
      clear HN1 HN2
      generalize x.tag k = tx at *
      generalize y.tag k = ty at *
      go_wp2_with fail
      refine (HC1.out _).mono ?_
      rintro e w2 ⟨rfl, b2⟩
      obtain ⟨d0, d1, d2', d3, d4, d5, d6, d7, d8, d9, d10, d11⟩ := (HBX2.out _ b2).cells
      clear c0 c1 c2 c3 c4 c5 c6 c7 c8 c9 c10 c11
      go_wp2_with fail
      refine (HC2.out _).mono ?_
      rintro e w3 ⟨rfl, b3⟩
      have B3 : Below wr.heap.size wr w3 := andThen b2 b3
      clear b2 b3 d0 d1 d2' d3 d4 d5 d6 d7 d8 d9 d10 d11 HC1 HC2
      by_cases he : tx = ty
      · subst he
        have HI : Hid (∀ t, 1 ≤ t → t < k + 1 → x.tag t = y.tag t) := HXT.out rfl
        have HRR : Hid (Box w3 w.heap.size x nm (.slice ao l.length cap) ∧ Box w3 (w.heap.size + 1) y nm2 (.slice ao2 l2.length cap2) ∧ Below w.heap.size w w3) := ⟨HBX1.out _ B3, HBX2.out _ B3, andThen hbel B3⟩
        clear HXT HNE HBX1 HBX2
        go_wp2
        go_roundw
        case rel => exact ⟨k + 1, by omega, by omega, by go_num, HI.out, HRR.out.1, HRR.out.2.1, HRR.out.2.2⟩
        case measure => simp [intOf]; omega
      · have HF : Hid (recEq x y nm nm2 l l2 = false) := HNE.out he
        have tn : (tx != ty) = true := by rw [bne_iff_ne]; exact he
        clear HXT HNE he
        go_wp2
        go_ret
        exact ⟨by rw [HF.out]; rfl, andThen hbel B3⟩
    · obtain rfl : k = 10 := by omega
      obtain ⟨c0, c1, c2, c3, c4, c5, c6, c7, c8, c9, c10, c11⟩ := hb1.cells
      obtain ⟨e0, e1, e2, e3, e4, e5, e6, e7, e8, e9, e10, e11⟩ := hb2.cells
      have HAL : Hid (Calls Try.prog 22 #[.slice ao l.length cap, .slice ao2 l2.length cap2] wr fun e w' => e = .returned (.bool (decide (l = l2))) ∧ Below wr.heap.size wr w') := ralike_any _ _ l l2 wr (HB.out _ hbel) (HB2.out _ hbel)
      have HXY : Hid (x.v = y.v → x = y) := fun hv => nums_eq x y hv (fun t a b => HEQ.out t a (by omega))
      clear hb1 hb2 c1 c2 c3 c4 c5 c6 c7 c8 c9 e1 e2 e3 e4 e5 e6 e7 e8 e9 HN1 HN2 HBX1 HBX2 HEQ
      by_cases hv : x.v = y.v
      · have HR1 : Hid (recEq x y nm nm2 l l2 = ((nm.toList == nm2.toList) && decide (l = l2))) := by show _ = _; unfold recEq; rw [decide_eq_true (HXY.out hv), Bool.true_and]
        have tv : (x.v == y.v) = true := by rw [hv]; exact beq_self_eq_true _
        cases hn : (nm.toList == nm2.toList) with
        | true =>
          have HR2 : Hid (recEq x y nm nm2 l l2 = decide (l = l2)) := by show _ = _; rw [HR1.out, hn, Bool.true_and]
          clear hv HXY HR1
          go_wp2_with fail
          refine HAL.out.mono ?_
          rintro e w2 ⟨rfl, b2⟩
          go_wp2
          go_ret
          exact ⟨by rw [HR2.out]; rfl, andThen hbel b2⟩
        | false =>
          have HR2 : Hid (recEq x y nm nm2 l l2 = false) := by show _ = _; rw [HR1.out, hn, Bool.false_and]
          clear hv HXY HR1 HAL
          go_wp2
          go_ret
          exact ⟨by rw [HR2.out]; rfl, hbel⟩
      · have HR2 : Hid (recEq x y nm nm2 l l2 = false) := by show _ = _; unfold recEq; rw [decide_eq_false (fun e => hv (by rw [e])), Bool.false_and, Bool.false_and]
        have tv : (x.v == y.v) = false := by rw [beq_eq_false_iff_ne]; exact hv
        clear hv HXY HAL
        go_wp2
        go_ret
        exact ⟨by rw [HR2.out]; rfl, hbel⟩
end Go.Proofs.Ytggenlnknnhjgaa
