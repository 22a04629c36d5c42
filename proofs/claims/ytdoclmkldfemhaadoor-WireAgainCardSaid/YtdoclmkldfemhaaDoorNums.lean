/-
  The reference's ReadInt; the law package's 'numbers' at each kind.
-/
import Derived.Test.YtdoclmkldfemhaaDoorRef2
import Derived.Test.YtdoclmkldfemhaaDoorRef3
import Derived.Test.YtdoclmkldfemhaaDoorSameAll
import Derived.Test.YtdoclmkldfemhaaDoorWalk8
import Derived.OpenShut
namespace Go.Proofs.YtdoclmkldfemhaaDoor
open Go Go.RowKit Go.ChangeShapes Go.WideShapes
open Wb

theorem uz_ref (x : Nat) : uz x = if x % 2 = 1 then -((x / 2 : Nat) : Int) - 1 else ((x / 2 : Nat) : Int) := by
  unfold uz
  by_cases h : x % 2 = 1
  · rw [if_pos h, if_neg (by omega)]
  · rw [if_neg h, if_pos (by omega)]
set_option maxHeartbeats 400000 in
theorem rri_any (v : Value) (l : List Nat) (p : Int) (w : World) (h : Bs w v l) (hlen : l.length ≤ 140737488355328) :
    Calls Tryd.prog 39 #[v, .int .i64 p] w fun e w' => e = .returned (.tuple #[.int .i64 (ri l p).1, .int .i64 (ri l p).2.1, .int .i64 ((ri l p).2.2 : Int)]) ∧ w = w' := by
  have hru := rru_any v l p w h hlen
  unfold tup3 at hru
  rcases Wn.ru_cases l p with ⟨e, he, he2, hr⟩ | ⟨q, x, n, rfl, hq, hn, hrd, hr⟩
  · have hri : ri l p = (0, 0, e) := by unfold ri; rw [hr]; simp [he]
    rw [hri]
    rw [hr] at hru
    have HRU : Hid (Calls Tryd.prog 35 #[v, .int .i64 p] w fun e' w' => e' = .returned (.tuple #[.int .u64 ((0 : Nat) : Int), .int .i64 0, .int .i64 (e : Int)]) ∧ w = w') := hru
    have d0 : ((e : Int) != 0) = true := by rw [bne_iff_ne]; omega
    clear hru hr hri
    go_enter Tryd.func39, Tryd.ntmps39
    go_wp2_with fail
    refine HRU.out.mono ?_
    rintro e w1 ⟨rfl, rfl⟩
    go_wp2
    go_ret3
    exact ⟨rfl, rfl⟩
  · have hri : ri l (q : Int) = (uz x, ((q + n : Nat) : Int), 0) := by unfold ri; rw [hr]; simp
    rw [hri]
    rw [hr] at hru
    have hx := (rd_back0 _ _ _ (ok_drop h.good q) hrd).2.2
    have HU : Hid (uz x = if x % 2 = 1 then -((x / 2 : Nat) : Int) - 1 else ((x / 2 : Nat) : Int)) := uz_ref x
    have HRU : Hid (Calls Tryd.prog 35 #[v, .int .i64 (q : Int)] w fun e' w' => e' = .returned (.tuple #[.int .u64 (x : Int), .int .i64 ((q + n : Nat) : Int), .int .i64 ((0 : Nat) : Int)]) ∧ w = w') := hru
    clear hru hr hri
    generalize uz x = z at *
    generalize q + n = t at *
    by_cases hodd : x % 2 = 1
    · have HZ : Hid (z = -((x / 2 : Nat) : Int) - 1) := by show _ = _; rw [HU.out, if_pos hodd]
      go_enter Tryd.func39, Tryd.ntmps39
      go_wp2_with fail
      refine HRU.out.mono ?_
      rintro e w1 ⟨rfl, rfl⟩
      go_wp2
      go_ret3
      rw [HZ.out]
      exact ⟨rfl, rfl⟩
    · have HZ : Hid (z = ((x / 2 : Nat) : Int)) := by show _ = _; rw [HU.out, if_neg hodd]
      go_enter Tryd.func39, Tryd.ntmps39
      go_wp2_with fail
      refine HRU.out.mono ?_
      rintro e w1 ⟨rfl, rfl⟩
      go_wp2
      go_ret3
      rw [HZ.out]
      exact ⟨rfl, rfl⟩

theorem box_cells (w : World) (c0 c1 c2 c3 c4 c5 c6 : Value) : ∀ w', Below (w.alloc (.cells #[c0, c1, c2, c3, c4, c5, c6] 27)).heap.size (w.alloc (.cells #[c0, c1, c2, c3, c4, c5, c6] 27)) w' →
    w'.cell? ⟨w.heap.size, 0, none⟩ = some c0 ∧ w'.cell? ⟨w.heap.size, 1, none⟩ = some c1 ∧ w'.cell? ⟨w.heap.size, 2, none⟩ = some c2 ∧ w'.cell? ⟨w.heap.size, 3, none⟩ = some c3 ∧ w'.cell? ⟨w.heap.size, 4, none⟩ = some c4 ∧ w'.cell? ⟨w.heap.size, 5, none⟩ = some c5 ∧ w'.cell? ⟨w.heap.size, 6, none⟩ = some c6 := by
  intro w' hb
  have h1 : (w.alloc (.cells #[c0, c1, c2, c3, c4, c5, c6] 27)).heap.size = w.heap.size + 1 := by
    show (w.heap.push _).size = _
    simp
  have h2 : (w.alloc (.cells #[c0, c1, c2, c3, c4, c5, c6] 27)).heap[w.heap.size]? = some (.cells #[c0, c1, c2, c3, c4, c5, c6] 27) := by
    show (w.heap.push _)[w.heap.size]? = _
    simp
  have h3 := (hb.block w.heap.size (by omega)).trans h2
  simp [World.cell?, h3]

set_option maxHeartbeats 1000000 in
theorem numbers_1 (u i a m : Int) (bv pv : Value) (w : World) (hu : (Lit.int .u64 u).wf = true) :
    Calls Tryd.prog 12 #[.agg #[.int .i64 1, .int .u64 u, .int .i64 i, .int .i64 a, .int .i64 m, bv, pv]] w fun e w' => e = .returned (.bool true) ∧ Below w.heap.size w w' := by
  have hb := bounds_u64 hu
  obtain ⟨U, rfl⟩ := Int.eq_ofNat_of_zero_le hb.1
  have hU : U < 18446744073709551616 := by omega
  have HX : Hid (∀ w', Below _ _ w' → _) := box_cells w (.int .i64 1) (.int .u64 (U : Int)) (.int .i64 i) (.int .i64 a) (.int .i64 m) bv pv
  clear hu hb
  generalize hL : Wn.uint U = L at *
  have HL : Hid (Wn.uint U = L) := hL
  clear hL
  go_enter Tryd.func12, Tryd.ntmps12
  go_wp2_with fail
  refine (uint_any U _ hU).mono ?_
  rw [HL.out]
  rintro e w1 ⟨v1, rfl, o1, b1⟩
  have B1 := andThen (up0 w _) b1
  obtain ⟨_, c1, _⟩ := HX.out w1 b1
  have ho1 := o1.bs
  obtain ⟨ao1, cap1, rfl, _⟩ := o1.bs.shape
  clear b1 HX o1
  go_wp2_with fail
  refine (ruint_any U _ hU).mono ?_
  rw [HL.out]
  rintro e w2 ⟨v2, rfl, o2, b2⟩
  have B2 := andThen B1 b2
  have ho1' := ho1.kept b2
  have ho2 := o2.bs
  obtain ⟨ao2, cap2, rfl, _⟩ := o2.bs.shape
  clear b2 B1 ho1 o2 c1
  go_wp2_with fail
  refine (same_ok _ _ L _ ho1' ho2).mono ?_
  rintro e w3 ⟨rfl, b3⟩
  have B3 := andThen B2 b3
  clear b3 B2 ho1' ho2
  go_wp2
  go_ret
  exact ⟨rfl, B3⟩
set_option maxHeartbeats 1000000 in
theorem numbers_3 (u i a m : Int) (bv pv : Value) (w : World) (hi : (Lit.int .i64 i).wf = true) :
    Calls Tryd.prog 12 #[.agg #[.int .i64 3, .int .u64 u, .int .i64 i, .int .i64 a, .int .i64 m, bv, pv]] w fun e w' => e = .returned (.bool true) ∧ Below w.heap.size w w' := by
  have hb := bounds_i64 hi
  have HX : Hid (∀ w', Below _ _ w' → _) := box_cells w (.int .i64 3) (.int .u64 u) (.int .i64 i) (.int .i64 a) (.int .i64 m) bv pv
  clear hi
  generalize hL : Wn.uint (zz i) = L at *
  have HL : Hid (Wn.uint (zz i) = L) := hL
  clear hL
  go_enter Tryd.func12, Tryd.ntmps12
  go_wp2_with fail
  refine (int_any i _ hb.1 hb.2).mono ?_
  rw [HL.out]
  rintro e w1 ⟨v1, rfl, o1, b1⟩
  have B1 := andThen (up0 w _) b1
  obtain ⟨_, _, c1, _⟩ := HX.out w1 b1
  have ho1 := o1.bs
  obtain ⟨ao1, cap1, rfl, _⟩ := o1.bs.shape
  clear b1 HX o1
  go_wp2_with fail
  refine (rint_any i _ hb.1 hb.2).mono ?_
  rw [HL.out]
  rintro e w2 ⟨v2, rfl, o2, b2⟩
  have B2 := andThen B1 b2
  have ho1' := ho1.kept b2
  have ho2 := o2.bs
  obtain ⟨ao2, cap2, rfl, _⟩ := o2.bs.shape
  clear b2 B1 ho1 o2 c1
  go_wp2_with fail
  refine (same_ok _ _ L _ ho1' ho2).mono ?_
  rintro e w3 ⟨rfl, b3⟩
  have B3 := andThen B2 b3
  clear b3 B2 ho1' ho2
  go_wp2
  go_ret
  exact ⟨rfl, B3⟩
theorem ru_small (l : List Nat) (p : Int) : (Wn.ru l p).2.2 ≤ 12 := by
  rcases Wn.ru_cases l p with ⟨e, _, he, hr⟩ | ⟨q, x, n, rfl, hq, hn, hrd, hr⟩
  · rw [hr]; exact he
  · rw [hr]; simp
theorem ri_small (l : List Nat) (p : Int) : (ri l p).2.2 ≤ 12 := by
  have := ru_small l p
  unfold ri
  split
  · exact this
  · simp
set_option maxHeartbeats 1000000 in
theorem numbers_2 (u i a m : Int) (bv pv : Value) (l : List Nat) (w : World) (h : Bs w bv l) (hlen : l.length ≤ 140737488355328) :
    Calls Tryd.prog 12 #[.agg #[.int .i64 2, .int .u64 u, .int .i64 i, .int .i64 a, .int .i64 m, bv, pv]] w fun e w' => e = .returned (.bool true) ∧ Below w.heap.size w w' := by
  have HB : Hid (∀ o, Bs (w.alloc o) bv l) := fun o => h.kept (up0 _ _)
  obtain ⟨ao, cap, rfl, _⟩ := h.shape
  have hE := ru_small l a
  have HV : Hid (∃ V E N, (Wn.ru l a).1 = V ∧ (Wn.ru l a).2.1 = E ∧ (Wn.ru l a).2.2 = N) := ⟨_, _, _, rfl, rfl, rfl⟩
  obtain ⟨V, E, N, h1, h2, h3⟩ := HV.out
  rw [h3] at hE
  have H1 : Hid ((Wn.ru l a).1 = V) := h1
  have H2 : Hid ((Wn.ru l a).2.1 = E) := h2
  have H3 : Hid ((Wn.ru l a).2.2 = N) := h3
  clear h HV h1 h2 h3
  go_enter Tryd.func12, Tryd.ntmps12
  go_wp2_with fail
  refine (readUint_any _ l a _ (HB.out _) hlen).mono ?_
  rw [H1.out, H2.out, H3.out]
  unfold tup3
  rintro e w1 ⟨rfl, rfl⟩
  go_wp2_with fail
  refine (rru_any _ l a _ (HB.out _) hlen).mono ?_
  rw [H1.out, H2.out, H3.out]
  unfold tup3
  rintro e w1 ⟨rfl, rfl⟩
  clear HB H1 H2 H3
  go_wp2_with fail
  refine (num_any (N : Int) _ (by omega) (by omega)).mono ?_
  rintro e w1 ⟨rfl, rfl⟩
  go_wp2
  go_ret
  exact ⟨rfl, up0 _ _⟩
set_option maxHeartbeats 1000000 in
theorem numbers_4 (u i a m : Int) (bv pv : Value) (l : List Nat) (w : World) (h : Bs w bv l) (hlen : l.length ≤ 140737488355328) :
    Calls Tryd.prog 12 #[.agg #[.int .i64 4, .int .u64 u, .int .i64 i, .int .i64 a, .int .i64 m, bv, pv]] w fun e w' => e = .returned (.bool true) ∧ Below w.heap.size w w' := by
  have HB : Hid (∀ o, Bs (w.alloc o) bv l) := fun o => h.kept (up0 _ _)
  obtain ⟨ao, cap, rfl, _⟩ := h.shape
  have hE := ri_small l a
  have HV : Hid (∃ V E N, (ri l a).1 = V ∧ (ri l a).2.1 = E ∧ (ri l a).2.2 = N) := ⟨_, _, _, rfl, rfl, rfl⟩
  obtain ⟨V, E, N, h1, h2, h3⟩ := HV.out
  rw [h3] at hE
  have H1 : Hid ((ri l a).1 = V) := h1
  have H2 : Hid ((ri l a).2.1 = E) := h2
  have H3 : Hid ((ri l a).2.2 = N) := h3
  clear h HV h1 h2 h3
  go_enter Tryd.func12, Tryd.ntmps12
  go_wp2_with fail
  refine (readInt_any _ l a _ (HB.out _) hlen).mono ?_
  rw [H1.out, H2.out, H3.out]
  rintro e w1 ⟨rfl, rfl⟩
  go_wp2_with fail
  refine (rri_any _ l a _ (HB.out _) hlen).mono ?_
  rw [H1.out, H2.out, H3.out]
  rintro e w1 ⟨rfl, rfl⟩
  clear HB H1 H2 H3
  go_wp2_with fail
  refine (num_any (N : Int) _ (by omega) (by omega)).mono ?_
  rintro e w1 ⟨rfl, rfl⟩
  go_wp2
  go_ret
  exact ⟨rfl, up0 _ _⟩
end Go.Proofs.YtdoclmkldfemhaaDoor
