import Derived.Deep.RegionHeld
import Derived.Test.YtfkpdmmgjgchjaaDoorQG1
import Derived.Test.YtfkpdmmgjgchjaaDoorQK2
/-
  RecordPlays: RecordLooks' walk.
-/
namespace Go.Proofs.YtfkpdmmgjgchjaaDoor
open Go Go.RowKit
open Wb

/-- a row of bytes that may be written -/
def U8Row (w : World) (g n : Nat) : Prop := ∃ cur, w.heap[g]? = some (.cells cur 5 (0, 0)) ∧ ∀ j, j < n → ∃ z, cur[j]? = some (.int .u8 z)
theorem U8Row.cell {w : World} {g n : Nat} (h : U8Row w g n) (j : Nat) (hj : j < n) : ∃ z, w.cell? ⟨g, j, none⟩ = some (.int .u8 z) ∧ w.frozen? ⟨g, j, none⟩ = false := by
  obtain ⟨cur, h1, h2⟩ := h
  obtain ⟨z, hz⟩ := h2 j hj
  exact ⟨z, by simp [World.cell?, h1, hz], by simp [World.frozen?, h1]⟩
theorem U8Row.set {w : World} {g n : Nat} (h : U8Row w g n) (k : Nat) (z : Int) : U8Row (w.setCell ⟨g, k, none⟩ (.int .u8 z)) g n := by
  obtain ⟨cur, h1, h2⟩ := h
  refine ⟨cur.setIfInBounds k (.int .u8 z), by simp [World.setCell, Array.getElem?_modify, h1], fun j hj => ?_⟩
  obtain ⟨y, hy⟩ := h2 j hj
  by_cases e : k = j
  · subst e
    exact ⟨z, by rw [Array.getElem?_setIfInBounds_self, if_pos (Array.getElem?_eq_some_iff.1 hy).1]⟩
  · exact ⟨y, by rw [Array.getElem?_setIfInBounds_ne e]; exact hy⟩
theorem own_u8 {B : Nat} {w : World} {ao : Option Addr} {cap : Nat} {l : List Nat} (h : Own B w (.slice ao l.length cap) l) (hne : l ≠ []) : ∃ g, ao = some ⟨g, 0, none⟩ ∧ B ≤ g ∧ U8Row w g l.length := by
  rcases h.row.2 with ⟨_, h1⟩ | ⟨g, cap', cur, e, hb, hg, h1, h2, h3, h4⟩
  · exact absurd (List.eq_nil_of_length_eq_zero h1) hne
  · simp only [Value.slice.injEq] at e
    refine ⟨g, e.1, hb, cur, hg, fun j hj => ⟨(l[j] : Int), ?_⟩⟩
    have h5 := bv_get l j hj
    rw [← h4, List.getElem?_take, if_pos (by omega)] at h5
    rw [← Array.getElem?_toList]
    exact h5
set_option maxRecDepth 100000 in
set_option maxHeartbeats 4000000 in
theorem rlooks_any (x y : Nums) (nm nm2 : ByteArray) (d d2 : Value) (l l2 : List Nat) (w : World) (h : Bs w d l) (h2 : Bs w d2 l2) (hlen : l.length ≤ 140737488355000) :
    Calls Tryd.prog 44 #[rv x nm d, rv y nm2 d2] w fun e w' => e = .returned (.bool true) ∧ Below w.heap.size w w' := by
  have HB : Hid (∀ w', Below w.heap.size w w' → Bs w' d l) := fun w' hb => h.kept hb
  have HB2 : Hid (∀ w', Below w.heap.size w w' → Bs w' d2 l2) := fun w' hb => h2.kept hb
  obtain ⟨ao, cap, rfl, _⟩ := h.shape
  obtain ⟨ao2, cap2, rfl, _⟩ := h2.shape
  have HX1 : Hid (∀ o1 o2, (((w.alloc o1).alloc o2).heap[w.heap.size]? = some o1) ∧ (((w.alloc o1).alloc o2).heap[w.heap.size + 1]? = some o2) ∧ ((w.alloc o1).alloc o2).heap.size = w.heap.size + 2 ∧ Below w.heap.size w ((w.alloc o1).alloc o2)) := fun o1 o2 => ⟨by rw [heap_old _ _ _ (by rw [heap_one]; omega)]; exact heap_new _ _, by rw [← heap_one w o1]; exact heap_new _ _, by rw [heap_one, heap_one], up (up0 _ _) _⟩
  clear h h2
  unfold rv
  go_enter Tryd.func44, Tryd.ntmps44
  go_wp2_with fail
  refine (refclone_any _ _ _ l _ (HB.out _ (HX1.out _ _).2.2.2) hlen).mono ?_
  rintro e w3 ⟨d3, rfl, ho3, b3⟩
  unfold rv
  obtain ⟨ao3, cap3, rfl, _⟩ := ho3.bs.shape
  have HK0 : Hid (Box (w3.alloc (.cells #[.int .i64 x.v, .int .i64 x.k, .int .i64 x.s, .int .i64 x.p, .int .i64 x.t, .int .i64 x.a, .int .i64 x.l, .int .i64 x.c, .int .i64 x.n, .int .i64 x.i, .string nm, .slice ao3 l.length cap3] 24)) w.heap.size x nm (.slice ao l.length cap) ∧ Box (w3.alloc (.cells #[.int .i64 x.v, .int .i64 x.k, .int .i64 x.s, .int .i64 x.p, .int .i64 x.t, .int .i64 x.a, .int .i64 x.l, .int .i64 x.c, .int .i64 x.n, .int .i64 x.i, .string nm, .slice ao3 l.length cap3] 24)) (w.heap.size + 1) y nm2 (.slice ao2 l2.length cap2) ∧ Box (w3.alloc (.cells #[.int .i64 x.v, .int .i64 x.k, .int .i64 x.s, .int .i64 x.p, .int .i64 x.t, .int .i64 x.a, .int .i64 x.l, .int .i64 x.c, .int .i64 x.n, .int .i64 x.i, .string nm, .slice ao3 l.length cap3] 24)) w3.heap.size x nm (.slice ao3 l.length cap3) ∧ Bs (w3.alloc (.cells #[.int .i64 x.v, .int .i64 x.k, .int .i64 x.s, .int .i64 x.p, .int .i64 x.t, .int .i64 x.a, .int .i64 x.l, .int .i64 x.c, .int .i64 x.n, .int .i64 x.i, .string nm, .slice ao3 l.length cap3] 24)) (.slice ao3 l.length cap3) l ∧ Below w.heap.size w (w3.alloc (.cells #[.int .i64 x.v, .int .i64 x.k, .int .i64 x.s, .int .i64 x.p, .int .i64 x.t, .int .i64 x.a, .int .i64 x.l, .int .i64 x.c, .int .i64 x.n, .int .i64 x.i, .string nm, .slice ao3 l.length cap3] 24)) ∧ w.heap.size + 2 ≤ w3.heap.size ∧ (w3.alloc (.cells #[.int .i64 x.v, .int .i64 x.k, .int .i64 x.s, .int .i64 x.p, .int .i64 x.t, .int .i64 x.a, .int .i64 x.l, .int .i64 x.c, .int .i64 x.n, .int .i64 x.i, .string nm, .slice ao3 l.length cap3] 24)).heap.size = w3.heap.size + 1) :=
    ⟨Box.kept (Box.kept (HX1.out _ _).1 b3) (up0 _ _), Box.kept (Box.kept (HX1.out _ _).2.1 b3) (up0 _ _), heap_new _ _, ho3.bs.alloc _, up (andThen (HX1.out _ _).2.2.2 b3) _, by have := b3.size; rw [(HX1.out _ _).2.2.1] at this; exact this, heap_one _ _⟩
  clear ho3 b3 HX1
  go_wp2
  have HK0' := HK0.out
  clear HK0
  generalize w3.alloc (.cells #[.int .i64 x.v, .int .i64 x.k, .int .i64 x.s, .int .i64 x.p, .int .i64 x.t, .int .i64 x.a, .int .i64 x.l, .int .i64 x.c, .int .i64 x.n, .int .i64 x.i, .string nm, .slice ao3 l.length cap3] 24) = W2 at HK0' ⊢
  generalize w3.heap.size = g5 at HK0' ⊢
  obtain ⟨hx1, hx2, hx3, hb3, hbw, hg5, hsz⟩ := HK0'
  have HBX : Hid (∀ w', Below W2.heap.size W2 w' → Box w' w.heap.size x nm (.slice ao l.length cap) ∧ Box w' (w.heap.size + 1) y nm2 (.slice ao2 l2.length cap2) ∧ Box w' g5 x nm (.slice ao3 l.length cap3)) := fun w' hb => ⟨hx1.kept hb, hx2.kept hb, hx3.kept hb⟩
  have HBS : Hid (∀ w', Below W2.heap.size W2 w' → Bs w' (.slice ao l.length cap) l ∧ Bs w' (.slice ao2 l2.length cap2) l2 ∧ Bs w' (.slice ao3 l.length cap3) l) := fun w' hb => ⟨HB.out _ (andThen hbw hb), HB2.out _ (andThen hbw hb), hb3.kept hb⟩
  have HBW : Hid (∀ w', Below W2.heap.size W2 w' → Below w.heap.size w w') := fun w' hb => andThen hbw hb
  have HG1 : Hid (∀ (x y : Nums) (nm nm2 : ByteArray) (d d2 : Value) (l l2 : List Nat) (w' : World), Bs w' d l → Bs w' d2 l2 → Below W2.heap.size W2 w' → Calls Tryd.prog 48 #[rv x nm d, rv y nm2 d2] w' fun e w'' => e = .returned (.bool (recEq x y nm nm2 l l2)) ∧ Below W2.heap.size W2 w'') := fun x y nm nm2 d d2 l l2 w' a b hb => (rsame_any x y nm nm2 d d2 l l2 w' a b).mono fun e w'' ⟨he, hk⟩ => ⟨he, andThen hb hk⟩
  have HG2 : Hid (∀ (x y : Nums) (nm nm2 : ByteArray) (d d2 : Value) (l l2 : List Nat) (w' : World), Bs w' d l → Bs w' d2 l2 → Below W2.heap.size W2 w' → Calls Tryd.prog 14 #[rv x nm d, rv y nm2 d2] w' fun e w'' => e = .returned (.bool (recEq x y nm nm2 l l2)) ∧ Below W2.heap.size W2 w'') := fun x y nm nm2 d d2 l l2 w' a b hb => (refsame_any x y nm nm2 d d2 l l2 w' a b).mono fun e w'' ⟨he, hk⟩ => ⟨he, andThen hb hk⟩
  clear hx1 hx2 hx3 hb3 hbw HB HB2
  have dc : (recEq x y nm nm2 l l2 != recEq x y nm nm2 l l2) = false := by cases recEq x y nm nm2 l l2 <;> rfl
  have rx := recEq_self x nm l
  have ry := recEq_self y nm2 l2
  go_region_held (fun w' => (w'.cell? ⟨w.heap.size, 0, none⟩ = some (.int .i64 x.v) ∧ w'.cell? ⟨w.heap.size, 1, none⟩ = some (.int .i64 x.k) ∧ w'.cell? ⟨w.heap.size, 2, none⟩ = some (.int .i64 x.s) ∧ w'.cell? ⟨w.heap.size, 3, none⟩ = some (.int .i64 x.p) ∧ w'.cell? ⟨w.heap.size, 4, none⟩ = some (.int .i64 x.t) ∧ w'.cell? ⟨w.heap.size, 5, none⟩ = some (.int .i64 x.a) ∧ w'.cell? ⟨w.heap.size, 6, none⟩ = some (.int .i64 x.l) ∧ w'.cell? ⟨w.heap.size, 7, none⟩ = some (.int .i64 x.c) ∧ w'.cell? ⟨w.heap.size, 8, none⟩ = some (.int .i64 x.n) ∧ w'.cell? ⟨w.heap.size, 9, none⟩ = some (.int .i64 x.i) ∧ w'.cell? ⟨w.heap.size, 10, none⟩ = some (.string nm) ∧ w'.cell? ⟨w.heap.size, 11, none⟩ = some (.slice ao l.length cap)) ∧ (w'.cell? ⟨w.heap.size + 1, 0, none⟩ = some (.int .i64 y.v) ∧ w'.cell? ⟨w.heap.size + 1, 1, none⟩ = some (.int .i64 y.k) ∧ w'.cell? ⟨w.heap.size + 1, 2, none⟩ = some (.int .i64 y.s) ∧ w'.cell? ⟨w.heap.size + 1, 3, none⟩ = some (.int .i64 y.p) ∧ w'.cell? ⟨w.heap.size + 1, 4, none⟩ = some (.int .i64 y.t) ∧ w'.cell? ⟨w.heap.size + 1, 5, none⟩ = some (.int .i64 y.a) ∧ w'.cell? ⟨w.heap.size + 1, 6, none⟩ = some (.int .i64 y.l) ∧ w'.cell? ⟨w.heap.size + 1, 7, none⟩ = some (.int .i64 y.c) ∧ w'.cell? ⟨w.heap.size + 1, 8, none⟩ = some (.int .i64 y.n) ∧ w'.cell? ⟨w.heap.size + 1, 9, none⟩ = some (.int .i64 y.i) ∧ w'.cell? ⟨w.heap.size + 1, 10, none⟩ = some (.string nm2) ∧ w'.cell? ⟨w.heap.size + 1, 11, none⟩ = some (.slice ao2 l2.length cap2)) ∧ Below W2.heap.size W2 w') (exact ⟨(HBX.out _ (by repeat (first | assumption | exact Below.refl _ _ | refine Below.drew ?_))).1.cells, (HBX.out _ (by repeat (first | assumption | exact Below.refl _ _ | refine Below.drew ?_))).2.1.cells, by repeat (first | assumption | exact Below.refl _ _ | refine Below.drew ?_)⟩) (first
    | (go_at_call 48; refine (HG1.out _ _ _ _ _ _ _ _ _ (by first | exact (HBS.out _ (by first | assumption | exact Below.drew (Below.refl _ _))).1 | exact (HBS.out _ (by first | assumption | exact Below.drew (Below.refl _ _))).2.1) (by first | exact (HBS.out _ (by first | assumption | exact Below.drew (Below.refl _ _))).1 | exact (HBS.out _ (by first | assumption | exact Below.drew (Below.refl _ _))).2.1) (by first | assumption | exact Below.drew (Below.refl _ _))).mono ?_; rintro e w5 ⟨rfl, hk5⟩)
    | (go_at_call 14; refine (HG2.out _ _ _ _ _ _ _ _ _ (by first | exact (HBS.out _ (by first | assumption | exact Below.drew (Below.refl _ _))).1 | exact (HBS.out _ (by first | assumption | exact Below.drew (Below.refl _ _))).2.1) (by first | exact (HBS.out _ (by first | assumption | exact Below.drew (Below.refl _ _))).1 | exact (HBS.out _ (by first | assumption | exact Below.drew (Below.refl _ _))).2.1) (by first | assumption | exact Below.drew (Below.refl _ _))).mono ?_; rintro e w5 ⟨rfl, hk5⟩))
  have hk : Below W2.heap.size W2 w5 := hk5
  clear dc rx ry
  have HM : Hid (∀ w', Below W2.heap.size W2 w' → Calls Tryd.prog 46 #[rv x nm (.slice ao l.length cap)] w' fun e w'' => ∃ ao', ∃ cap' : Nat, e = .returned (rv x nm (.slice ao' l.length cap')) ∧ Own w'.heap.size w'' (.slice ao' l.length cap') l ∧ Below w'.heap.size w' w'') := fun w' hb => (rclone_any x nm _ l w' (HBS.out _ hb).1 hlen).mono fun e w'' ⟨d', he, ho, hb'⟩ => by
    obtain ⟨ao', cap', rfl, _⟩ := ho.bs.shape
    exact ⟨ao', cap', he, ho, hb'⟩
  obtain ⟨c0, c1, c2, c3, c4, c5, c6, c7, c8, c9, c10, c11⟩ := (HBX.out _ hk).1.cells
  go_wp2_with fail
  refine (HM.out _ hk).mono ?_
  rintro e w6 ⟨ao6, cap6, rfl, ho6, b6⟩
  unfold rv
  clear c0 c1 c2 c3 c4 c5 c6 c7 c8 c9 c10 c11
  have k6 : Below W2.heap.size W2 w6 := andThen hk b6
  have HW6 : Hid (Below W2.heap.size W2 (w6.alloc (.cells #[.int .i64 x.v, .int .i64 x.k, .int .i64 x.s, .int .i64 x.p, .int .i64 x.t, .int .i64 x.a, .int .i64 x.l, .int .i64 x.c, .int .i64 x.n, .int .i64 x.i, .string nm, .slice ao6 l.length cap6] 24)) ∧ Box (w6.alloc (.cells #[.int .i64 x.v, .int .i64 x.k, .int .i64 x.s, .int .i64 x.p, .int .i64 x.t, .int .i64 x.a, .int .i64 x.l, .int .i64 x.c, .int .i64 x.n, .int .i64 x.i, .string nm, .slice ao6 l.length cap6] 24)) w6.heap.size x nm (.slice ao6 l.length cap6) ∧ Own w5.heap.size (w6.alloc (.cells #[.int .i64 x.v, .int .i64 x.k, .int .i64 x.s, .int .i64 x.p, .int .i64 x.t, .int .i64 x.a, .int .i64 x.l, .int .i64 x.c, .int .i64 x.n, .int .i64 x.i, .string nm, .slice ao6 l.length cap6] 24)) (.slice ao6 l.length cap6) l ∧ (∀ g, ao6 = some ⟨g, 0, none⟩ → l ≠ [] → g < w6.heap.size)) := ⟨up k6 _, heap_new _ _, ho6.alloc _, fun g hg hne => by
    rcases ho6.shape with ⟨_, h⟩ | ⟨g', cap', e, _, hlt, _⟩
    · exact absurd h hne
    · simp only [Value.slice.injEq] at e
      rw [hg] at e
      have := e.1
      simp at this
      omega⟩
  obtain ⟨c0, c1, c2, c3, c4, c5, c6, c7, c8, c9, c10, c11⟩ := (HBX.out _ HW6.out.1).1.cells
  go_wp2_with fail
  refine (refsame_any _ _ _ _ _ _ l l _ HW6.out.2.2.1.bs (HBS.out _ HW6.out.1).1).mono ?_
  rintro e w7 ⟨rfl, b7⟩
  clear c0 c1 c2 c3 c4 c5 c6 c7 c8 c9 c10 c11
  have rx := recEq_self x nm l
  have k7 : Below W2.heap.size W2 w7 := andThen HW6.out.1 b7
  have HB7 : Hid (Box w7 w6.heap.size x nm (.slice ao6 l.length cap6)) := HW6.out.2.1.kept b7
  obtain ⟨g, HG⟩ : ∃ g, Hid (l ≠ [] → ao6 = some ⟨g, 0, none⟩ ∧ W2.heap.size ≤ g ∧ g ≠ w6.heap.size ∧ U8Row w7 g l.length) := by
    by_cases hne : l = []
    · exact ⟨0, fun h => absurd hne h⟩
    · obtain ⟨g, e, hB, hu⟩ := own_u8 (HW6.out.2.2.1.kept b7) hne
      refine ⟨g, fun _ => ⟨e, Nat.le_trans hk.size hB, ?_, hu⟩⟩
      have := HW6.out.2.2.2 g e hne
      omega
  have HI : Hid (∀ w', Below W2.heap.size W2 w' → Box w' w.heap.size x nm (.slice ao l.length cap) ∧ Box w' g5 x nm (.slice ao3 l.length cap3)) := fun w' hb => ⟨(HBX.out _ hb).1, (HBX.out _ hb).2.2⟩
  clear b7 b6 ho6 HW6 k6 hk HBX
  generalize w6.heap.size = g6 at *
  clear rx
  have rx := recEq_self x nm l
  go_wp2
  generalize Value.agg #[.int .i64 x.v, .int .i64 x.k, .int .i64 x.s, .int .i64 x.p, .int .i64 x.t, .int .i64 x.a, .int .i64 x.l, .int .i64 x.c, .int .i64 x.n, .int .i64 x.i, .string nm, .slice ao l.length cap] = V1
  generalize Value.agg #[.int .i64 y.v, .int .i64 y.k, .int .i64 y.s, .int .i64 y.p, .int .i64 y.t, .int .i64 y.a, .int .i64 y.l, .int .i64 y.c, .int .i64 y.n, .int .i64 y.i, .string nm2, .slice ao2 l2.length cap2] = V2
  generalize Value.agg #[.int .i64 x.v, .int .i64 x.k, .int .i64 x.s, .int .i64 x.p, .int .i64 x.t, .int .i64 x.a, .int .i64 x.l, .int .i64 x.c, .int .i64 x.n, .int .i64 x.i, .string nm, .slice ao6 l.length cap6] = V3
  generalize Value.agg #[.int .i64 x.v, .int .i64 x.k, .int .i64 x.s, .int .i64 x.p, .int .i64 x.t, .int .i64 x.a, .int .i64 x.l, .int .i64 x.c, .int .i64 x.n, .int .i64 x.i, .string nm, .slice ao3 l.length cap3] = V4
  go_loopw [7] (fun i wr => ∃ k : Nat, k ≤ l.length ∧ i = .int .i64 (k : Int) ∧ Box wr g6 x nm (.slice ao6 l.length cap6) ∧ (l ≠ [] → U8Row wr g l.length) ∧ Below W2.heap.size W2 wr) (fun i _ => l.length - (intOf i).toNat)
  case atStart => exact ⟨0, Nat.zero_le _, rfl, HB7.out, fun h => (HG.out h).2.2.2, k7⟩
  case round =>
    obtain ⟨k, hkl, rfl, hbx, hrow, hbel⟩ := hrel
    by_cases hlt : k < l.length
    · have hne : l ≠ [] := List.ne_nil_of_length_pos (by omega)
      obtain ⟨rfl, hg1, hg2, _⟩ := HG.out hne
      obtain ⟨z, hz, hfz⟩ := (hrow hne).cell k hlt
      have c11 := hbx.cells.2.2.2.2.2.2.2.2.2.2.2
      have HN : Hid (∀ z', Box (wr.setCell ⟨g, k, none⟩ (.int .u8 z')) g6 x nm (.slice (some ⟨g, 0, none⟩) l.length cap6) ∧ U8Row (wr.setCell ⟨g, k, none⟩ (.int .u8 z')) g l.length ∧ Below W2.heap.size W2 (wr.setCell ⟨g, k, none⟩ (.int .u8 z'))) := fun z' => ⟨hbx.set _ _ (fun e => hg2 e.symm), (hrow hne).set k z', Below.setCell hbel hg1 _⟩
      clear hbx hrow HG HB7 k7
      go_wp2
      go_region
      go_wp2
      go_roundw
      case rel => exact ⟨k + 1, by omega, by go_num, (HN.out _).1, fun _ => (HN.out _).2.1, Below.drew (HN.out _).2.2⟩
      case measure => simp [intOf]; omega
    · clear HB7 HG k7
      obtain ⟨c0, c1, c2, c3, c4, c5, c6, c7, c8, c9, c10, c11⟩ := (HI.out _ hbel).1.cells
      have d11 := hbx.cells.2.2.2.2.2.2.2.2.2.2.2
      clear hbx hrow
      go_wp2_with fail
      refine (HM.out _ hbel).mono ?_
      rintro e w8 ⟨ao8, cap8, rfl, ho8, b8⟩
      unfold rv
      clear c0 c1 c2 c3 c4 c5 c6 c7 c8 c9 c10 c11
      have HW8 : Hid (Below W2.heap.size W2 (w8.alloc (.cells #[.int .i64 x.v, .int .i64 x.k, .int .i64 x.s, .int .i64 x.p, .int .i64 x.t, .int .i64 x.a, .int .i64 x.l, .int .i64 x.c, .int .i64 x.n, .int .i64 x.i, .string nm, .slice ao8 l.length cap8] 24)) ∧ Box (w8.alloc (.cells #[.int .i64 x.v, .int .i64 x.k, .int .i64 x.s, .int .i64 x.p, .int .i64 x.t, .int .i64 x.a, .int .i64 x.l, .int .i64 x.c, .int .i64 x.n, .int .i64 x.i, .string nm, .slice ao8 l.length cap8] 24)) w8.heap.size x nm (.slice ao8 l.length cap8) ∧ Bs (w8.alloc (.cells #[.int .i64 x.v, .int .i64 x.k, .int .i64 x.s, .int .i64 x.p, .int .i64 x.t, .int .i64 x.a, .int .i64 x.l, .int .i64 x.c, .int .i64 x.n, .int .i64 x.i, .string nm, .slice ao8 l.length cap8] 24)) (.slice ao8 l.length cap8) l) := ⟨up (andThen hbel b8) _, heap_new _ _, ho8.bs.alloc _⟩
      obtain ⟨c0, c1, c2, c3, c4, c5, c6, c7, c8, c9, c10, c11⟩ := (HI.out _ HW8.out.1).1.cells
      obtain ⟨e0, e1, e2, e3, e4, e5, e6, e7, e8, e9, e10, e11⟩ := (HI.out _ HW8.out.1).2.cells
      clear b8 ho8
      go_wp2_with fail
      refine (refsame_any _ _ _ _ _ _ l l _ (HBS.out _ HW8.out.1).1 (HBS.out _ HW8.out.1).2.2).mono ?_
      rintro e w9 ⟨rfl, b9⟩
      clear c0 c1 c2 c3 c4 c5 c6 c7 c8 c9 c10 c11 e0 e1 e2 e3 e4 e5 e6 e7 e8 e9 e10 e11
      have k9 : Below W2.heap.size W2 w9 := andThen HW8.out.1 b9
      obtain ⟨c0, c1, c2, c3, c4, c5, c6, c7, c8, c9, c10, c11⟩ := (HW8.out.2.1.kept b9).cells
      obtain ⟨e0, e1, e2, e3, e4, e5, e6, e7, e8, e9, e10, e11⟩ := (HI.out _ k9).2.cells
      have HB9 : Hid (Bs w9 (.slice ao8 l.length cap8) l) := HW8.out.2.2.kept b9
      clear b9 HW8
      go_wp2_with fail
      refine (refsame_any _ _ _ _ _ _ l l _ HB9.out (HBS.out _ k9).2.2).mono ?_
      rintro e w10 ⟨rfl, b10⟩
      go_wp2
      go_ret
      exact ⟨rfl, HBW.out _ (andThen k9 b10)⟩
end Go.Proofs.YtfkpdmmgjgchjaaDoor
