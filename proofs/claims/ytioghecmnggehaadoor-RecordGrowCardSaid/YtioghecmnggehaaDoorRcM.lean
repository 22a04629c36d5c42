/-
  RecordLater: equal, and the law's walk.
-/
import Derived.Test.YtioghecmnggehaaDoorRcL
namespace Go.Proofs.YtioghecmnggehaaDoor
open Go Go.RowKit
open Wb

theorem errnum_any (z : Int) (w : World) : Calls Tryd.prog 8 #[.int .i64 z] w fun e w' => e = .returned (.int .i64 z) ∧ w' = w := by
  go_enter Tryd.func8, Tryd.ntmps8
  go_wp2
  go_ret
  exact ⟨rfl, rfl⟩
set_option maxRecDepth 100000 in
set_option maxHeartbeats 4000000 in
theorem equal_later (x : Nums) (v2 : Int) (nm : ByteArray) (d d2 : Value) (l : List Nat) (w : World) (h : Bs w d l) (h2 : Bs w d2 l) :
    Calls Tryd.prog 9 #[rv x nm d, rv (x.ofV v2) nm d2] w fun e w' => e = .returned (.bool true) ∧ Below w.heap.size w w' := by
  have HS : Hid (∀ w', Below w.heap.size w w' → Calls Tryd.prog 14 #[d, d2] w' fun e w'' => e = .returned (.bool true) ∧ Below w'.heap.size w' w'') := fun w' hb => (same_any d d2 l l w' (h.kept hb) (h2.kept hb)).mono fun e w'' ⟨he, hk⟩ => ⟨by rw [he]; simp, hk⟩
  have HX : Hid (∀ o1 o2, Below w.heap.size w ((w.alloc o1).alloc o2)) := fun o1 o2 => (heap2 w o1 o2).2.2
  obtain ⟨ao, cap, rfl, _⟩ := h.shape
  obtain ⟨ao2, cap2, rfl, _⟩ := h2.shape
  clear h h2
  have d1 : (x.k == x.k) = true := beq_self_eq_true _
  have d2 : (x.s == x.s) = true := beq_self_eq_true _
  have d3 : (x.p == x.p) = true := beq_self_eq_true _
  have d4 : (x.t == x.t) = true := beq_self_eq_true _
  have d5 : (x.a == x.a) = true := beq_self_eq_true _
  have d6 : (x.l == x.l) = true := beq_self_eq_true _
  have d7 : (x.c == x.c) = true := beq_self_eq_true _
  have d8 : (x.n == x.n) = true := beq_self_eq_true _
  have d9 : (x.i == x.i) = true := beq_self_eq_true _
  have d10 : (nm.toList == nm.toList) = true := beq_self_eq_true _
  unfold rv Nums.ofV
  go_enter Tryd.func9, Tryd.ntmps9
  go_wp2_with fail
  refine (HS.out _ (HX.out _ _)).mono ?_
  rintro e w1 ⟨rfl, b1⟩
  have B1 := andThen (HX.out _ _) b1
  clear b1
  go_wp2
  go_ret
  exact ⟨rfl, B1⟩
theorem box_set {w : World} {g : Nat} {x0 : Nums} {nm0 : ByteArray} {d0 : Value} (h : Box w g x0 nm0 d0) (x : Nums) (nm : ByteArray) (d : Value) : Box (w.setCells g 0 [.int .i64 x.v, .int .i64 x.k, .int .i64 x.s, .int .i64 x.p, .int .i64 x.t, .int .i64 x.a, .int .i64 x.l, .int .i64 x.c, .int .i64 x.n, .int .i64 x.i, .string nm, d]) g x nm d := by
  unfold Box at *
  simp [World.setCells, World.setCell, Array.getElem?_modify, h]
theorem lit6 (w : World) : Bs (w.alloc (.cells #[.int .u8 1, .int .u8 2, .int .u8 2, .int .u8 5, .int .u8 4, .int .u8 1] 5)) (.slice (some ⟨w.heap.size, 0, none⟩) 6 6) [1, 2, 2, 5, 4, 1] :=
  (Own.lit (B := 0) w [1, 2, 2, 5, 4, 1] (by unfold ok; decide) (Nat.zero_le _) (by decide) #[.int .u8 1, .int .u8 2, .int .u8 2, .int .u8 5, .int .u8 4, .int .u8 1] rfl).bs
set_option maxRecDepth 100000 in
set_option maxHeartbeats 4000000 in
theorem later_any (bv : Value) (b : List Nat) (w : World) (h : Bs w bv b) (hlen : b.length ≤ 140737488355328) (hT : Text.TabP 1 .i32 Text.Tx.lets w) (hG : TagsT w) :
    Calls Tryd.prog 3 #[bv] w fun e w' => e = .returned (.bool true) ∧ Below w.heap.size w w' := by
  have HX : Hid (∀ o, (w.alloc o).heap[w.heap.size]? = some o ∧ Below w.heap.size w (w.alloc o)) := fun o => ⟨Array.getElem?_push_size, up0 w o⟩
  have HDC : Hid (∀ (v : Int) (A : Int × Pts) w', dcd v b = A → Below w.heap.size w w' → Calls Tryd.prog 7 #[.int .i64 v, bv] w' fun e w'' => ∃ ao, ∃ cap : Nat, ∃ D : List Value, Hid ([.int .i64 A.2.x.v, .int .i64 A.2.x.k, .int .i64 A.2.x.s, .int .i64 A.2.x.p, .int .i64 A.2.x.t, .int .i64 A.2.x.a, .int .i64 A.2.x.l, .int .i64 A.2.x.c, .int .i64 A.2.x.n, .int .i64 A.2.x.i, .string (bstr A.2.nm), .slice ao A.2.l.length cap] = D) ∧ e = .returned (.tuple #[.agg D.toArray, .int .i64 A.1]) ∧ Own w'.heap.size w'' (.slice ao A.2.l.length cap) A.2.l ∧ Below w'.heap.size w' w'') := fun v A w' hA hb => (decode_any v bv b w' (h.kept hb) hlen (hT.kept hb) (hG.kept hb) A hA).mono fun e w'' ⟨ao, cap, he, ho, hb'⟩ => ⟨ao, cap, _, rfl, he, ho, hb'⟩
  have HD0 : Hid (∀ w', Below w.heap.size w w' → Bs w' (.slice (some ⟨w.heap.size, 0, none⟩) 6 6) [1, 2, 2, 5, 4, 1] → Calls Tryd.prog 7 #[.int .i64 2, .slice (some ⟨w.heap.size, 0, none⟩) 6 6] w' fun e w'' => ∃ ao, ∃ cap : Nat, e = .returned (.tuple #[.agg #[.int .i64 2, .int .i64 2, .int .i64 5, .int .i64 0, .int .i64 1, .int .i64 0, .int .i64 0, .int .i64 0, .int .i64 0, .int .i64 0, .string ⟨#[]⟩, .slice ao 0 cap], .int .i64 0]) ∧ Below w'.heap.size w' w'') := fun w' hb hl => (decode_any 2 _ _ w' hl (by decide) (hT.kept hb) (hG.kept hb) _ dcd0).mono fun e w'' ⟨ao, cap, he, _, hb'⟩ => ⟨ao, cap, he, hb'⟩
  obtain ⟨ao, cap, rfl, _⟩ := h.shape
  clear h hT hG
  go_enter Tryd.func3, Tryd.ntmps3
  go_wp2_with fail
  refine (HD0.out _ (HX.out _).2 (lit6 w)).mono ?_
  rintro e w1 ⟨ao1, cap1, rfl, b1⟩
  have B1 : Below w.heap.size w w1 := andThen (HX.out _).2 b1
  clear b1 HD0 HX
  go_wp2_with fail
  refine (errnum_any 0 _).mono ?_
  rintro e w2 ⟨rfl, rfl⟩
  have HW2 : Hid (Box (w1.alloc (.cells #[.int .i64 2, .int .i64 2, .int .i64 5, .int .i64 0, .int .i64 1, .int .i64 0, .int .i64 0, .int .i64 0, .int .i64 0, .int .i64 0, .string ⟨#[]⟩, .slice ao1 0 cap1] 24)) w1.heap.size ⟨2, 2, 5, 0, 1, 0, 0, 0, 0, 0⟩ ⟨#[]⟩ (.slice ao1 0 cap1) ∧ Below w.heap.size w (w1.alloc (.cells #[.int .i64 2, .int .i64 2, .int .i64 5, .int .i64 0, .int .i64 1, .int .i64 0, .int .i64 0, .int .i64 0, .int .i64 0, .int .i64 0, .string ⟨#[]⟩, .slice ao1 0 cap1] 24)) ∧ w.heap.size ≤ w1.heap.size) := ⟨Array.getElem?_push_size, up B1 _, B1.size⟩
  go_wp2_with fail
  generalize w1.alloc (.cells #[.int .i64 2, .int .i64 2, .int .i64 5, .int .i64 0, .int .i64 1, .int .i64 0, .int .i64 0, .int .i64 0, .int .i64 0, .int .i64 0, .string ⟨#[]⟩, .slice ao1 0 cap1] 24) = W2 at HW2 ⊢
  generalize w1.heap.size = g3 at HW2 ⊢
  obtain ⟨hbx, hbw, hgw⟩ := HW2.out
  clear HW2 B1
  obtain ⟨er, q, hA⟩ : ∃ er q, dcd 2 b = (er, q) := ⟨_, _, rfl⟩
  refine (HDC.out 2 (er, q) _ hA hbw).mono ?_
  rintro e w3 ⟨ao3, cap3, D, HD, rfl, ho3, b3⟩
  have hz : Box w3 g3 ⟨2, 2, 5, 0, 1, 0, 0, 0, 0, 0⟩ ⟨#[]⟩ (.slice ao1 0 cap1) := hbx.kept b3
  have hg3 : g3 < W2.heap.size := (Array.getElem?_eq_some_iff.1 hbx).1
  have hbel : Below w.heap.size w w3 := andThen hbw b3
  have HTH : Hid (w3.there g3 0 12) := hz.there
  have HDq : Hid ([.int .i64 q.x.v, .int .i64 q.x.k, .int .i64 q.x.s, .int .i64 q.x.p, .int .i64 q.x.t, .int .i64 q.x.a, .int .i64 q.x.l, .int .i64 q.x.c, .int .i64 q.x.n, .int .i64 q.x.i, .string (bstr q.nm), .slice ao3 q.l.length cap3] = D) := HD.out
  have HDL : Hid (D.length = 12) := by show _ = _; rw [← HDq.out]; rfl
  have HDO : Hid (D.toArray.all (·.oneCell') = true) := by show _ = _; rw [← HDq.out]; simp [Value.oneCell']
  have hst : (storeCells ⟨g3, 0, none⟩ D).run Tryd.prog w3 = .ok () (w3.setCells g3 0 D) := run_storeCells_cells (P := Tryd.prog) g3 0 D 0 w3 (fun j hj => by rw [HDL.out] at hj; simpa using (HTH.out j hj).1) (fun j hj => by rw [HDL.out] at hj; simpa using (HTH.out j hj).2) (fun v hv => (Array.all_eq_true_iff_forall_mem.1 HDO.out) v (by simpa using hv))
  have hdl : D.length = 12 := HDL.out
  have HB4 : Hid (Below w.heap.size w (w3.setCells g3 0 D)) := below_cells hgw D 0 _ hbel
  have HO4 : Hid (Own W2.heap.size (w3.setCells g3 0 D) (.slice ao3 q.l.length cap3) q.l) := Own.cells ho3 g3 0 D hg3
  have HX4 : Hid (Box (w3.setCells g3 0 D) g3 q.x (bstr q.nm) (.slice ao3 q.l.length cap3)) := by
    show Box _ _ _ _ _
    rw [← HDq.out]
    exact box_set hz _ _ _
  clear hz hbx hbw b3 ho3 hbel HD HDq HDL HDO HTH
  by_cases her : er = 0
  · subst her
    obtain ⟨hA3, hv2⟩ := dcd_later b q hA
    go_wp2_with fail
    refine (errnum_any 0 _).mono ?_
    rintro e w4 ⟨rfl, rfl⟩
    clear hst hdl
    generalize w3.setCells g3 0 D = W4 at HB4 HO4 HX4 ⊢
    go_wp2_with fail
    refine (HDC.out 3 (0, q.ofV 3) _ hA3 HB4.out).mono ?_
    rintro e w5 ⟨ao5, cap5, D5, HD5, rfl, ho5, b5⟩
    have hD5 : (#[.int .i64 3, .int .i64 q.x.k, .int .i64 q.x.s, .int .i64 q.x.p, .int .i64 q.x.t, .int .i64 q.x.a, .int .i64 q.x.l, .int .i64 q.x.c, .int .i64 q.x.n, .int .i64 q.x.i, .string (bstr q.nm), .slice ao5 q.l.length cap5] : Array Value) = D5.toArray := congrArg List.toArray HD5.out
    have ho5' : Own W4.heap.size w5 (.slice ao5 q.l.length cap5) q.l := ho5
    clear HD5 ho5
    rw [← hD5]
    clear hD5
    have HW6 : Hid (Box (w5.alloc (.cells #[.int .i64 3, .int .i64 q.x.k, .int .i64 q.x.s, .int .i64 q.x.p, .int .i64 q.x.t, .int .i64 q.x.a, .int .i64 q.x.l, .int .i64 q.x.c, .int .i64 q.x.n, .int .i64 q.x.i, .string (bstr q.nm), .slice ao5 q.l.length cap5] 24)) g3 q.x (bstr q.nm) (.slice ao3 q.l.length cap3) ∧ Bs (w5.alloc (.cells #[.int .i64 3, .int .i64 q.x.k, .int .i64 q.x.s, .int .i64 q.x.p, .int .i64 q.x.t, .int .i64 q.x.a, .int .i64 q.x.l, .int .i64 q.x.c, .int .i64 q.x.n, .int .i64 q.x.i, .string (bstr q.nm), .slice ao5 q.l.length cap5] 24)) (.slice ao3 q.l.length cap3) q.l ∧ Bs (w5.alloc (.cells #[.int .i64 3, .int .i64 q.x.k, .int .i64 q.x.s, .int .i64 q.x.p, .int .i64 q.x.t, .int .i64 q.x.a, .int .i64 q.x.l, .int .i64 q.x.c, .int .i64 q.x.n, .int .i64 q.x.i, .string (bstr q.nm), .slice ao5 q.l.length cap5] 24)) (.slice ao5 q.l.length cap5) q.l ∧ Below w.heap.size w (w5.alloc (.cells #[.int .i64 3, .int .i64 q.x.k, .int .i64 q.x.s, .int .i64 q.x.p, .int .i64 q.x.t, .int .i64 q.x.a, .int .i64 q.x.l, .int .i64 q.x.c, .int .i64 q.x.n, .int .i64 q.x.i, .string (bstr q.nm), .slice ao5 q.l.length cap5] 24))) := ⟨Box.kept (HX4.out.kept b5) (up0 _ _), (HO4.out.bs.kept b5).alloc _, ho5'.bs.alloc _, up (andThen HB4.out b5) _⟩
    clear b5 HX4 HO4 HB4 ho5'
    obtain ⟨c0, c1, c2, c3, c4, c5, c6, c7, c8, c9, c10, c11⟩ := HW6.out.1.cells
    have HEQ : Hid (Calls Tryd.prog 9 #[rv q.x (bstr q.nm) (.slice ao3 q.l.length cap3), rv (q.x.ofV 3) (bstr q.nm) (.slice ao5 q.l.length cap5)] (w5.alloc (.cells #[.int .i64 3, .int .i64 q.x.k, .int .i64 q.x.s, .int .i64 q.x.p, .int .i64 q.x.t, .int .i64 q.x.a, .int .i64 q.x.l, .int .i64 q.x.c, .int .i64 q.x.n, .int .i64 q.x.i, .string (bstr q.nm), .slice ao5 q.l.length cap5] 24)) fun e w' => e = .returned (.bool true) ∧ Below (w5.alloc (.cells #[.int .i64 3, .int .i64 q.x.k, .int .i64 q.x.s, .int .i64 q.x.p, .int .i64 q.x.t, .int .i64 q.x.a, .int .i64 q.x.l, .int .i64 q.x.c, .int .i64 q.x.n, .int .i64 q.x.i, .string (bstr q.nm), .slice ao5 q.l.length cap5] 24)).heap.size (w5.alloc (.cells #[.int .i64 3, .int .i64 q.x.k, .int .i64 q.x.s, .int .i64 q.x.p, .int .i64 q.x.t, .int .i64 q.x.a, .int .i64 q.x.l, .int .i64 q.x.c, .int .i64 q.x.n, .int .i64 q.x.i, .string (bstr q.nm), .slice ao5 q.l.length cap5] 24)) w') := equal_later q.x 3 (bstr q.nm) _ _ q.l _ HW6.out.2.1 HW6.out.2.2.1
    unfold rv Nums.ofV at HEQ
    rw [hv2] at HEQ
    go_wp2_with fail
    refine (errnum_any 0 _).mono ?_
    rintro e w6 ⟨rfl, rfl⟩
    go_wp2_with fail
    refine HEQ.out.mono ?_
    rintro e w7 ⟨rfl, b7⟩
    have B7 := andThen HW6.out.2.2.2 b7
    clear b7 c0 c1 c2 c3 c4 c5 c6 c7 c8 c9 c10 c11
    go_wp2
    go_ret
    exact ⟨rfl, B7⟩
  · have d1 : (er != 0) = true := by rw [bne_iff_ne]; exact her
    clear her hA
    go_wp2_with fail
    refine (errnum_any er _).mono ?_
    rintro e w4 ⟨rfl, rfl⟩
    go_wp2
    go_ret
    exact ⟨rfl, HB4.out⟩
end Go.Proofs.YtioghecmnggehaaDoor
