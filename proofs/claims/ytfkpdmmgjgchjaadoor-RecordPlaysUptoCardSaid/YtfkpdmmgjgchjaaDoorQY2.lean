import Derived.Test.YtfkpdmmgjgchjaaDoorQF1
import Derived.Test.YtfkpdmmgjgchjaaDoorQY1
import Derived.Test.YtfkpdmmgjgchjaaDoorQX4
import Derived.Test.YtfkpdmmgjgchjaaDoorQK3
import Derived.Test.YtfkpdmmgjgchjaaDoorQK2
/-
  RecordFields: the law's walk.
-/
namespace Go.Proofs.YtfkpdmmgjgchjaaDoor.Fld
open Go Go.RowKit

set_option maxRecDepth 100000 in
set_option maxHeartbeats 1000000 in
theorem sameI_any (l : List Int) (a b : Value) (w : World) (ha : SlI w a l) (hb : SlI w b l) (hl : l.length ≤ 1000) :
    Calls Tryd.prog 66 #[a, b] w fun e w' => e = .returned (.bool true) ∧ ∃ n, w' = w.drewN n := by
  obtain ⟨aa, ca, rfl, hca⟩ := ha
  obtain ⟨ab, cb, rfl, hcb⟩ := hb
  have HA : Hid (∀ j (h : j < l.length), ∃ g, aa = some ⟨g, 0, none⟩ ∧ w.cell? ⟨g, j, none⟩ = some (.int .i64 l[j])) := hca
  have HB : Hid (∀ j (h : j < l.length), ∃ g, ab = some ⟨g, 0, none⟩ ∧ w.cell? ⟨g, j, none⟩ = some (.int .i64 l[j])) := hcb
  clear hca hcb
  go_enter Tryd.func66, Tryd.ntmps66
  go_wp2
  go_loopw [5] (fun i wr => ∃ k : Nat, k ≤ l.length ∧ i = .int .i64 (k : Int) ∧ ∃ n, wr = w.drewN n) (fun i _ => l.length - (intOf i).toNat)
  case atStart => exact ⟨0, by omega, rfl, 0, rfl⟩
  case round =>
    obtain ⟨k, hk, rfl, n, hw⟩ := hrel
    have HW : Hid (wr = w.drewN n) := hw
    clear hw
    by_cases hlt : k < l.length
    · obtain ⟨ga, rfl, c1⟩ := HA.out k hlt
      obtain ⟨gb, rfl, c2⟩ := HB.out k hlt
      generalize l[k] = x at *
      have c3 : wr.cell? ⟨ga, k, none⟩ = some (.int .i64 x) := by rw [HW.out]; exact c1
      have c4 : wr.cell? ⟨gb, k, none⟩ = some (.int .i64 x) := by rw [HW.out]; exact c2
      clear c1 c2 HA HB
      go_wp2
      go_quiet (fail)
      go_wp2
      go_roundw
      case rel => exact ⟨k + 1, by omega, by go_num, _, by rw [HW.out]; exact World.drewN_drewN _ _ _⟩
      case measure => simp [intOf]; omega
    · obtain rfl : k = l.length := by omega
      go_wp2
      go_ret
      exact ⟨rfl, n, HW.out⟩
theorem fl17 : fl 1 7 = [1, 2] := by decide +kernel
theorem blwDrew {B : Nat} {a w : World} (h : Below B a w) (n : Nat) : Below B a (w.drewN n) := h.trans ⟨rfl, rfl, rfl, Nat.le_refl _, fun _ _ => rfl⟩
theorem sl_two (w : World) (t : TypeId) : SlI (w.alloc (.cells #[.int .i64 1, .int .i64 2] t)) (.slice (some ⟨w.heap.size, 0, none⟩) 2 2) [1, 2] := by
  refine ⟨_, 2, rfl, fun j hj => ⟨_, rfl, ?_⟩⟩
  rw [World.cell?_alloc_new]
  match j, hj with
  | 0, _ => rfl
  | 1, _ => rfl

set_option maxRecDepth 100000 in
set_option maxHeartbeats 1000000 in
theorem recordFields_any (v k : Int) (w : World) (hT : TagsT w) (hR : RowsT w) :
    Calls Tryd.prog 43 #[.int .i64 v, .int .i64 k] w fun e w' => e = .returned (.bool true) ∧ Below w.heap.size w w' := by
  have HT : Hid (∀ w', Below w.heap.size w w' → TagsT w') := fun w' hb => hT.kept hb
  have HR : Hid (∀ w', Below w.heap.size w w' → RowsT w') := fun w' hb => hR.kept hb
  obtain ⟨F, hF⟩ : ∃ F, fl v k = F := ⟨_, rfl⟩
  have HL : Hid (F.length ≤ 1000) := by have := fl_len v k; rw [hF] at this; show _ ≤ _; omega
  have HF : Hid (fl v k = F) := hF
  clear hF
  clear hT hR
  go_enter Tryd.func43, Tryd.ntmps43
  go_wp2_with fail
  refine (fields_any 1 7 _ (HT.out _ (Below.refl _ _))).mono ?_
  rw [fl17]
  rintro e w1 ⟨o1, rfl, r1, b1⟩
  have S1 := r1.sl
  clear r1
  obtain ⟨ao1, cap1, rfl, hc1⟩ := S1
  have HS1 : Hid (SlI w1 (.slice ao1 [1, 2].length cap1) [1, 2]) := ⟨ao1, cap1, rfl, hc1⟩
  clear hc1
  go_wp2_with fail
  refine (fields_any v k _ (HT.out _ b1)).mono ?_
  rw [HF.out]
  rintro e w2 ⟨o2, rfl, r2, b2⟩
  have S2 := r2.sl
  clear r2
  obtain ⟨ao2, cap2, rfl, hc2⟩ := S2
  have HS2 : Hid (SlI w2 (.slice ao2 F.length cap2) F) := ⟨ao2, cap2, rfl, hc2⟩
  clear hc2
  have HS1' : Hid (SlI w2 (.slice ao1 [1, 2].length cap1) [1, 2]) := HS1.out.kept b2
  have B2 := andThen b1 b2
  clear b1 b2 HS1
  go_wp2_with fail
  refine (sameI_any [1, 2] _ _ _ (HS1'.out.kept (up0 _ _)) (sl_two _ _) (by decide)).mono ?_
  rintro e w3 ⟨rfl, n3, hn3⟩
  have b3 : Below w2.heap.size w2 w3 := by rw [hn3]; exact blwDrew (up0 _ _) n3
  have HS2' : Hid (SlI w3 (.slice ao2 F.length cap2) F) := HS2.out.kept b3
  have B3 := andThen B2 b3
  clear hn3 b3 HS1' HS2 B2
  go_wp2_with fail
  refine (rfields_any v k _ (HR.out _ B3)).mono ?_
  rw [HF.out]
  rintro e w4 ⟨o4, rfl, r4, b4⟩
  have S4 := r4.sl
  clear r4
  obtain ⟨ao4, cap4, rfl, hc4⟩ := S4
  have HS4 : Hid (SlI w4 (.slice ao4 F.length cap4) F) := ⟨ao4, cap4, rfl, hc4⟩
  have HS5 : Hid (SlI w4 (.slice ao2 F.length cap2) F) := HS2'.out.kept b4
  have B4 := andThen B3 b4
  clear hc4 b4 HS2' B3
  go_wp2_with fail
  refine (sameI_any F _ _ _ HS5.out HS4.out HL.out).mono ?_
  rintro e w5 ⟨rfl, n5, hn5⟩
  have B5 : Below w.heap.size w w5 := by rw [hn5]; exact blwDrew B4 n5
  clear hn5 B4
  go_wp2
  go_ret
  exact ⟨rfl, B5⟩
theorem recordFieldsW_any (v k : Int) (w : World) (hR : RowsT w) (hT : TagsT w) (_h0 : (Lit.int .i64 v).wf = true) (_h1 : (Lit.int .i64 k).wf = true) :
    Calls Tryd.prog 43 #[.int .i64 v, .int .i64 k] w fun e w' => e = .returned (.bool true) ∧ Below w.heap.size w w' := recordFields_any v k w hT hR
end Go.Proofs.YtfkpdmmgjgchjaaDoor.Fld

/-
  RecordPlays: one step.
-/
namespace Go.Proofs.YtfkpdmmgjgchjaaDoor
open Go Go.RowKit
open Wb

/-- the cells of an Op -/
def opL (kd : Int) (v1 n1 : Int) (bv d d2 : Value) (x y : Nums) (nm nm2 : ByteArray) : List Value := [.int .i64 kd, .int .i64 v1, .int .i64 n1, bv, .int .i64 x.v, .int .i64 x.k, .int .i64 x.s, .int .i64 x.p, .int .i64 x.t, .int .i64 x.a, .int .i64 x.l, .int .i64 x.c, .int .i64 x.n, .int .i64 x.i, .string nm, d, .int .i64 y.v, .int .i64 y.k, .int .i64 y.s, .int .i64 y.p, .int .i64 y.t, .int .i64 y.a, .int .i64 y.l, .int .i64 y.c, .int .i64 y.n, .int .i64 y.i, .string nm2, d2]
/-- what an Op holds -/
structure OpIs (w : World) (bv d d2 : Value) (x : Nums) (nm : ByteArray) (bl l l2 : List Nat) : Prop where
  hb : Bs w bv bl
  h : Bs w d l
  h2 : Bs w d2 l2
  hbl : bl.length ≤ 1048576
  hl : l.length ≤ 1048576
  hnm : nm.size ≤ 1048576
  hx : x.fit
theorem OpIs.kept {w w' : World} {bv d d2 : Value} {x : Nums} {nm : ByteArray} {bl l l2 : List Nat} (h : OpIs w bv d d2 x nm bl l l2) (hb : Below w.heap.size w w') : OpIs w' bv d d2 x nm bl l l2 := ⟨h.hb.kept hb, h.h.kept hb, h.h2.kept hb, h.hbl, h.hl, h.hnm, h.hx⟩
set_option maxRecDepth 100000 in
set_option maxHeartbeats 4000000 in
theorem step_1 (v1 n1 : Int) (bv d d2 : Value) (x y : Nums) (nm nm2 : ByteArray) (bl l l2 : List Nat) (w : World) (hO : OpIs w bv d d2 x nm bl l l2) (hT : Tabs w) :
    Calls Tryd.prog 22 #[.agg (opL 1 v1 n1 bv d d2 x y nm nm2).toArray] w fun e w' => e = .returned (.bool true) ∧ Below w.heap.size w w' := by
  have HX : Hid (∀ o, (w.alloc o).heap[w.heap.size]? = some o ∧ Below w.heap.size w (w.alloc o)) := fun o => ⟨Array.getElem?_push_size, up0 w o⟩
  have HIR : Hid ((Tryd.prog.info? 24).map (·.size) = some 12) := infoRec
  have HC : Hid (∀ w', Below w.heap.size w w' → Calls Tryd.prog 43 #[.int .i64 v1, .int .i64 n1] w' fun e w'' => e = .returned (.bool true) ∧ Below w'.heap.size w' w'') := fun w' hb => Fld.recordFields_any v1 n1 w' (hT.kept hb).tags (hT.kept hb).rows
  obtain ⟨ab, cb, rfl, _⟩ := hO.hb.shape
  obtain ⟨ao, cap, rfl, _⟩ := hO.h.shape
  obtain ⟨ao2, cap2, rfl, _⟩ := hO.h2.shape
  have HR : Hid (∀ o n, (w.alloc (.cells #[.int .i64 1, .int .i64 v1, .int .i64 n1, .slice ab bl.length cb, .int .i64 x.v, .int .i64 x.k, .int .i64 x.s, .int .i64 x.p, .int .i64 x.t, .int .i64 x.a, .int .i64 x.l, .int .i64 x.c, .int .i64 x.n, .int .i64 x.i, .string nm, .slice ao l.length cap, .int .i64 y.v, .int .i64 y.k, .int .i64 y.s, .int .i64 y.p, .int .i64 y.t, .int .i64 y.a, .int .i64 y.l, .int .i64 y.c, .int .i64 y.n, .int .i64 y.i, .string nm2, .slice ao2 l2.length cap2] 49)).rangeAt w.heap.size o ((#[.int .i64 1, .int .i64 v1, .int .i64 n1, .slice ab bl.length cb, .int .i64 x.v, .int .i64 x.k, .int .i64 x.s, .int .i64 x.p, .int .i64 x.t, .int .i64 x.a, .int .i64 x.l, .int .i64 x.c, .int .i64 x.n, .int .i64 x.i, .string nm, .slice ao l.length cap, .int .i64 y.v, .int .i64 y.k, .int .i64 y.s, .int .i64 y.p, .int .i64 y.t, .int .i64 y.a, .int .i64 y.l, .int .i64 y.c, .int .i64 y.n, .int .i64 y.i, .string nm2, .slice ao2 l2.length cap2] : Array Value).extract o (o + n)).toList) := fun o n => World.rangeAt_of_block (HX.out _).1 o n
  have HR4 : Hid ((w.alloc (.cells #[.int .i64 1, .int .i64 v1, .int .i64 n1, .slice ab bl.length cb, .int .i64 x.v, .int .i64 x.k, .int .i64 x.s, .int .i64 x.p, .int .i64 x.t, .int .i64 x.a, .int .i64 x.l, .int .i64 x.c, .int .i64 x.n, .int .i64 x.i, .string nm, .slice ao l.length cap, .int .i64 y.v, .int .i64 y.k, .int .i64 y.s, .int .i64 y.p, .int .i64 y.t, .int .i64 y.a, .int .i64 y.l, .int .i64 y.c, .int .i64 y.n, .int .i64 y.i, .string nm2, .slice ao2 l2.length cap2] 49)).rangeAt w.heap.size 4 [.int .i64 x.v, .int .i64 x.k, .int .i64 x.s, .int .i64 x.p, .int .i64 x.t, .int .i64 x.a, .int .i64 x.l, .int .i64 x.c, .int .i64 x.n, .int .i64 x.i, .string nm, .slice ao l.length cap]) := HR.out 4 12
  have HR16 : Hid ((w.alloc (.cells #[.int .i64 1, .int .i64 v1, .int .i64 n1, .slice ab bl.length cb, .int .i64 x.v, .int .i64 x.k, .int .i64 x.s, .int .i64 x.p, .int .i64 x.t, .int .i64 x.a, .int .i64 x.l, .int .i64 x.c, .int .i64 x.n, .int .i64 x.i, .string nm, .slice ao l.length cap, .int .i64 y.v, .int .i64 y.k, .int .i64 y.s, .int .i64 y.p, .int .i64 y.t, .int .i64 y.a, .int .i64 y.l, .int .i64 y.c, .int .i64 y.n, .int .i64 y.i, .string nm2, .slice ao2 l2.length cap2] 49)).rangeAt w.heap.size 16 [.int .i64 y.v, .int .i64 y.k, .int .i64 y.s, .int .i64 y.p, .int .i64 y.t, .int .i64 y.a, .int .i64 y.l, .int .i64 y.c, .int .i64 y.n, .int .i64 y.i, .string nm2, .slice ao2 l2.length cap2]) := HR.out 16 12
  clear hO hT HR
  unfold opL
  go_enter Tryd.func22, Tryd.ntmps22
  go_wp2_with fail
  refine (HC.out _ (HX.out _).2).mono ?_
  rintro e w1 ⟨rfl, b1⟩
  have B1 := andThen (HX.out _).2 b1
  clear b1 HX HC HR4 HR16 HIR
  go_wp2
  go_ret
  exact ⟨rfl, B1⟩
set_option maxRecDepth 100000 in
set_option maxHeartbeats 4000000 in
theorem step_2 (v1 n1 : Int) (bv d d2 : Value) (x y : Nums) (nm nm2 : ByteArray) (bl l l2 : List Nat) (w : World) (hO : OpIs w bv d d2 x nm bl l l2) (hT : Tabs w) :
    Calls Tryd.prog 22 #[.agg (opL 2 v1 n1 bv d d2 x y nm nm2).toArray] w fun e w' => e = .returned (.bool true) ∧ Below w.heap.size w w' := by
  have HX : Hid (∀ o, (w.alloc o).heap[w.heap.size]? = some o ∧ Below w.heap.size w (w.alloc o)) := fun o => ⟨Array.getElem?_push_size, up0 w o⟩
  have HIR : Hid ((Tryd.prog.info? 24).map (·.size) = some 12) := infoRec
  have HC : Hid (∀ w', Below w.heap.size w w' → Calls Tryd.prog 3 #[rv x nm d] w' fun e w'' => e = .returned (.bool true) ∧ Below w'.heap.size w' w'') := fun w' hb => rchecks_any x nm d l w' (hO.h.kept hb) (hT.kept hb) hO.hx hO.hnm hO.hl
  obtain ⟨ab, cb, rfl, _⟩ := hO.hb.shape
  obtain ⟨ao, cap, rfl, _⟩ := hO.h.shape
  obtain ⟨ao2, cap2, rfl, _⟩ := hO.h2.shape
  have HR : Hid (∀ o n, (w.alloc (.cells #[.int .i64 2, .int .i64 v1, .int .i64 n1, .slice ab bl.length cb, .int .i64 x.v, .int .i64 x.k, .int .i64 x.s, .int .i64 x.p, .int .i64 x.t, .int .i64 x.a, .int .i64 x.l, .int .i64 x.c, .int .i64 x.n, .int .i64 x.i, .string nm, .slice ao l.length cap, .int .i64 y.v, .int .i64 y.k, .int .i64 y.s, .int .i64 y.p, .int .i64 y.t, .int .i64 y.a, .int .i64 y.l, .int .i64 y.c, .int .i64 y.n, .int .i64 y.i, .string nm2, .slice ao2 l2.length cap2] 49)).rangeAt w.heap.size o ((#[.int .i64 2, .int .i64 v1, .int .i64 n1, .slice ab bl.length cb, .int .i64 x.v, .int .i64 x.k, .int .i64 x.s, .int .i64 x.p, .int .i64 x.t, .int .i64 x.a, .int .i64 x.l, .int .i64 x.c, .int .i64 x.n, .int .i64 x.i, .string nm, .slice ao l.length cap, .int .i64 y.v, .int .i64 y.k, .int .i64 y.s, .int .i64 y.p, .int .i64 y.t, .int .i64 y.a, .int .i64 y.l, .int .i64 y.c, .int .i64 y.n, .int .i64 y.i, .string nm2, .slice ao2 l2.length cap2] : Array Value).extract o (o + n)).toList) := fun o n => World.rangeAt_of_block (HX.out _).1 o n
  have HR4 : Hid ((w.alloc (.cells #[.int .i64 2, .int .i64 v1, .int .i64 n1, .slice ab bl.length cb, .int .i64 x.v, .int .i64 x.k, .int .i64 x.s, .int .i64 x.p, .int .i64 x.t, .int .i64 x.a, .int .i64 x.l, .int .i64 x.c, .int .i64 x.n, .int .i64 x.i, .string nm, .slice ao l.length cap, .int .i64 y.v, .int .i64 y.k, .int .i64 y.s, .int .i64 y.p, .int .i64 y.t, .int .i64 y.a, .int .i64 y.l, .int .i64 y.c, .int .i64 y.n, .int .i64 y.i, .string nm2, .slice ao2 l2.length cap2] 49)).rangeAt w.heap.size 4 [.int .i64 x.v, .int .i64 x.k, .int .i64 x.s, .int .i64 x.p, .int .i64 x.t, .int .i64 x.a, .int .i64 x.l, .int .i64 x.c, .int .i64 x.n, .int .i64 x.i, .string nm, .slice ao l.length cap]) := HR.out 4 12
  have HR16 : Hid ((w.alloc (.cells #[.int .i64 2, .int .i64 v1, .int .i64 n1, .slice ab bl.length cb, .int .i64 x.v, .int .i64 x.k, .int .i64 x.s, .int .i64 x.p, .int .i64 x.t, .int .i64 x.a, .int .i64 x.l, .int .i64 x.c, .int .i64 x.n, .int .i64 x.i, .string nm, .slice ao l.length cap, .int .i64 y.v, .int .i64 y.k, .int .i64 y.s, .int .i64 y.p, .int .i64 y.t, .int .i64 y.a, .int .i64 y.l, .int .i64 y.c, .int .i64 y.n, .int .i64 y.i, .string nm2, .slice ao2 l2.length cap2] 49)).rangeAt w.heap.size 16 [.int .i64 y.v, .int .i64 y.k, .int .i64 y.s, .int .i64 y.p, .int .i64 y.t, .int .i64 y.a, .int .i64 y.l, .int .i64 y.c, .int .i64 y.n, .int .i64 y.i, .string nm2, .slice ao2 l2.length cap2]) := HR.out 16 12
  clear hO hT HR
  unfold opL
  go_enter Tryd.func22, Tryd.ntmps22
  go_wp2_with (refine wpList_load_mid rfl 24 _ rfl w.heap.size 4 rfl [.int .i64 x.v, .int .i64 x.k, .int .i64 x.s, .int .i64 x.p, .int .i64 x.t, .int .i64 x.a, .int .i64 x.l, .int .i64 x.c, .int .i64 x.n, .int .i64 x.i, .string nm, .slice ao l.length cap] _ HR4.out Tryd.underlying24 rfl HIR.out ?_)
  refine (HC.out _ (HX.out _).2).mono ?_
  rintro e w1 ⟨rfl, b1⟩
  have B1 := andThen (HX.out _).2 b1
  clear b1 HX HC HR4 HR16 HIR
  go_wp2
  go_ret
  exact ⟨rfl, B1⟩
set_option maxRecDepth 100000 in
set_option maxHeartbeats 4000000 in
theorem step_3 (v1 n1 : Int) (bv d d2 : Value) (x y : Nums) (nm nm2 : ByteArray) (bl l l2 : List Nat) (w : World) (hO : OpIs w bv d d2 x nm bl l l2) (hT : Tabs w) :
    Calls Tryd.prog 22 #[.agg (opL 3 v1 n1 bv d d2 x y nm nm2).toArray] w fun e w' => e = .returned (.bool true) ∧ Below w.heap.size w w' := by
  have HX : Hid (∀ o, (w.alloc o).heap[w.heap.size]? = some o ∧ Below w.heap.size w (w.alloc o)) := fun o => ⟨Array.getElem?_push_size, up0 w o⟩
  have HIR : Hid ((Tryd.prog.info? 24).map (·.size) = some 12) := infoRec
  have HC : Hid (∀ w', Below w.heap.size w w' → Calls Tryd.prog 4 #[rv x nm d] w' fun e w'' => e = .returned (.bool true) ∧ Below w'.heap.size w' w'') := fun w' hb => rwrites_any x nm d l w' (hO.h.kept hb) (hT.kept hb) hO.hx hO.hnm hO.hl
  obtain ⟨ab, cb, rfl, _⟩ := hO.hb.shape
  obtain ⟨ao, cap, rfl, _⟩ := hO.h.shape
  obtain ⟨ao2, cap2, rfl, _⟩ := hO.h2.shape
  have HR : Hid (∀ o n, (w.alloc (.cells #[.int .i64 3, .int .i64 v1, .int .i64 n1, .slice ab bl.length cb, .int .i64 x.v, .int .i64 x.k, .int .i64 x.s, .int .i64 x.p, .int .i64 x.t, .int .i64 x.a, .int .i64 x.l, .int .i64 x.c, .int .i64 x.n, .int .i64 x.i, .string nm, .slice ao l.length cap, .int .i64 y.v, .int .i64 y.k, .int .i64 y.s, .int .i64 y.p, .int .i64 y.t, .int .i64 y.a, .int .i64 y.l, .int .i64 y.c, .int .i64 y.n, .int .i64 y.i, .string nm2, .slice ao2 l2.length cap2] 49)).rangeAt w.heap.size o ((#[.int .i64 3, .int .i64 v1, .int .i64 n1, .slice ab bl.length cb, .int .i64 x.v, .int .i64 x.k, .int .i64 x.s, .int .i64 x.p, .int .i64 x.t, .int .i64 x.a, .int .i64 x.l, .int .i64 x.c, .int .i64 x.n, .int .i64 x.i, .string nm, .slice ao l.length cap, .int .i64 y.v, .int .i64 y.k, .int .i64 y.s, .int .i64 y.p, .int .i64 y.t, .int .i64 y.a, .int .i64 y.l, .int .i64 y.c, .int .i64 y.n, .int .i64 y.i, .string nm2, .slice ao2 l2.length cap2] : Array Value).extract o (o + n)).toList) := fun o n => World.rangeAt_of_block (HX.out _).1 o n
  have HR4 : Hid ((w.alloc (.cells #[.int .i64 3, .int .i64 v1, .int .i64 n1, .slice ab bl.length cb, .int .i64 x.v, .int .i64 x.k, .int .i64 x.s, .int .i64 x.p, .int .i64 x.t, .int .i64 x.a, .int .i64 x.l, .int .i64 x.c, .int .i64 x.n, .int .i64 x.i, .string nm, .slice ao l.length cap, .int .i64 y.v, .int .i64 y.k, .int .i64 y.s, .int .i64 y.p, .int .i64 y.t, .int .i64 y.a, .int .i64 y.l, .int .i64 y.c, .int .i64 y.n, .int .i64 y.i, .string nm2, .slice ao2 l2.length cap2] 49)).rangeAt w.heap.size 4 [.int .i64 x.v, .int .i64 x.k, .int .i64 x.s, .int .i64 x.p, .int .i64 x.t, .int .i64 x.a, .int .i64 x.l, .int .i64 x.c, .int .i64 x.n, .int .i64 x.i, .string nm, .slice ao l.length cap]) := HR.out 4 12
  have HR16 : Hid ((w.alloc (.cells #[.int .i64 3, .int .i64 v1, .int .i64 n1, .slice ab bl.length cb, .int .i64 x.v, .int .i64 x.k, .int .i64 x.s, .int .i64 x.p, .int .i64 x.t, .int .i64 x.a, .int .i64 x.l, .int .i64 x.c, .int .i64 x.n, .int .i64 x.i, .string nm, .slice ao l.length cap, .int .i64 y.v, .int .i64 y.k, .int .i64 y.s, .int .i64 y.p, .int .i64 y.t, .int .i64 y.a, .int .i64 y.l, .int .i64 y.c, .int .i64 y.n, .int .i64 y.i, .string nm2, .slice ao2 l2.length cap2] 49)).rangeAt w.heap.size 16 [.int .i64 y.v, .int .i64 y.k, .int .i64 y.s, .int .i64 y.p, .int .i64 y.t, .int .i64 y.a, .int .i64 y.l, .int .i64 y.c, .int .i64 y.n, .int .i64 y.i, .string nm2, .slice ao2 l2.length cap2]) := HR.out 16 12
  clear hO hT HR
  unfold opL
  go_enter Tryd.func22, Tryd.ntmps22
  go_wp2_with (refine wpList_load_mid rfl 24 _ rfl w.heap.size 4 rfl [.int .i64 x.v, .int .i64 x.k, .int .i64 x.s, .int .i64 x.p, .int .i64 x.t, .int .i64 x.a, .int .i64 x.l, .int .i64 x.c, .int .i64 x.n, .int .i64 x.i, .string nm, .slice ao l.length cap] _ HR4.out Tryd.underlying24 rfl HIR.out ?_)
  refine (HC.out _ (HX.out _).2).mono ?_
  rintro e w1 ⟨rfl, b1⟩
  have B1 := andThen (HX.out _).2 b1
  clear b1 HX HC HR4 HR16 HIR
  go_wp2
  go_ret
  exact ⟨rfl, B1⟩
set_option maxRecDepth 100000 in
set_option maxHeartbeats 4000000 in
theorem step_4 (v1 n1 : Int) (bv d d2 : Value) (x y : Nums) (nm nm2 : ByteArray) (bl l l2 : List Nat) (w : World) (hO : OpIs w bv d d2 x nm bl l l2) (hT : Tabs w) :
    Calls Tryd.prog 22 #[.agg (opL 4 v1 n1 bv d d2 x y nm nm2).toArray] w fun e w' => e = .returned (.bool true) ∧ Below w.heap.size w w' := by
  have HX : Hid (∀ o, (w.alloc o).heap[w.heap.size]? = some o ∧ Below w.heap.size w (w.alloc o)) := fun o => ⟨Array.getElem?_push_size, up0 w o⟩
  have HIR : Hid ((Tryd.prog.info? 24).map (·.size) = some 12) := infoRec
  have HC : Hid (∀ w', Below w.heap.size w w' → Calls Tryd.prog 5 #[.int .i64 v1, bv] w' fun e w'' => e = .returned (.bool true) ∧ Below w'.heap.size w' w'') := fun w' hb => rreads_any v1 bv bl w' (hO.hb.kept hb) (Nat.le_trans hO.hbl (by decide)) (hT.kept hb)
  obtain ⟨ab, cb, rfl, _⟩ := hO.hb.shape
  obtain ⟨ao, cap, rfl, _⟩ := hO.h.shape
  obtain ⟨ao2, cap2, rfl, _⟩ := hO.h2.shape
  have HR : Hid (∀ o n, (w.alloc (.cells #[.int .i64 4, .int .i64 v1, .int .i64 n1, .slice ab bl.length cb, .int .i64 x.v, .int .i64 x.k, .int .i64 x.s, .int .i64 x.p, .int .i64 x.t, .int .i64 x.a, .int .i64 x.l, .int .i64 x.c, .int .i64 x.n, .int .i64 x.i, .string nm, .slice ao l.length cap, .int .i64 y.v, .int .i64 y.k, .int .i64 y.s, .int .i64 y.p, .int .i64 y.t, .int .i64 y.a, .int .i64 y.l, .int .i64 y.c, .int .i64 y.n, .int .i64 y.i, .string nm2, .slice ao2 l2.length cap2] 49)).rangeAt w.heap.size o ((#[.int .i64 4, .int .i64 v1, .int .i64 n1, .slice ab bl.length cb, .int .i64 x.v, .int .i64 x.k, .int .i64 x.s, .int .i64 x.p, .int .i64 x.t, .int .i64 x.a, .int .i64 x.l, .int .i64 x.c, .int .i64 x.n, .int .i64 x.i, .string nm, .slice ao l.length cap, .int .i64 y.v, .int .i64 y.k, .int .i64 y.s, .int .i64 y.p, .int .i64 y.t, .int .i64 y.a, .int .i64 y.l, .int .i64 y.c, .int .i64 y.n, .int .i64 y.i, .string nm2, .slice ao2 l2.length cap2] : Array Value).extract o (o + n)).toList) := fun o n => World.rangeAt_of_block (HX.out _).1 o n
  have HR4 : Hid ((w.alloc (.cells #[.int .i64 4, .int .i64 v1, .int .i64 n1, .slice ab bl.length cb, .int .i64 x.v, .int .i64 x.k, .int .i64 x.s, .int .i64 x.p, .int .i64 x.t, .int .i64 x.a, .int .i64 x.l, .int .i64 x.c, .int .i64 x.n, .int .i64 x.i, .string nm, .slice ao l.length cap, .int .i64 y.v, .int .i64 y.k, .int .i64 y.s, .int .i64 y.p, .int .i64 y.t, .int .i64 y.a, .int .i64 y.l, .int .i64 y.c, .int .i64 y.n, .int .i64 y.i, .string nm2, .slice ao2 l2.length cap2] 49)).rangeAt w.heap.size 4 [.int .i64 x.v, .int .i64 x.k, .int .i64 x.s, .int .i64 x.p, .int .i64 x.t, .int .i64 x.a, .int .i64 x.l, .int .i64 x.c, .int .i64 x.n, .int .i64 x.i, .string nm, .slice ao l.length cap]) := HR.out 4 12
  have HR16 : Hid ((w.alloc (.cells #[.int .i64 4, .int .i64 v1, .int .i64 n1, .slice ab bl.length cb, .int .i64 x.v, .int .i64 x.k, .int .i64 x.s, .int .i64 x.p, .int .i64 x.t, .int .i64 x.a, .int .i64 x.l, .int .i64 x.c, .int .i64 x.n, .int .i64 x.i, .string nm, .slice ao l.length cap, .int .i64 y.v, .int .i64 y.k, .int .i64 y.s, .int .i64 y.p, .int .i64 y.t, .int .i64 y.a, .int .i64 y.l, .int .i64 y.c, .int .i64 y.n, .int .i64 y.i, .string nm2, .slice ao2 l2.length cap2] 49)).rangeAt w.heap.size 16 [.int .i64 y.v, .int .i64 y.k, .int .i64 y.s, .int .i64 y.p, .int .i64 y.t, .int .i64 y.a, .int .i64 y.l, .int .i64 y.c, .int .i64 y.n, .int .i64 y.i, .string nm2, .slice ao2 l2.length cap2]) := HR.out 16 12
  clear hO hT HR
  unfold opL
  go_enter Tryd.func22, Tryd.ntmps22
  go_wp2_with fail
  refine (HC.out _ (HX.out _).2).mono ?_
  rintro e w1 ⟨rfl, b1⟩
  have B1 := andThen (HX.out _).2 b1
  clear b1 HX HC HR4 HR16 HIR
  go_wp2
  go_ret
  exact ⟨rfl, B1⟩
set_option maxRecDepth 100000 in
set_option maxHeartbeats 4000000 in
theorem step_5 (v1 n1 : Int) (bv d d2 : Value) (x y : Nums) (nm nm2 : ByteArray) (bl l l2 : List Nat) (w : World) (hO : OpIs w bv d d2 x nm bl l l2) :
    Calls Tryd.prog 22 #[.agg (opL 5 v1 n1 bv d d2 x y nm nm2).toArray] w fun e w' => e = .returned (.bool true) ∧ Below w.heap.size w w' := by
  have HX : Hid (∀ o, (w.alloc o).heap[w.heap.size]? = some o ∧ Below w.heap.size w (w.alloc o)) := fun o => ⟨Array.getElem?_push_size, up0 w o⟩
  have HIR : Hid ((Tryd.prog.info? 24).map (·.size) = some 12) := infoRec
  have HC : Hid (∀ w', Below w.heap.size w w' → Calls Tryd.prog 44 #[rv x nm d, rv y nm2 d2] w' fun e w'' => e = .returned (.bool true) ∧ Below w'.heap.size w' w'') := fun w' hb => rlooks_any x y nm nm2 d d2 l l2 w' (hO.h.kept hb) (hO.h2.kept hb) (Nat.le_trans hO.hl (by decide))
  obtain ⟨ab, cb, rfl, _⟩ := hO.hb.shape
  obtain ⟨ao, cap, rfl, _⟩ := hO.h.shape
  obtain ⟨ao2, cap2, rfl, _⟩ := hO.h2.shape
  have HR : Hid (∀ o n, (w.alloc (.cells #[.int .i64 5, .int .i64 v1, .int .i64 n1, .slice ab bl.length cb, .int .i64 x.v, .int .i64 x.k, .int .i64 x.s, .int .i64 x.p, .int .i64 x.t, .int .i64 x.a, .int .i64 x.l, .int .i64 x.c, .int .i64 x.n, .int .i64 x.i, .string nm, .slice ao l.length cap, .int .i64 y.v, .int .i64 y.k, .int .i64 y.s, .int .i64 y.p, .int .i64 y.t, .int .i64 y.a, .int .i64 y.l, .int .i64 y.c, .int .i64 y.n, .int .i64 y.i, .string nm2, .slice ao2 l2.length cap2] 49)).rangeAt w.heap.size o ((#[.int .i64 5, .int .i64 v1, .int .i64 n1, .slice ab bl.length cb, .int .i64 x.v, .int .i64 x.k, .int .i64 x.s, .int .i64 x.p, .int .i64 x.t, .int .i64 x.a, .int .i64 x.l, .int .i64 x.c, .int .i64 x.n, .int .i64 x.i, .string nm, .slice ao l.length cap, .int .i64 y.v, .int .i64 y.k, .int .i64 y.s, .int .i64 y.p, .int .i64 y.t, .int .i64 y.a, .int .i64 y.l, .int .i64 y.c, .int .i64 y.n, .int .i64 y.i, .string nm2, .slice ao2 l2.length cap2] : Array Value).extract o (o + n)).toList) := fun o n => World.rangeAt_of_block (HX.out _).1 o n
  have HR4 : Hid ((w.alloc (.cells #[.int .i64 5, .int .i64 v1, .int .i64 n1, .slice ab bl.length cb, .int .i64 x.v, .int .i64 x.k, .int .i64 x.s, .int .i64 x.p, .int .i64 x.t, .int .i64 x.a, .int .i64 x.l, .int .i64 x.c, .int .i64 x.n, .int .i64 x.i, .string nm, .slice ao l.length cap, .int .i64 y.v, .int .i64 y.k, .int .i64 y.s, .int .i64 y.p, .int .i64 y.t, .int .i64 y.a, .int .i64 y.l, .int .i64 y.c, .int .i64 y.n, .int .i64 y.i, .string nm2, .slice ao2 l2.length cap2] 49)).rangeAt w.heap.size 4 [.int .i64 x.v, .int .i64 x.k, .int .i64 x.s, .int .i64 x.p, .int .i64 x.t, .int .i64 x.a, .int .i64 x.l, .int .i64 x.c, .int .i64 x.n, .int .i64 x.i, .string nm, .slice ao l.length cap]) := HR.out 4 12
  have HR16 : Hid ((w.alloc (.cells #[.int .i64 5, .int .i64 v1, .int .i64 n1, .slice ab bl.length cb, .int .i64 x.v, .int .i64 x.k, .int .i64 x.s, .int .i64 x.p, .int .i64 x.t, .int .i64 x.a, .int .i64 x.l, .int .i64 x.c, .int .i64 x.n, .int .i64 x.i, .string nm, .slice ao l.length cap, .int .i64 y.v, .int .i64 y.k, .int .i64 y.s, .int .i64 y.p, .int .i64 y.t, .int .i64 y.a, .int .i64 y.l, .int .i64 y.c, .int .i64 y.n, .int .i64 y.i, .string nm2, .slice ao2 l2.length cap2] 49)).rangeAt w.heap.size 16 [.int .i64 y.v, .int .i64 y.k, .int .i64 y.s, .int .i64 y.p, .int .i64 y.t, .int .i64 y.a, .int .i64 y.l, .int .i64 y.c, .int .i64 y.n, .int .i64 y.i, .string nm2, .slice ao2 l2.length cap2]) := HR.out 16 12
  clear hO HR
  unfold opL
  go_enter Tryd.func22, Tryd.ntmps22
  go_wp2_with (first | (refine wpList_load_mid rfl 24 _ rfl w.heap.size 4 rfl [.int .i64 x.v, .int .i64 x.k, .int .i64 x.s, .int .i64 x.p, .int .i64 x.t, .int .i64 x.a, .int .i64 x.l, .int .i64 x.c, .int .i64 x.n, .int .i64 x.i, .string nm, .slice ao l.length cap] _ HR4.out Tryd.underlying24 rfl HIR.out ?_) | (refine wpList_load_mid rfl 24 _ rfl w.heap.size 16 rfl [.int .i64 y.v, .int .i64 y.k, .int .i64 y.s, .int .i64 y.p, .int .i64 y.t, .int .i64 y.a, .int .i64 y.l, .int .i64 y.c, .int .i64 y.n, .int .i64 y.i, .string nm2, .slice ao2 l2.length cap2] _ HR16.out Tryd.underlying24 rfl HIR.out ?_))
  refine (HC.out _ (HX.out _).2).mono ?_
  rintro e w1 ⟨rfl, b1⟩
  have B1 := andThen (HX.out _).2 b1
  clear b1 HX HC HR4 HR16 HIR
  go_wp2
  go_ret
  exact ⟨rfl, B1⟩
set_option maxRecDepth 100000 in
set_option maxHeartbeats 4000000 in
theorem step_0 (kd : Int) (v1 n1 : Int) (bv d d2 : Value) (x y : Nums) (nm nm2 : ByteArray) (bl l l2 : List Nat) (w : World) (hO : OpIs w bv d d2 x nm bl l l2) (h1 : kd ≠ 1) (h2 : kd ≠ 2) (h3 : kd ≠ 3) (h4 : kd ≠ 4) (h5 : kd ≠ 5) :
    Calls Tryd.prog 22 #[.agg (opL kd v1 n1 bv d d2 x y nm nm2).toArray] w fun e w' => e = .returned (.bool true) ∧ Below w.heap.size w w' := by
  have HX : Hid (∀ o, Below w.heap.size w (w.alloc o)) := fun o => up0 w o
  obtain ⟨ab, cb, rfl, _⟩ := hO.hb.shape
  obtain ⟨ao, cap, rfl, _⟩ := hO.h.shape
  obtain ⟨ao2, cap2, rfl, _⟩ := hO.h2.shape
  clear hO
  have d1 : (kd == 1) = false := by rw [beq_eq_false_iff_ne]; exact h1
  have d2 : (kd == 2) = false := by rw [beq_eq_false_iff_ne]; exact h2
  have d3 : (kd == 3) = false := by rw [beq_eq_false_iff_ne]; exact h3
  have d4 : (kd == 4) = false := by rw [beq_eq_false_iff_ne]; exact h4
  have d5 : (kd == 5) = false := by rw [beq_eq_false_iff_ne]; exact h5
  clear h1 h2 h3 h4 h5
  unfold opL
  go_enter Tryd.func22, Tryd.ntmps22
  go_wp2
  go_ret
  exact ⟨rfl, HX.out _⟩
theorem step_any (kd : Int) (v1 n1 : Int) (bv d d2 : Value) (x y : Nums) (nm nm2 : ByteArray) (bl l l2 : List Nat) (w : World) (hO : OpIs w bv d d2 x nm bl l l2) (hT : Tabs w) :
    Calls Tryd.prog 22 #[.agg (opL kd v1 n1 bv d d2 x y nm nm2).toArray] w fun e w' => e = .returned (.bool true) ∧ Below w.heap.size w w' := by
  by_cases h1 : kd = 1
  · subst h1; exact step_1 v1 n1 bv d d2 x y nm nm2 bl l l2 w hO hT
  by_cases h2 : kd = 2
  · subst h2; exact step_2 v1 n1 bv d d2 x y nm nm2 bl l l2 w hO hT
  by_cases h3 : kd = 3
  · subst h3; exact step_3 v1 n1 bv d d2 x y nm nm2 bl l l2 w hO hT
  by_cases h4 : kd = 4
  · subst h4; exact step_4 v1 n1 bv d d2 x y nm nm2 bl l l2 w hO hT
  by_cases h5 : kd = 5
  · subst h5; exact step_5 v1 n1 bv d d2 x y nm nm2 bl l l2 w hO
  exact step_0 kd v1 n1 bv d d2 x y nm nm2 bl l l2 w hO h1 h2 h3 h4 h5
end Go.Proofs.YtfkpdmmgjgchjaaDoor

/-
  RecordPlays: the law's walk.
-/
namespace Go.Proofs.YtfkpdmmgjgchjaaDoor
open Go Go.RowKit
open Wb

/-- one Op lies at an offset -/
def OpAt3 (w : World) (b off : Nat) (D : List Value) : Prop := ∃ kd v1 n1 bv d d2 x y nm nm2 bl l l2, D = opL kd v1 n1 bv d d2 x y nm nm2 ∧ w.rangeAt b off D ∧ OpIs w bv d d2 x nm bl l l2
theorem OpAt3.kept {w w' : World} {b off : Nat} {D : List Value} (h : OpAt3 w b off D) (hb : Below w.heap.size w w') : OpAt3 w' b off D := by
  obtain ⟨kd, v1, n1, bv, d, d2, x, y, nm, nm2, bl, l, l2, e, hr, ho⟩ := h
  refine ⟨kd, v1, n1, bv, d, d2, x, y, nm, nm2, bl, l, l2, e, fun j v hv => ?_, ho.kept hb⟩
  have h1 := hr j v hv
  rw [hb.cell (World.block_lt_of_cell? w _ h1)]
  exact h1
theorem OpAt3.len {w : World} {b off : Nat} {D : List Value} (h : OpAt3 w b off D) : D.length = 28 := by
  obtain ⟨kd, v1, n1, bv, d, d2, x, y, nm, nm2, bl, l, l2, rfl, _⟩ := h
  rfl
theorem OpAt3.plays {w : World} {b off : Nat} {D : List Value} (h : OpAt3 w b off D) (hT : Tabs w) : Calls Tryd.prog 22 #[.agg D.toArray] w fun e w' => e = .returned (.bool true) ∧ Below w.heap.size w w' := by
  obtain ⟨kd, v1, n1, bv, d, d2, x, y, nm, nm2, bl, l, l2, rfl, _, ho⟩ := h
  exact step_any kd v1 n1 bv d d2 x y nm nm2 bl l l2 w ho hT
def Script3 (w : World) (v : Value) (n : Nat) : Prop := ∃ ao cap, v = .slice ao n cap ∧ n ≤ maxLen ∧ ∀ k, k < n → ∃ b off D, ao = some ⟨b, off, none⟩ ∧ OpAt3 w b (off + k * 28) D
theorem Script3.kept {w w' : World} {v : Value} {n : Nat} (h : Script3 w v n) (hb : Below w.heap.size w w') : Script3 w' v n := by
  obtain ⟨ao, cap, e, hn, hc⟩ := h
  refine ⟨ao, cap, e, hn, fun k hk => ?_⟩
  obtain ⟨b, off, D, e2, hop⟩ := hc k hk
  exact ⟨b, off, D, e2, hop.kept hb⟩
theorem infoOp : (Tryd.prog.info? 49).map (·.size) = some 28 := by kernel_rfl
set_option maxRecDepth 100000 in
set_option maxHeartbeats 4000000 in
theorem rplays_any (v : Value) (n : Nat) (w : World) (h : Script3 w v n) (hT : Tabs w) :
    Calls Tryd.prog 6 #[v] w fun e w' => e = .returned (.bool true) ∧ Below w.heap.size w w' := by
  have HST : Hid (∀ w', Below w.heap.size w w' → Calls Tryd.prog 9 #[] w' fun e w'' => e = .returned (.bool true) ∧ Below w'.heap.size w' w'') := fun w' hb' => started_any w' (hT.kept hb').lets (hT.kept hb').tags
  have HT : Hid (∀ w', Below w.heap.size w w' → Tabs w') := fun w' hb => hT.kept hb
  obtain ⟨ao, cap, rfl, hn, hc⟩ := h
  have HC : Hid (∀ k, k < n → ∃ b off D, ao = some ⟨b, off, none⟩ ∧ OpAt3 w b (off + k * 28) D) := hc
  have hio := infoOp
  unfold maxLen at hn
  clear hc hT
  go_enter Tryd.func6, Tryd.ntmps6
  go_wp2_with fail
  refine (HST.out _ (Below.refl _ _)).mono ?_
  rintro e w1 ⟨rfl, b1⟩
  clear HST
  go_wp2
  go_loopw [3, 4] (fun o i wr => o = .bool true ∧ ∃ k : Nat, k ≤ n ∧ i = .int .i64 (k : Int) ∧ Below w.heap.size w wr) (fun _ i _ => n - (intOf i).toNat)
  case atStart => exact ⟨rfl, 0, Nat.zero_le _, rfl, b1⟩
  case round =>
    obtain ⟨rfl, k, hk, rfl, hbel⟩ := hrel
    by_cases hlt : k < n
    · obtain ⟨b, off, D, rfl, hop⟩ := HC.out k hlt
      have hop' := hop.kept hbel
      have HPL : Hid (Calls Tryd.prog 22 #[.agg D.toArray] wr fun e w' => e = .returned (.bool true) ∧ Below wr.heap.size wr w') := hop'.plays (HT.out _ hbel)
      have HDI : Hid ((Tryd.prog.info? 49).map (·.size) = some D.length) := by show _ = _; rw [hop.len]; exact hio
      have HRG : Hid (wr.rangeAt b (off + k * 28) D) := by
        obtain ⟨_, _, _, _, _, _, _, _, _, _, _, _, _, _, hr, _⟩ := hop'
        exact hr
      clear hop hop' HC b1
      go_wp2_with (refine wpList_load_mid rfl 49 _ rfl b (off + k * 28) rfl D _ HRG.out Tryd.underlying49 rfl HDI.out ?_)
      refine HPL.out.mono ?_
      rintro e w2 ⟨rfl, b2⟩
      have hb2 := andThen hbel b2
      clear b2 hbel HPL HRG HDI
      go_wp2
      go_roundw
      case rel => exact ⟨rfl, k + 1, by omega, by go_num, hb2⟩
      case measure => simp [intOf]; omega
    · go_wp2
      go_ret
      exact ⟨rfl, hbel⟩
end Go.Proofs.YtfkpdmmgjgchjaaDoor

/-
  RecordPlays: the argument.
-/
namespace Go.Proofs.YtfkpdmmgjgchjaaDoor
open Go Go.RowKit Go.ChangeShapes Go.WideShapes Go.ChangeAt
open Wb

set_option maxRecDepth 100000 in
theorem open_recl {H : Type} {enc : TypeId × Value → H} {W : World} {fuel : Nat} {vs : List Value} {d : DataW H} {p : List MemPlace} (hf : DataW.trod enc Tryd.prog W 0 (fun _ => true) true fuel 24 vs = some (d, p)) (hlen : vs.length = 12) :
    ∃ (x : Nums) (nm : ByteArray) (dv : Value) (l : List Nat), vs = [.int .i64 x.v, .int .i64 x.k, .int .i64 x.s, .int .i64 x.p, .int .i64 x.t, .int .i64 x.a, .int .i64 x.l, .int .i64 x.c, .int .i64 x.n, .int .i64 x.i, .string nm, dv] ∧ Bs W dv l ∧ nm.size + l.length ≤ Rows.uptoBulk d ∧ x.fit := by
  obtain ⟨xs, k', _, hxy, _, hxl, hfs⟩ := DataW.trod_struct Tryd.underlying24 hf
  match xs, hxl, vs, hlen with
  | [y0, y1, y2, y3, y4, y5, y6, y7, y8, y9, y10, y11], _, [v0, v1, v2, v3, v4, v5, v6, v7, v8, v9, v10, v11], _ =>
    have g0 := hfs 0 _ rfl
    have g1 := hfs 1 _ rfl
    have g2 := hfs 2 _ rfl
    have g3 := hfs 3 _ rfl
    have g4 := hfs 4 _ rfl
    have g5 := hfs 5 _ rfl
    have g6 := hfs 6 _ rfl
    have g7 := hfs 7 _ rfl
    have g8 := hfs 8 _ rfl
    have g9 := hfs 9 _ rfl
    have g10 := hfs 10 _ rfl
    have g11 := hfs 11 _ rfl
    simp [cellsTIk, cellsTSTRk, cellsTBSk] at g0 g1 g2 g3 g4 g5 g6 g7 g8 g9 g10 g11
    simp only [Prod.mk.injEq] at hxy
    obtain ⟨z0, e0, _, _⟩ := DataW.trod_int Tryd.underlying3 g0
    obtain ⟨z1, e1, _, b1⟩ := DataW.trod_int Tryd.underlying3 g1
    obtain ⟨z2, e2, _, b2⟩ := DataW.trod_int Tryd.underlying3 g2
    obtain ⟨z3, e3, _, b3⟩ := DataW.trod_int Tryd.underlying3 g3
    obtain ⟨z4, e4, _, b4⟩ := DataW.trod_int Tryd.underlying3 g4
    obtain ⟨z5, e5, _, b5⟩ := DataW.trod_int Tryd.underlying3 g5
    obtain ⟨z6, e6, _, b6⟩ := DataW.trod_int Tryd.underlying3 g6
    obtain ⟨z7, e7, _, b7⟩ := DataW.trod_int Tryd.underlying3 g7
    obtain ⟨z8, e8, _, b8⟩ := DataW.trod_int Tryd.underlying3 g8
    obtain ⟨z9, e9, _, b9⟩ := DataW.trod_int Tryd.underlying3 g9
    obtain ⟨z10, e10, q10, _⟩ := DataW.trod_string Tryd.underlying9 g10
    obtain ⟨l, hb, hlb⟩ := open_bsk g11
    have hw10 : z10.size + l.length ≤ Rows.uptoBulk d := by
      have h10 : y10.1 = .lit (.string z10.data.toList) := congrArg Prod.fst q10
      rw [hxy.1]
      simp [Rows.uptoBulk, Rows.uptoBulkAll, h10] at hlb ⊢
      have : z10.data.size = z10.size := rfl
      omega
    simp only [List.cons.injEq, and_true] at e0 e1 e2 e3 e4 e5 e6 e7 e8 e9 e10
    subst e0 e1 e2 e3 e4 e5 e6 e7 e8 e9 e10
    refine ⟨⟨z0, z1, z2, z3, z4, z5, z6, z7, z8, z9⟩, z10, v11, l, rfl, hb, hw10, fun t h1 h9 => ?_⟩
    obtain rfl | rfl | rfl | rfl | rfl | rfl | rfl | rfl | rfl : t = 1 ∨ t = 2 ∨ t = 3 ∨ t = 4 ∨ t = 5 ∨ t = 6 ∨ t = 7 ∨ t = 8 ∨ t = 9 := by omega
    · exact i64_boundsk b1
    · exact i64_boundsk b2
    · exact i64_boundsk b3
    · exact i64_boundsk b4
    · exact i64_boundsk b5
    · exact i64_boundsk b6
    · exact i64_boundsk b7
    · exact i64_boundsk b8
    · exact i64_boundsk b9
theorem bulk_memr {H : Type} : ∀ {l : List (DataW H)} {d : DataW H}, d ∈ l → Rows.uptoBulk d ≤ Rows.uptoBulkAll l
  | x :: r, d, hd => by
    simp only [Rows.uptoBulkAll]
    rcases List.mem_cons.1 hd with rfl | h
    · omega
    · have := bulk_memr h
      omega
theorem cellsOP3 : Tryd.prog.cellsOf 49 = 28 := by kernel_rfl
set_option maxRecDepth 100000 in
set_option maxHeartbeats 2000000 in
theorem open_op3 {H : Type} {enc : TypeId × Value → H} {W : World} {fuel : Nat} {cs : List Value} {d : DataW H} {p : List MemPlace} (hf : DataW.trod enc Tryd.prog W 0 (fun _ => true) true fuel 49 cs = some (d, p)) (hlen : cs.length = 28) (hw : Rows.uptoBulk d ≤ 1048576) :
    ∃ kd v1 n1 bv d1 d2 x y nm nm2 bl l l2, cs = opL kd v1 n1 bv d1 d2 x y nm nm2 ∧ OpIs W bv d1 d2 x nm bl l l2 := by
  obtain ⟨xs, k', _, hxy, _, hxl, hfs⟩ := DataW.trod_struct Tryd.underlying49 hf
  match xs, hxl, cs, hlen with
  | [y0, y1, y2, y3, (y4, p4), (y5, p5)], _, [v0, v1, v2, v3, a0, a1, a2, a3, a4, a5, a6, a7, a8, a9, a10, a11, b0, b1, b2, b3, b4, b5, b6, b7, b8, b9, b10, b11], _ =>
    have g0 := hfs 0 _ rfl
    have g1 := hfs 1 _ rfl
    have g2 := hfs 2 _ rfl
    have g3 := hfs 3 _ rfl
    have g4 := hfs 4 _ rfl
    have g5 := hfs 5 _ rfl
    simp [cellsTIk, cellsTBSk, cellsRECk] at g0 g1 g2 g3 g4 g5
    simp only [Prod.mk.injEq] at hxy
    have hw5 : Rows.uptoBulk y3.1 ≤ 1048576 ∧ Rows.uptoBulk y4 ≤ 1048576 := by
      rw [hxy.1] at hw
      simp only [Rows.uptoBulk, Rows.uptoBulkAll, List.map_cons, List.map_nil] at hw
      omega
    obtain ⟨z0, e0, _⟩ := DataW.trod_int Tryd.underlying3 g0
    obtain ⟨z1, e1, _⟩ := DataW.trod_int Tryd.underlying3 g1
    obtain ⟨z2, e2, _⟩ := DataW.trod_int Tryd.underlying3 g2
    obtain ⟨bl, hb, hbl⟩ := open_bsk g3
    obtain ⟨x, nm, d1, l, e4, h4, hw4, hx4⟩ := open_recl g4 rfl
    obtain ⟨y, nm2, d2, l2, e5, h5, _, _⟩ := open_recl g5 rfl
    refine ⟨z0, z1, z2, v3, d1, d2, x, y, nm, nm2, bl, l, l2, ?_, ⟨hb, h4, h5, by omega, by omega, by omega, hx4⟩⟩
    simp only [List.cons.injEq, and_true] at e0 e1 e2 e4 e5
    unfold opL
    simp only [e0, e1, e2, e4, e5]
set_option maxRecDepth 100000 in
theorem open_script3 {H : Type} {enc : TypeId × Value → H} {W : World} {base : Nat} {v : Value} {d : DataW H} {p : List MemPlace} (hv : Value.okWide Tryd.prog W .any base 46 v)
    (h : DataW.Trod enc Tryd.prog W 0 (fun _ => true) true 46 v d p) (hw : Rows.uptoBulk d ≤ 1048576) : ∃ n, Script3 W v n := by
  obtain ⟨a0, len0, cap0, rfl⟩ := okWide_slice Tryd.underlying46 hv
  obtain ⟨fuel, hf⟩ := h
  rcases Deep.open_slice Tryd.underlying46 hf with ⟨hcs, _⟩ | ⟨a, len, cap, m, n, D, Pl, hcs, _, hl, hm, hmm, hx, hel⟩
  · simp [Value.cells] at hcs
    obtain ⟨rfl, rfl, rfl⟩ := hcs
    exact ⟨0, none, 0, rfl, by simp [maxLen], fun k hk => absurd hk (Nat.not_lt_zero _)⟩
  · simp [Value.cells] at hcs
    obtain ⟨rfl, rfl, rfl⟩ := hcs
    simp only [Prod.mk.injEq] at hx
    refine ⟨len0, some a, cap0, rfl, by omega, fun k hk => ?_⟩
    have hkm : k < m := by rw [hmm]; simp; omega
    have hspot : a.spot = none := by
      obtain ⟨cs0, h10, _⟩ := hel 0 (by omega)
      rw [cellsOP3] at h10
      obtain ⟨_, hl0, hc0⟩ := World.cells?_some h10
      have r0 := hc0 0 (by omega)
      rw [List.getElem?_eq_getElem (show 0 < cs0.length by omega)] at r0
      simpa [Addr.add] using World.cell?_spot r0
    obtain ⟨cs', h1, h2⟩ := hel k hkm
    have hwk : Rows.uptoBulk (D k) ≤ 1048576 := by
      rw [hx.1] at hw
      simp only [Rows.uptoBulk] at hw
      have := bulk_memr (l := (List.range len0).map D) (d := D k) (List.mem_map.2 ⟨k, List.mem_range.2 hk, rfl⟩)
      omega
    rw [cellsOP3] at h1
    obtain ⟨_, hlen, hcell⟩ := World.cells?_some h1
    obtain ⟨kd, v1, n1, bv, d1, d2, x, y, nm, nm2, bl, l, l2, e, ho⟩ := open_op3 h2 hlen hwk
    obtain ⟨b, off, spot⟩ := a
    obtain rfl : spot = none := hspot
    refine ⟨b, off, cs', rfl, kd, v1, n1, bv, d1, d2, x, y, nm, nm2, bl, l, l2, e, fun j u hu => ?_, ho⟩
    have hj : j < 28 := by have := (List.getElem?_eq_some_iff.1 hu).1; omega
    have := hcell j hj
    rw [Deep.add_add, Go.WideShapes.add_plain, ← Nat.add_assoc, hu] at this
    exact this
end Go.Proofs.YtfkpdmmgjgchjaaDoor
