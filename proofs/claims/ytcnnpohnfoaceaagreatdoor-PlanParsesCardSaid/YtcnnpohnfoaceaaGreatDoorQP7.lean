import Derived.Test.YtcnnpohnfoaceaaGreatDoorQP6
import Derived.Test.YtcnnpohnfoaceaaGreatDoorQPC
/-
  The plan laws: one, num, clone, firsts.
-/
namespace Go.Proofs.YtcnnpohnfoaceaaGreatDoor
open Go Go.RowKit
open Wb

theorem plnum_any (n : Int) (w : World) (_h1 : -9223372036854775808 ≤ n) (_h2 : n ≤ 9223372036854775807) : Calls Tryz.prog 7 #[.int .i64 n] w fun e w' => e = .returned (.int .i64 n) ∧ w' = w := by
  go_enter Tryz.func7, Tryz.ntmps7
  go_wp2
  go_ret
  exact ⟨rfl, rfl⟩
def stq1 : Stp := ⟨⟨#[98]⟩, ⟨#[99]⟩, 1⟩
def plq1 : Pln := ⟨⟨#[97]⟩, 0, [stq1]⟩
theorem plone_any (w : World) : Calls Tryz.prog 10 #[] w fun e w' => ∃ g, e = .returned (.agg #[.string ⟨#[97]⟩, .int .i64 0, .slice (some ⟨g, 0, none⟩) 1 1]) ∧ StsAt w' (.slice (some ⟨g, 0, none⟩) 1 1) plq1.ss ∧ Below w.heap.size w w' := by
  go_enter Tryz.func10, Tryz.ntmps10
  go_wp2
  obtain ⟨X, eX⟩ : ∃ X, X = (w.alloc (.cells #[.string ⟨#[97]⟩, .int .i64 0, .slice (some ⟨w.heap.size + 1, 0, none⟩) 1 1] 25)).alloc (.cells #[.string ⟨#[98]⟩, .string ⟨#[99]⟩, .int .i64 1] 60) := ⟨_, rfl⟩
  have H1 : Hid (LB X w.heap.size 25 (plvl plq1 (.slice (some ⟨w.heap.size + 1, 0, none⟩) 1 1)) ∧ LB X (w.heap.size + 1) 60 (stl stq1) ∧ Below w.heap.size w X) := by
    rw [eX]
    exact lb_new2 w (plvl plq1 (.slice (some ⟨w.heap.size + 1, 0, none⟩) 1 1)) (stl stq1) 25 60
  rw [← eX]
  clear eX
  have y0 := H1.out.1.cell 0 _ rfl
  have y1 := H1.out.1.cell 1 _ rfl
  have y2 := H1.out.1.cell 2 _ rfl
  refine bodyPost_ret (by simp [results, Tryz.results10, go_sem, y0, y1, y2]; try rfl) rfl ?_
  refine ⟨w.heap.size + 1, rfl, ⟨_, _, rfl, Nat.le_refl _, by unfold maxLen; decide, fun k s hs => ?_⟩, H1.out.2.2⟩
  cases k with
  | zero =>
    obtain rfl : stq1 = s := by simpa [plq1] using hs
    exact ⟨_, _, rfl, by simpa using H1.out.2.1.range⟩
  | succ k => simp [plq1] at hs
/-- append(nil, steps...) -/
theorem app_steps {P : Program} (w : World) (B : Nat) (t ty : TypeId) (hinfo : (P.info? 60).map (fun i => (i.zero, i.size, i.bytes)) = some (some (.agg #[.string ⟨#[]⟩, .string ⟨#[]⟩, .int .i64 0]), 3, 40)) (ht : P.underlying t = some (.slice 60))
    (g off c : Nat) (ss : List Stp) (hc : ∀ k s, ss[k]? = some s → w.rangeAt g (off + k * 3) (stl s)) (hn : ss.length ≤ 2000000) (hB : B ≤ w.heap.size) :
    ∃ v' w', (Builtin.append_ #[t, t] ty #[.slice none 0 0, .slice (some ⟨g, off, none⟩) ss.length c]).run P w = .ok v' w' ∧ w'.ownsRow B 60 3 v' ss.length (ss.flatMap stl) ∧ w.grownBy w' none := by
  obtain ⟨i0, hi, hz0, hz1, hz2⟩ := info_of hinfo
  have hf : ∀ (l : List Stp) (j : Nat) (u : Value), (l.flatMap stl)[j]? = some u → ∃ k s, l[k]? = some s ∧ ∃ i, j = k * 3 + i ∧ (stl s)[i]? = some u := by
    intro l
    induction l with
    | nil => intro j u h; simp at h
    | cons x r ih =>
      intro j u h
      rw [List.flatMap_cons] at h
      by_cases hj : j < 3
      · rw [List.getElem?_append_left (by show j < 3; omega)] at h
        exact ⟨0, x, rfl, j, by omega, h⟩
      · rw [List.getElem?_append_right (by show 3 ≤ j; omega)] at h
        obtain ⟨k, s, hs, i, hi, hu⟩ := ih (j - 3) u h
        exact ⟨k + 1, s, by simpa using hs, i, by omega, hu⟩
  have hlen : ∀ l : List Stp, (l.flatMap stl).length = l.length * 3 := fun l => by
    induction l with
    | nil => rfl
    | cons x r ih => rw [List.flatMap_cons, List.length_append, ih, List.length_cons]; show 3 + _ = _; omega
  obtain ⟨v', w', hr, h2, h3, _⟩ := run_append_own (P := P) w B t ty 60 i0 _ 3 40 ht hi hz0 hz1 hz2 rfl (by decide) (.slice none 0 0) 0 [] (World.ownsRow_nil _ _ _ _) ⟨g, off, none⟩ ss.length c (ss.flatMap stl) (hlen ss) (fun j u hj => by
    obtain ⟨k, s, hs, i, rfl, hu⟩ := hf ss j u hj
    have := hc k s hs i u hu
    rw [Addr.add_lit, show off + (k * 3 + i) = off + k * 3 + i by omega]
    exact this) (fun u hu => by
    obtain ⟨s, hs, hu⟩ := List.mem_flatMap.1 hu
    simp only [stl, List.mem_cons, List.not_mem_nil, or_false] at hu
    rcases hu with rfl | rfl | rfl <;> rfl) (by unfold maxLen; omega) (by omega) hB
  refine ⟨v', w', hr, by simpa using h2, ?_⟩
  exact h3
theorem wpList_app_steps {P : Program} (w : World) {ops : Array Oper} {rest : List Oper} {o : Oper} {a : Act} {Q : Exit → Act → World → Prop} (hgd : o.guard = none) (s x : Operand) (t : TypeId)
    (ho : o.op = .call { callee := .builtin .append, args := #[s, x], argTypes := #[t, t] }) (B : Nat)
    (hinfo : (P.info? 60).map (fun i => (i.zero, i.size, i.bytes)) = some (some (.agg #[.string ⟨#[]⟩, .string ⟨#[]⟩, .int .i64 0]), 3, 40)) (ht : P.underlying t = some (.slice 60))
    (g off c : Nat) (ss : List Stp) (hv : a.eval s = .slice none 0 0) (hxe : a.eval x = .slice (some ⟨g, off, none⟩) ss.length c) (hc : ∀ k s, ss[k]? = some s → w.rangeAt g (off + k * 3) (stl s)) (hn : ss.length ≤ 2000000) (hB : B ≤ w.heap.size)
    (hK : ∀ v' w', w'.ownsRow B 60 3 v' ss.length (ss.flatMap stl) → w.grownBy w' none → wpList P ops Q rest (a.put o.dst v') w') : wpList P ops Q (o :: rest) a w := by
  obtain ⟨v', w', hr, h1, h2⟩ := app_steps (P := P) w B t o.type hinfo ht g off c ss hc hn hB
  refine wpList_plain hgd fun _ hK' => ?_
  unfold Oper.wp
  simp [execOp, ho, resolve, invoke, builtin, hv, hxe, hr, Result.andThen]
  exact hK' _ _ (hK v' w' h1 h2)
theorem app_none (w : World) (ty : TypeId) (ao : Option Addr) (cap : Nat) : (Builtin.append_ #[23, 23] ty #[.slice none 0 0, .slice ao 0 cap]).run Tryz.prog w = .ok (.slice none 0 0) w := by
  have hi := infoStp3
  obtain ⟨i0, h1, h2, h3, h4⟩ := info_of hi
  cases ao with
  | none => simp [Builtin.append_, go_sem]
  | some a => simp [Builtin.append_, go_sem]
theorem wpList_app_none (w : World) {ops : Array Oper} {rest : List Oper} {o : Oper} {a : Act} {Q : Exit → Act → World → Prop} (hgd : o.guard = none) (s x : Operand)
    (ho : o.op = .call { callee := .builtin .append, args := #[s, x], argTypes := #[23, 23] }) (ao : Option Addr) (cap : Nat) (hv : a.eval s = .slice none 0 0) (hxe : a.eval x = .slice ao 0 cap)
    (hK : wpList Tryz.prog ops Q rest (a.put o.dst (.slice none 0 0)) w) : wpList Tryz.prog ops Q (o :: rest) a w := by
  have hr := app_none w o.type ao cap
  refine wpList_plain hgd fun _ hK' => ?_
  unfold Oper.wp
  simp [execOp, ho, resolve, invoke, builtin, hv, hxe, hr, Result.andThen]
  exact hK' _ _ hK
end Go.Proofs.YtcnnpohnfoaceaaGreatDoor

/-
  The plan laws: firsts.
-/
namespace Go.Proofs.YtcnnpohnfoaceaaGreatDoor
open Go Go.RowKit
open Wb

def sqa : Stp := ⟨⟨#[33]⟩, ⟨#[]⟩, 1⟩
def pqa : Pln := ⟨⟨#[97]⟩, 0, [sqa]⟩
def sqb : Stp := ⟨⟨#[98]⟩, ⟨#[100]⟩, 0⟩
def pqb : Pln := ⟨⟨#[97]⟩, 0, [stq1, sqb]⟩
theorem fErr_qa : (fErr pqa).1 = 35 := by decide +kernel
theorem fErr_qb : (fErr pqb).1 = 34 := by decide +kernel
theorem fErr_q1 : (fErr plq1).1 = 0 := by decide +kernel
theorem fErr_z : (fErr plnZ).1 = 35 := by decide +kernel
theorem print_q1 : (printP plq1) = ⟨#[97, 58, 32, 98, 126, 99]⟩ := by decide +kernel
theorem parse_1 : parseP ⟨#[97, 58, 32, 98, 126, 99]⟩ = (plq1, 0, 0) := by kernel_rfl
theorem parse_0 : parseP ⟨#[]⟩ = (plnZ, 150, 0) := by kernel_rfl
/-- the variables that the laws read -/
structure QTab (w : World) : Prop where
  wt : Text.WTab w
  rl : Text.TabP 1 .i64 Text.Tx.lets w
theorem QTab.kept {w w' : World} (h : QTab w) (hb : Below w.heap.size w w') : QTab w' := ⟨h.wt.kept hb, h.rl.kept hb⟩
theorem pft_qa : PFt pqa := ⟨by decide, by decide, by decide⟩
theorem pft_qb : PFt pqb := ⟨by decide, by decide, by decide⟩
theorem pft_q1 : PFt plq1 := ⟨by decide, by decide, by decide⟩
theorem pft_z : PFt plnZ := ⟨by decide, by decide, by decide⟩
theorem sts_z (w : World) : StsAt w (.slice none 0 0) plnZ.ss := ⟨none, 0, rfl, Nat.le_refl _, Nat.zero_le _, fun k s hs => by simp [plnZ] at hs⟩
theorem sts_lb {w : World} {g n : Nat} {ss : List Stp} (h : LB w g 60 (ss.flatMap stl)) (hn : ss.length = n) (hm : n ≤ 1000) : StsAt w (.slice (some ⟨g, 0, none⟩) n n) ss := by
  subst hn
  refine ⟨_, _, rfl, Nat.le_refl _, by unfold maxLen; omega, fun k s hs => ⟨g, 0, rfl, fun j u hj => ?_⟩⟩
  have hf : ∀ (l : List Stp) (k : Nat), l[k]? = some s → (l.flatMap stl)[k * 3 + j]? = some u := by
    intro l
    induction l with
    | nil => intro k h; simp at h
    | cons x r ih =>
      intro k h
      have hj3 : j < 3 := (List.getElem?_eq_some_iff.1 hj).1
      cases k with
      | zero =>
        simp at h
        subst h
        rw [List.flatMap_cons, Nat.zero_mul, Nat.zero_add, List.getElem?_append_left (by show j < 3; omega)]
        exact hj
      | succ k =>
        rw [List.flatMap_cons, List.getElem?_append_right (by show 3 ≤ _; omega)]
        show (r.flatMap stl)[(k + 1) * 3 + j - 3]? = _
        rw [show (k + 1) * 3 + j - 3 = k * 3 + j by omega]
        exact ih k (by simpa using h)
  rw [Nat.zero_add]
  exact h.cell (k * 3 + j) u (hf ss k hs)
set_option maxRecDepth 100000 in
set_option maxHeartbeats 8000000 in
theorem plfirsts_any (w : World) (hT : QTab w) : Calls Tryz.prog 12 #[] w fun e w' => e = .returned (.bool true) ∧ Below w.heap.size w w' := by
  obtain ⟨W, eW⟩ : ∃ W, W = (((w.alloc (.cells #[.string ⟨#[33]⟩, .string ⟨#[]⟩, .int .i64 1] 60)).alloc (.cells #[.string ⟨#[97]⟩, .int .i64 0, .slice (some ⟨w.heap.size, 0, none⟩) 1 1] 25)).alloc (.cells #[.string ⟨#[98]⟩, .string ⟨#[99]⟩, .int .i64 1, .string ⟨#[98]⟩, .string ⟨#[100]⟩, .int .i64 0] 60)).alloc (.cells #[.string ⟨#[97]⟩, .int .i64 0, .slice (some ⟨w.heap.size + 2, 0, none⟩) 2 2] 25) := ⟨_, rfl⟩
  have HW : Hid (StsAt W (.slice (some ⟨w.heap.size, 0, none⟩) 1 1) pqa.ss ∧ StsAt W (.slice (some ⟨w.heap.size + 2, 0, none⟩) 2 2) pqb.ss ∧ LB W (w.heap.size + 1) 25 (plvl pqa (.slice (some ⟨w.heap.size, 0, none⟩) 1 1)) ∧ LB W (w.heap.size + 3) 25 (plvl pqb (.slice (some ⟨w.heap.size + 2, 0, none⟩) 2 2)) ∧ Below w.heap.size w W) := by
    have l1 := lb_new w (pqa.ss.flatMap stl) 60
    have l2 := lb_new (w.alloc (.cells (pqa.ss.flatMap stl).toArray 60)) (plvl pqa (.slice (some ⟨w.heap.size, 0, none⟩) 1 1)) 25
    have l3 := lb_new ((w.alloc (.cells (pqa.ss.flatMap stl).toArray 60)).alloc (.cells (plvl pqa (.slice (some ⟨w.heap.size, 0, none⟩) 1 1)).toArray 25)) (pqb.ss.flatMap stl) 60
    have l4 := lb_new (((w.alloc (.cells (pqa.ss.flatMap stl).toArray 60)).alloc (.cells (plvl pqa (.slice (some ⟨w.heap.size, 0, none⟩) 1 1)).toArray 25)).alloc (.cells (pqb.ss.flatMap stl).toArray 60)) (plvl pqb (.slice (some ⟨w.heap.size + 2, 0, none⟩) 2 2)) 25
    rw [heap_one] at l2
    rw [heap_one, heap_one] at l3
    rw [heap_one, heap_one, heap_one] at l4
    rw [eW]
    exact ⟨sts_lb (((l1.kept (up0 _ _)).kept (up0 _ _)).kept (up0 _ _)) rfl (by decide), sts_lb (l3.kept (up0 _ _)) rfl (by decide), (l2.kept (up0 _ _)).kept (up0 _ _), l4, up (up (up (up0 _ _) _) _) _⟩
  have K : Hid (∀ W W', (StsAt W (.slice (some ⟨w.heap.size, 0, none⟩) 1 1) pqa.ss ∧ StsAt W (.slice (some ⟨w.heap.size + 2, 0, none⟩) 2 2) pqb.ss ∧ LB W (w.heap.size + 1) 25 (plvl pqa (.slice (some ⟨w.heap.size, 0, none⟩) 1 1)) ∧ LB W (w.heap.size + 3) 25 (plvl pqb (.slice (some ⟨w.heap.size + 2, 0, none⟩) 2 2)) ∧ Below w.heap.size w W) → Below W.heap.size W W' → (StsAt W' (.slice (some ⟨w.heap.size, 0, none⟩) 1 1) pqa.ss ∧ StsAt W' (.slice (some ⟨w.heap.size + 2, 0, none⟩) 2 2) pqb.ss ∧ LB W' (w.heap.size + 1) 25 (plvl pqa (.slice (some ⟨w.heap.size, 0, none⟩) 1 1)) ∧ LB W' (w.heap.size + 3) 25 (plvl pqb (.slice (some ⟨w.heap.size + 2, 0, none⟩) 2 2)) ∧ Below w.heap.size w W')) := fun W W' h hb => ⟨h.1.kept hb, h.2.1.kept hb, h.2.2.1.kept hb, h.2.2.2.1.kept hb, andThen h.2.2.2.2 hb⟩
  have HCA : Hid (∀ w', StsAt w' (.slice (some ⟨w.heap.size, 0, none⟩) 1 1) pqa.ss → Below w.heap.size w w' → Calls Tryz.prog 11 #[.agg #[.string ⟨#[97]⟩, .int .i64 0, .slice (some ⟨w.heap.size, 0, none⟩) 1 1]] w' fun e w'' => e = .returned (.int .i64 35) ∧ Below w'.heap.size w' w'') := fun w' h hb => by
    have e := pcheck_any pqa _ w' h (hT.kept hb).wt.lets pft_qa.fit
    rw [fErr_qa] at e
    exact e
  have HCB : Hid (∀ w', StsAt w' (.slice (some ⟨w.heap.size + 2, 0, none⟩) 2 2) pqb.ss → Below w.heap.size w w' → Calls Tryz.prog 11 #[.agg #[.string ⟨#[97]⟩, .int .i64 0, .slice (some ⟨w.heap.size + 2, 0, none⟩) 2 2]] w' fun e w'' => e = .returned (.int .i64 34) ∧ Below w'.heap.size w' w'') := fun w' h hb => by
    have e := pcheck_any pqb _ w' h (hT.kept hb).wt.lets pft_qb.fit
    rw [fErr_qb] at e
    exact e
  have HRA : Hid (∀ w', StsAt w' (.slice (some ⟨w.heap.size, 0, none⟩) 1 1) pqa.ss → Below w.heap.size w w' → Calls Tryz.prog 28 #[.agg #[.string ⟨#[97]⟩, .int .i64 0, .slice (some ⟨w.heap.size, 0, none⟩) 1 1]] w' fun e w'' => e = .returned (.int .i64 35) ∧ Below w'.heap.size w' w'') := fun w' h hb => by
    have e := rpcheck_any pqa _ w' h (hT.kept hb).rl pft_qa
    rw [fErr_qa] at e
    exact e
  have HRB : Hid (∀ w', StsAt w' (.slice (some ⟨w.heap.size + 2, 0, none⟩) 2 2) pqb.ss → Below w.heap.size w w' → Calls Tryz.prog 28 #[.agg #[.string ⟨#[97]⟩, .int .i64 0, .slice (some ⟨w.heap.size + 2, 0, none⟩) 2 2]] w' fun e w'' => e = .returned (.int .i64 34) ∧ Below w'.heap.size w' w'') := fun w' h hb => by
    have e := rpcheck_any pqb _ w' h (hT.kept hb).rl pft_qb
    rw [fErr_qb] at e
    exact e
  have HNU : Hid (∀ (n : Int) w', n = 34 ∨ n = 35 → Calls Tryz.prog 7 #[.int .i64 n] w' fun e w'' => e = .returned (.int .i64 n) ∧ w'' = w') := fun n w' h => plnum_any n w' (by omega) (by omega)
  have HD : Hid (∀ W, LB W (w.heap.size + 1) 25 (plvl pqa (.slice (some ⟨w.heap.size, 0, none⟩) 1 1)) → LB W (w.heap.size + 3) 25 (plvl pqb (.slice (some ⟨w.heap.size + 2, 0, none⟩) 2 2)) → (W.cell? ⟨w.heap.size + 1, 0, none⟩ = some (.string ⟨#[97]⟩) ∧ W.cell? ⟨w.heap.size + 1, 1, none⟩ = some (.int .i64 0) ∧ W.cell? ⟨w.heap.size + 1, 2, none⟩ = some (.slice (some ⟨w.heap.size, 0, none⟩) 1 1)) ∧ W.cell? ⟨w.heap.size + 3, 0, none⟩ = some (.string ⟨#[97]⟩) ∧ W.cell? ⟨w.heap.size + 3, 1, none⟩ = some (.int .i64 0) ∧ W.cell? ⟨w.heap.size + 3, 2, none⟩ = some (.slice (some ⟨w.heap.size + 2, 0, none⟩) 2 2)) := fun W l m => ⟨⟨l.cell 0 _ rfl, l.cell 1 _ rfl, l.cell 2 _ rfl⟩, m.cell 0 _ rfl, m.cell 1 _ rfl, m.cell 2 _ rfl⟩
  clear hT
  go_enter Tryz.func12, Tryz.ntmps12
  go_wp2_with fail
  rw [← eW]
  refine (HCA.out _ HW.out.1 HW.out.2.2.2.2).mono ?_
  rintro e w1 ⟨rfl, b1⟩
  have H1 : Hid (StsAt w1 (.slice (some ⟨w.heap.size, 0, none⟩) 1 1) pqa.ss ∧ StsAt w1 (.slice (some ⟨w.heap.size + 2, 0, none⟩) 2 2) pqb.ss ∧ LB w1 (w.heap.size + 1) 25 (plvl pqa (.slice (some ⟨w.heap.size, 0, none⟩) 1 1)) ∧ LB w1 (w.heap.size + 3) 25 (plvl pqb (.slice (some ⟨w.heap.size + 2, 0, none⟩) 2 2)) ∧ Below w.heap.size w w1) := K.out _ _ HW.out b1
  clear b1 HCA HW eW
  obtain ⟨⟨c0, c1, c2⟩, d0, d1, d2⟩ := HD.out _ H1.out.2.2.1 H1.out.2.2.2.1
  go_wp2_with (go_at_call 7; refine (HNU.out _ _ (by decide)).mono ?_; rintro e w' ⟨rfl, rfl⟩)
  refine (HCB.out _ H1.out.2.1 H1.out.2.2.2.2).mono ?_
  rintro e w2 ⟨rfl, b2⟩
  have H2 : Hid (StsAt w2 (.slice (some ⟨w.heap.size, 0, none⟩) 1 1) pqa.ss ∧ StsAt w2 (.slice (some ⟨w.heap.size + 2, 0, none⟩) 2 2) pqb.ss ∧ LB w2 (w.heap.size + 1) 25 (plvl pqa (.slice (some ⟨w.heap.size, 0, none⟩) 1 1)) ∧ LB w2 (w.heap.size + 3) 25 (plvl pqb (.slice (some ⟨w.heap.size + 2, 0, none⟩) 2 2)) ∧ Below w.heap.size w w2) := K.out _ _ H1.out b2
  clear b2 HCB H1 c0 c1 c2 d0 d1 d2
  obtain ⟨⟨c0, c1, c2⟩, d0, d1, d2⟩ := HD.out _ H2.out.2.2.1 H2.out.2.2.2.1
  go_wp2_with (go_at_call 7; refine (HNU.out _ _ (by decide)).mono ?_; rintro e w' ⟨rfl, rfl⟩)
  refine (HRA.out _ H2.out.1 H2.out.2.2.2.2).mono ?_
  rintro e w3 ⟨rfl, b3⟩
  have H3 : Hid (StsAt w3 (.slice (some ⟨w.heap.size, 0, none⟩) 1 1) pqa.ss ∧ StsAt w3 (.slice (some ⟨w.heap.size + 2, 0, none⟩) 2 2) pqb.ss ∧ LB w3 (w.heap.size + 1) 25 (plvl pqa (.slice (some ⟨w.heap.size, 0, none⟩) 1 1)) ∧ LB w3 (w.heap.size + 3) 25 (plvl pqb (.slice (some ⟨w.heap.size + 2, 0, none⟩) 2 2)) ∧ Below w.heap.size w w3) := K.out _ _ H2.out b3
  clear b3 HRA H2 c0 c1 c2 d0 d1 d2
  obtain ⟨⟨c0, c1, c2⟩, d0, d1, d2⟩ := HD.out _ H3.out.2.2.1 H3.out.2.2.2.1
  go_wp2_with fail
  refine (HRB.out _ H3.out.2.1 H3.out.2.2.2.2).mono ?_
  rintro e w4 ⟨rfl, b4⟩
  have H4 : Hid (Below w.heap.size w w4) := andThen H3.out.2.2.2.2 b4
  clear b4 HRB H3
  go_wp2_with fail
  go_ret
  exact ⟨rfl, H4.out⟩
end Go.Proofs.YtcnnpohnfoaceaaGreatDoor

/-
  The plan laws: started.
-/
namespace Go.Proofs.YtcnnpohnfoaceaaGreatDoor
open Go Go.RowKit
open Wb

set_option maxRecDepth 100000 in
set_option maxHeartbeats 16000000 in
theorem plstarted_any (w : World) (hT : QTab w) : Calls Tryz.prog 4 #[] w fun e w' => e = .returned (.bool true) ∧ Below w.heap.size w w' := by
  have HP1 : Hid (Calls Tryz.prog 5 #[.string ⟨#[97, 58, 32, 98, 126, 99]⟩] w fun e w'' => ∃ a c, e = .returned (.tuple #[.agg #[.string ⟨#[97]⟩, .int .i64 0, .slice a 1 c], .int .i64 0, .int .i64 0]) ∧ StsAt w'' (.slice a 1 c) plq1.ss ∧ Below w.heap.size w w'') := by
    have e := parse_any ⟨#[97, 58, 32, 98, 126, 99]⟩ w hT.wt
    rw [parse_1] at e
    refine e.mono ?_
    rintro e w' ⟨v, rfl, hr, hb⟩
    obtain ⟨a, c, ev⟩ := ownsRow_shape hr
    have hs := sts_of hr
    subst ev
    exact ⟨a, c, rfl, hs, hb⟩
  have HP0 : Hid (∀ w', Below w.heap.size w w' → Calls Tryz.prog 5 #[.string ⟨#[]⟩] w' fun e w'' => ∃ a c, e = .returned (.tuple #[.agg #[.string ⟨#[]⟩, .int .i64 0, .slice a 0 c], .int .i64 150, .int .i64 0]) ∧ Below w'.heap.size w' w'') := fun w' hb => by
    have e := parse_any ⟨#[]⟩ w' (hT.kept hb).wt
    rw [parse_0] at e
    refine e.mono ?_
    rintro e w' ⟨v, rfl, hr, hb⟩
    obtain ⟨a, c, ev⟩ := ownsRow_shape hr
    subst ev
    exact ⟨a, c, rfl, hb⟩
  have HON : Hid (∀ w', Calls Tryz.prog 10 #[] w' fun e w'' => ∃ g, e = .returned (.agg #[.string ⟨#[97]⟩, .int .i64 0, .slice (some ⟨g, 0, none⟩) 1 1]) ∧ StsAt w'' (.slice (some ⟨g, 0, none⟩) 1 1) plq1.ss ∧ Below w'.heap.size w' w'') := fun w' => plone_any w'
  have HPR : Hid (∀ g w', StsAt w' (.slice (some ⟨g, 0, none⟩) 1 1) plq1.ss → Below w.heap.size w w' → Calls Tryz.prog 9 #[.agg #[.string ⟨#[97]⟩, .int .i64 0, .slice (some ⟨g, 0, none⟩) 1 1]] w' fun e w'' => e = .returned (.tuple #[.string ⟨#[97, 58, 32, 98, 126, 99]⟩, .int .i64 0]) ∧ Below w'.heap.size w' w'') := fun g w' h hb => by
    have e := pprint_any plq1 _ w' h (hT.kept hb).wt.lets (hT.kept hb).wt.nt pft_q1.fit
    rw [show printA plq1 = (⟨#[97, 58, 32, 98, 126, 99]⟩, 0) by unfold printA; rw [if_pos fErr_q1, print_q1]] at e
    exact e
  have HC1 : Hid (∀ g w', StsAt w' (.slice (some ⟨g, 0, none⟩) 1 1) plq1.ss → Below w.heap.size w w' → Calls Tryz.prog 11 #[.agg #[.string ⟨#[97]⟩, .int .i64 0, .slice (some ⟨g, 0, none⟩) 1 1]] w' fun e w'' => e = .returned (.int .i64 0) ∧ Below w'.heap.size w' w'') := fun g w' h hb => by
    have e := pcheck_any plq1 _ w' h (hT.kept hb).wt.lets pft_q1.fit
    rw [fErr_q1] at e
    exact e
  have HCZ : Hid (∀ w', Below w.heap.size w w' → Calls Tryz.prog 11 #[.agg #[.string ⟨#[]⟩, .int .i64 0, .slice none 0 0]] w' fun e w'' => e = .returned (.int .i64 35) ∧ Below w'.heap.size w' w'') := fun w' hb => by
    have e := pcheck_any plnZ _ w' (sts_z w') (hT.kept hb).wt.lets pft_z.fit
    rw [fErr_z] at e
    exact e
  have HSM : Hid (∀ a c g w', StsAt w' (.slice a 1 c) plq1.ss → StsAt w' (.slice (some ⟨g, 0, none⟩) 1 1) plq1.ss → Calls Tryz.prog 8 #[.agg #[.string ⟨#[97]⟩, .int .i64 0, .slice a 1 c], .agg #[.string ⟨#[97]⟩, .int .i64 0, .slice (some ⟨g, 0, none⟩) 1 1]] w' fun e w'' => e = .returned (.bool true) ∧ Below w'.heap.size w' w'') := fun a c g w' h h' => rpsame_yes plq1 _ _ w' h h'
  have HFI : Hid (∀ w', Below w.heap.size w w' → Calls Tryz.prog 12 #[] w' fun e w'' => e = .returned (.bool true) ∧ Below w'.heap.size w' w'') := fun w' hb => plfirsts_any w' (hT.kept hb)
  have HNU : Hid (∀ (n : Int) w', n = 0 ∨ n = 35 ∨ n = 150 → Calls Tryz.prog 7 #[.int .i64 n] w' fun e w'' => e = .returned (.int .i64 n) ∧ w'' = w') := fun n w' h => plnum_any n w' (by omega) (by omega)
  clear hT
  go_enter Tryz.func4, Tryz.ntmps4
  go_wp2_with fail
  refine HP1.out.mono ?_
  rintro e w1 ⟨a, c, rfl, s1, b1⟩
  have H1 : Hid (∀ o, o = .cells #[.string ⟨#[97]⟩, .int .i64 0, .slice a 1 c] 25 → StsAt (w1.alloc o) (.slice a 1 c) plq1.ss ∧ LB (w1.alloc o) w1.heap.size 25 (plvl plq1 (.slice a 1 c)) ∧ Below w.heap.size w (w1.alloc o)) := fun o ho => by subst ho; exact ⟨s1.kept (up0 _ _), lb_new w1 (plvl plq1 (.slice a 1 c)) 25, up b1 _⟩
  clear s1 b1 HP1
  go_wp2_with fail
  have K : Hid (∀ W W' : World, (StsAt W (.slice a 1 c) plq1.ss ∧ LB W w1.heap.size 25 (plvl plq1 (.slice a 1 c)) ∧ Below w.heap.size w W) → Below W.heap.size W W' → (StsAt W' (.slice a 1 c) plq1.ss ∧ LB W' w1.heap.size 25 (plvl plq1 (.slice a 1 c)) ∧ Below w.heap.size w W')) := fun W W' h hb => ⟨h.1.kept hb, h.2.1.kept hb, andThen h.2.2 hb⟩
  refine (HON.out _).mono ?_
  rintro e w2 ⟨g, rfl, s2, b2⟩
  have H2 : Hid (StsAt w2 (.slice a 1 c) plq1.ss ∧ LB w2 w1.heap.size 25 (plvl plq1 (.slice a 1 c)) ∧ Below w.heap.size w w2) := K.out _ _ (H1.out _ rfl) b2
  have S2 : Hid (StsAt w2 (.slice (some ⟨g, 0, none⟩) 1 1) plq1.ss) := s2
  clear s2 b2 H1
  go_wp2_with fail
  refine (HPR.out g _ S2.out H2.out.2.2).mono ?_
  rintro e w3 ⟨rfl, b3⟩
  have H3 : Hid (StsAt w3 (.slice a 1 c) plq1.ss ∧ LB w3 w1.heap.size 25 (plvl plq1 (.slice a 1 c)) ∧ Below w.heap.size w w3) := K.out _ _ H2.out b3
  clear b3 H2 S2 HPR
  go_wp2_with fail
  refine (HP0.out _ H3.out.2.2).mono ?_
  rintro e w4 ⟨a0, c0, rfl, b4⟩
  have H4 : Hid (∀ o, StsAt (w4.alloc o) (.slice a 1 c) plq1.ss ∧ LB (w4.alloc o) w1.heap.size 25 (plvl plq1 (.slice a 1 c)) ∧ Below w.heap.size w (w4.alloc o)) := fun o => K.out _ _ (K.out _ _ H3.out b4) (up0 _ _)
  clear b4 H3 HP0
  go_wp2_with (go_at_call 7; refine (HNU.out _ _ (by decide)).mono ?_; rintro e w' ⟨rfl, rfl⟩)
  have H5 : Hid (StsAt (w4.alloc (.cells #[.string ⟨#[]⟩, .int .i64 0, .slice a0 0 c0] 25)).drew (.slice a 1 c) plq1.ss ∧ LB (w4.alloc (.cells #[.string ⟨#[]⟩, .int .i64 0, .slice a0 0 c0] 25)).drew w1.heap.size 25 (plvl plq1 (.slice a 1 c)) ∧ Below w.heap.size w (w4.alloc (.cells #[.string ⟨#[]⟩, .int .i64 0, .slice a0 0 c0] 25)).drew) := K.out _ _ (H4.out _) (Below.drew (Below.refl _ _))
  have HLI : Hid ((Tryz.prog.info? 25).map (·.size) = some (plvl plq1 (.slice a 1 c)).length) := infoPlan
  refine wp_region_held_drew (S := fun w' : World => w'.rangeAt w1.heap.size 0 (plvl plq1 (.slice a 1 c))) (by kernel_rfl) H5.out.2.1.range (fun hH => ?_)
  clear H4
  generalize (w4.alloc (.cells #[.string ⟨#[]⟩, .int .i64 0, .slice a0 0 c0] 25)).drew = w5 at *
  refine zqk 0 rfl hH ?_
  simp only [Act.put, List.setIfInBounds_toArray, List.set_cons_zero, List.set_cons_succ, List.getElem_toArray, List.getElem_cons_zero]
  refine zqk 1 rfl hH ?_
  simp only [Act.put, List.setIfInBounds_toArray, List.set_cons_zero, List.set_cons_succ, List.getElem_toArray, List.getElem_cons_zero, List.getElem_cons_succ]
  refine zql 2 rfl (yieldsIf_load_mid (by rfl) _ _ rfl _ _ rfl (plvl plq1 (.slice a 1 c)) _ (fun w' hSw => hSw) Tryz.underlying25 rfl HLI.out) hH ?_
  simp only [Act.put, List.setIfInBounds_toArray, List.set_cons_zero, List.set_cons_succ, List.getElem_toArray, List.getElem_cons_zero, List.getElem_cons_succ]
  refine zqr 3 rfl (fun K2 hK => ?_)
  go_simp
  refine (HON.out _).mono ?_
  rintro e w6 ⟨g6, rfl, s6, b6⟩
  have H6 : Hid (StsAt w6 (.slice a 1 c) plq1.ss ∧ LB w6 w1.heap.size 25 (plvl plq1 (.slice a 1 c)) ∧ Below w.heap.size w w6) := K.out _ _ H5.out b6
  have S6 : Hid (StsAt w6 (.slice (some ⟨g6, 0, none⟩) 1 1) plq1.ss) := s6
  refine hK.out _ _ H6.out.2.1.range (fun hH2 => ?_)
  clear hK K2 hH s6 b6 H5
  refine zqr 4 rfl (fun K2 hK => ?_)
  go_simp
  refine (HSM.out a c g6 _ H6.out.1 S6.out).mono ?_
  rintro e w7 ⟨rfl, b7⟩
  have H7 : Hid (StsAt w7 (.slice a 1 c) plq1.ss ∧ LB w7 w1.heap.size 25 (plvl plq1 (.slice a 1 c)) ∧ Below w.heap.size w w7) := K.out _ _ H6.out b7
  refine hK.out _ _ H7.out.2.1.range (fun hH => ?_)
  clear hK K2 hH2 b7 H6 S6
  refine zqk 5 rfl hH ?_
  simp only [Act.put, List.setIfInBounds_toArray, List.set_cons_zero, List.set_cons_succ, List.getElem_toArray, List.getElem_cons_zero, List.getElem_cons_succ]
  refine zqk 6 rfl hH ?_
  simp only [Act.put, List.setIfInBounds_toArray, List.set_cons_zero, List.set_cons_succ, List.getElem_toArray, List.getElem_cons_zero, List.getElem_cons_succ]
  refine zqr 7 rfl (fun K2 hK => ?_)
  go_simp
  refine (HON.out _).mono ?_
  rintro e w8 ⟨g8, rfl, s8, b8⟩
  have H8 : Hid (StsAt w8 (.slice a 1 c) plq1.ss ∧ LB w8 w1.heap.size 25 (plvl plq1 (.slice a 1 c)) ∧ Below w.heap.size w w8) := K.out _ _ H7.out b8
  have S8 : Hid (StsAt w8 (.slice (some ⟨g8, 0, none⟩) 1 1) plq1.ss) := s8
  refine hK.out _ _ H8.out.2.1.range (fun hH2 => ?_)
  clear hK K2 hH s8 b8 H7
  refine zqr 8 rfl (fun K2 hK => ?_)
  go_simp
  refine (HC1.out g8 _ S8.out H8.out.2.2).mono ?_
  rintro e w9 ⟨rfl, b9⟩
  have H9 : Hid (StsAt w9 (.slice a 1 c) plq1.ss ∧ LB w9 w1.heap.size 25 (plvl plq1 (.slice a 1 c)) ∧ Below w.heap.size w w9) := K.out _ _ H8.out b9
  refine hK.out _ _ H9.out.2.1.range (fun hH => ?_)
  clear hK K2 hH2 b9 H8 S8
  refine zqr 9 rfl (fun K2 hK => ?_)
  go_simp
  refine (HNU.out _ _ (by decide)).mono ?_
  rintro e w' ⟨rfl, rfl⟩
  refine hK.out _ _ H9.out.2.1.range (fun hH2 => ?_)
  clear hK K2 hH
  refine zqk 10 rfl hH2 ?_
  simp only [Act.put, List.setIfInBounds_toArray, List.set_cons_zero, List.set_cons_succ, List.getElem_toArray, List.getElem_cons_zero, List.getElem_cons_succ]
  refine zqk 11 rfl hH2 ?_
  simp only [Act.put, List.setIfInBounds_toArray, List.set_cons_zero, List.set_cons_succ, List.getElem_toArray, List.getElem_cons_zero, List.getElem_cons_succ]
  refine zqk 12 rfl hH2 ?_
  simp only [Act.put, List.setIfInBounds_toArray, List.set_cons_zero, List.set_cons_succ, List.getElem_toArray, List.getElem_cons_zero, List.getElem_cons_succ]
  refine zqk 13 rfl hH2 ?_
  simp only [Act.put, List.setIfInBounds_toArray, List.set_cons_zero, List.set_cons_succ, List.getElem_toArray, List.getElem_cons_zero, List.getElem_cons_succ]
  refine zqr 14 rfl (fun K2 hK => ?_)
  go_simp
  refine (HCZ.out _ H9.out.2.2).mono ?_
  rintro e wa ⟨rfl, ba⟩
  have HA : Hid (StsAt wa (.slice a 1 c) plq1.ss ∧ LB wa w1.heap.size 25 (plvl plq1 (.slice a 1 c)) ∧ Below w.heap.size w wa) := K.out _ _ H9.out ba
  refine hK.out _ _ HA.out.2.1.range (fun hH => ?_)
  clear hK K2 hH2 ba H9
  refine zqr 15 rfl (fun K2 hK => ?_)
  go_simp
  refine (HNU.out _ _ (by decide)).mono ?_
  rintro e w' ⟨rfl, rfl⟩
  refine hK.out _ _ HA.out.2.1.range (fun hH2 => ?_)
  clear hK K2 hH
  refine zqk 16 rfl hH2 ?_
  simp only [Act.put, List.setIfInBounds_toArray, List.set_cons_zero, List.set_cons_succ, List.getElem_toArray, List.getElem_cons_zero, List.getElem_cons_succ]
  refine zqk 17 rfl hH2 ?_
  simp only [Act.put, List.setIfInBounds_toArray, List.set_cons_zero, List.set_cons_succ, List.getElem_toArray, List.getElem_cons_zero, List.getElem_cons_succ]
  refine zqk 18 rfl hH2 ?_
  simp only [Act.put, List.setIfInBounds_toArray, List.set_cons_zero, List.set_cons_succ, List.getElem_toArray, List.getElem_cons_zero, List.getElem_cons_succ]
  refine zqr 19 rfl (fun K2 hK => ?_)
  go_simp
  refine (HFI.out _ HA.out.2.2).mono ?_
  rintro e wb ⟨rfl, bb⟩
  have HB : Hid (StsAt wb (.slice a 1 c) plq1.ss ∧ LB wb w1.heap.size 25 (plvl plq1 (.slice a 1 c)) ∧ Below w.heap.size w wb) := K.out _ _ HA.out bb
  refine hK.out _ _ HB.out.2.1.range (fun hH => ?_)
  clear hK K2 hH2 bb HA
  refine zqk 20 rfl hH ?_
  simp only [Act.put, List.setIfInBounds_toArray, List.set_cons_zero, List.set_cons_succ, List.getElem_toArray, List.getElem_cons_zero, List.getElem_cons_succ]
  refine zqk 21 rfl hH ?_
  simp only [Act.put, List.setIfInBounds_toArray, List.set_cons_zero, List.getElem_toArray, List.getElem_cons_zero, List.getElem_cons_succ]
  refine wpAnyH_done (by kernel_rfl) ?_ _
  go_wp2_with fail
  go_ret
  exact ⟨rfl, HB.out.2.2⟩
end Go.Proofs.YtcnnpohnfoaceaaGreatDoor
