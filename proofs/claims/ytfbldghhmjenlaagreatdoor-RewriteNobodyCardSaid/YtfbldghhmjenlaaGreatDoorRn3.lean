/-
  annalslaw12: words, says, below, of a refusal for want of a store.
-/
import Derived.Test.YtfbldghhmjenlaaGreatDoorRn2
namespace Go.Proofs.YtfbldghhmjenlaaGreatDoor
open Go Go.RowKit Go.Extern.Stop Go.Stop Go.Extern
open Wb

def ans (why : ByteArray) : List Value := [.int .i64 1, .string why, .string ⟨#[]⟩, .string ⟨#[]⟩, .int .i64 0, .int .i64 0]
def wordsB (why : ByteArray) : ByteArray := why ++ ⟨#[58, 32]⟩ ++ ⟨#[101, 114, 114, 111, 114, 32]⟩ ++ itoaB 1
theorem rnwords (why : ByteArray) (w : World) (hs : why.size ≤ 1000) (hT : PTab w) : Calls Tryz.prog 23 #[.agg #[.int .i64 1, .string why, .string ⟨#[]⟩, .string ⟨#[]⟩, .int .i64 0, .int .i64 0]] w fun e w' => e = .returned (.string (wordsB why)) ∧ Below w.heap.size w w' := by
  have hb : ∀ o, Below w.heap.size w (w.alloc o) := fun o => up0 w o
  have HI : Hid (∀ o, Calls Tryz.prog 10 #[.int .i64 1] (w.alloc o) fun e w' => e = .returned (.string (itoaB 1)) ∧ Below (w.alloc o).heap.size (w.alloc o) w') := fun o => itoa_all 1 (by decide) (by decide) _ (hT.kept (hb o))
  have HB : Hid (∀ o, Below w.heap.size w (w.alloc o)) := hb
  have hz := itoaB_size 1 (by decide) (by decide)
  unfold wordsB
  generalize itoaB 1 = I at *
  clear hT hb
  go_enter Tryz.func23, Tryz.ntmps23
  go_wp2_with fail
  refine (HI.out _).mono ?_
  rintro e w1 ⟨rfl, b1⟩
  have H1 : Hid (Below w.heap.size w w1) := andThen (HB.out _) b1
  clear b1 HB HI
  go_wp2_with fail
  go_ret
  exact ⟨rfl, H1.out⟩
theorem taF (v : Value) (w : World) : (Instr.typeAssert (.iface 34 v) 25 34 true).run Tryz.prog w = .ok (.tuple #[v, .bool true]) w := by kernel_rfl
theorem taS (v : Value) (w : World) : (Instr.typeAssert (.iface 35 v) 25 60 true).run Tryz.prog w = .ok (.tuple #[.pointer none, .bool false]) w := by kernel_rfl
theorem taE (v : Value) (w : World) : (Instr.typeAssert (.iface 35 v) 25 35 true).run Tryz.prog w = .ok (.tuple #[v, .bool true]) w := by kernel_rfl
theorem infoAns : (Tryz.prog.info? 31).map (·.size) = some 6 := by kernel_rfl
set_option maxRecDepth 100000 in
set_option maxHeartbeats 4000000 in
theorem rnsays (g : Nat) (why : ByteArray) (w : World) (h : LB w g 37 (flt why)) (hs : why.size ≤ 1000) (hT : PTab w) : Calls Tryz.prog 7 #[.iface 34 (.pointer (some ⟨g, 0, none⟩)), .agg #[.int .i64 1, .string why, .string ⟨#[]⟩, .string ⟨#[]⟩, .int .i64 0, .int .i64 0]] w fun e w' => e = .returned (.bool true) ∧ Below w.heap.size w w' := by
  have HW : Hid (∀ w', Below w.heap.size w w' → Calls Tryz.prog 23 #[.agg #[.int .i64 1, .string why, .string ⟨#[]⟩, .string ⟨#[]⟩, .int .i64 0, .int .i64 0]] w' fun e w'' => e = .returned (.string (wordsB why)) ∧ Below w'.heap.size w' w'') := fun w' hb => rnwords why w' hs (hT.kept hb)
  have HE : Hid (∀ w', Below w.heap.size w w' → Calls Tryz.prog 9 #[.pointer (some ⟨g, 0, none⟩)] w' fun e w'' => e = .returned (.string (wordsB why)) ∧ Below w'.heap.size w' w'') := fun w' hb => by
    have e := rnerror g why 1 w' (h.kept hb) (by omega) (by decide) (by decide) (hT.kept hb)
    rw [show why ++ ⟨#[58, 32]⟩ ++ (⟨#[101, 114, 114, 111, 114, 32]⟩ ++ itoaB 1) = wordsB why by unfold wordsB; simp only [ByteArray.append_assoc]] at e
    exact e
  have HIS : Hid (∀ w', Below w.heap.size w w' → Calls Tryz.prog 24 #[.iface 34 (.pointer (some ⟨g, 0, none⟩)), .iface 35 (.int .i64 1)] w' fun e w'' => e = .returned (.bool true) ∧ w'' = w') := fun w' hb => rnis g why w' (h.kept hb)
  have tF := taF
  have HX : Hid (∀ o, o = .cells #[.int .i64 1, .string why, .string ⟨#[]⟩, .string ⟨#[]⟩, .int .i64 0, .int .i64 0] 31 → LB (w.alloc o) w.heap.size 31 (ans why) ∧ LB (w.alloc o) g 37 (flt why) ∧ Below w.heap.size w (w.alloc o)) := fun o ho => by subst ho; exact ⟨lb_new w (ans why) 31, h.kept (up0 _ _), up0 _ _⟩
  generalize wordsB why = T at *
  clear hT h
  go_enter Tryz.func7, Tryz.ntmps7
  go_upto_region 6 with fail
  have H1 : Hid _ := HX.out _ rfl
  clear HX
  generalize w.alloc (.cells #[.int .i64 1, .string why, .string ⟨#[]⟩, .string ⟨#[]⟩, .int .i64 0, .int .i64 0] 31) = W at *
  have d0 := H1.out.2.1.cell 0 _ rfl
  have c1 := H1.out.1.cell 1 _ rfl
  have HC : Hid (∀ n, LB (W.drewN n) w.heap.size 31 (ans why) ∧ Below w.heap.size w (W.drewN n)) := fun n => ⟨H1.out.1.kept (below_drewN (Below.refl _ _) n), below_drewN H1.out.2.2 n⟩
  go_quiet (fail)
  have H2 : Hid _ := HC.out nq
  clear d0 c1 H1 HC
  generalize W.drewN nq = W2 at *
  have c0 := H2.out.1.cell 0 _ rfl
  have c1 := H2.out.1.cell 1 _ rfl
  have c2 := H2.out.1.cell 2 _ rfl
  have c3 := H2.out.1.cell 3 _ rfl
  have c4 := H2.out.1.cell 4 _ rfl
  have c5 := H2.out.1.cell 5 _ rfl
  go_wp2_with fail
  refine (HW.out _ H2.out.2).mono ?_
  rintro e w3 ⟨rfl, b3⟩
  have H3 : Hid (LB w3 w.heap.size 31 (ans why) ∧ Below w.heap.size w w3) := ⟨H2.out.1.kept b3, andThen H2.out.2 b3⟩
  clear b3 H2 HW c0 c1 c2 c3 c4 c5
  go_wp2_with fail
  refine (HE.out _ H3.out.2).mono ?_
  rintro e w4 ⟨rfl, b4⟩
  have H4 : Hid (LB w4 w.heap.size 31 (ans why) ∧ Below w.heap.size w w4) := ⟨H3.out.1.kept b4, andThen H3.out.2 b4⟩
  clear b4 H3 HE
  have c0 := H4.out.1.cell 0 _ rfl
  go_wp2_with fail
  refine (HIS.out _ H4.out.2).mono ?_
  rintro e w5 ⟨rfl, rfl⟩
  go_wp2_with fail
  go_ret
  exact ⟨rfl, H4.out.2⟩
set_option maxRecDepth 100000 in
set_option maxHeartbeats 4000000 in
theorem rnbelow (g : Nat) (why : ByteArray) (w : World) (h : LB w g 37 (flt why)) : Calls Tryz.prog 8 #[.iface 34 (.pointer (some ⟨g, 0, none⟩)), .agg #[.int .i64 1, .string why, .string ⟨#[]⟩, .string ⟨#[]⟩, .int .i64 0, .int .i64 0]] w fun e w' => e = .returned (.bool true) ∧ Below w.heap.size w w' := by
  have HX : Hid (∀ o, o = .cells #[.int .i64 1, .string why, .string ⟨#[]⟩, .string ⟨#[]⟩, .int .i64 0, .int .i64 0] 31 → LB (w.alloc o) w.heap.size 31 (ans why) ∧ LB (w.alloc o) g 37 (flt why) ∧ Below w.heap.size w (w.alloc o)) := fun o ho => by subst ho; exact ⟨lb_new w (ans why) 31, h.kept (up0 _ _), up0 _ _⟩
  have tF := taF
  have tS := taS
  have tE := taE
  have HU : Hid (∀ W, LB W g 37 (flt why) → Calls Tryz.prog 11 #[.pointer (some ⟨g, 0, none⟩)] W fun e w' => e = .returned (.iface 35 (.int .i64 1)) ∧ w' = W) := fun W h => rnunwrap g _ _ W h
  have HN : Hid (∀ W, Calls Tryz.prog 25 #[.int .i64 1] W fun e w' => e = .returned (.int .i64 1) ∧ w' = W) := fun W => rnnum 1 W
  clear h
  go_enter Tryz.func8, Tryz.ntmps8
  go_wp2_with fail
  refine (HU.out _ (HX.out _ rfl).2.1).mono ?_
  rintro e w1 ⟨rfl, rfl⟩
  go_upto_region 10 with fail
  have H1 : Hid _ := HX.out _ rfl
  clear HX
  generalize w.alloc (.cells #[.int .i64 1, .string why, .string ⟨#[]⟩, .string ⟨#[]⟩, .int .i64 0, .int .i64 0] 31) = W at *
  have c0 := H1.out.1.cell 0 _ rfl
  have c2 := H1.out.1.cell 2 _ rfl
  have HB : Hid (∀ n, Below w.heap.size w (W.drewN n)) := fun n => below_drewN H1.out.2.2 n
  go_quiet (first | (go_at_call 25; refine Calls.quiet_of_same (HN.out _)))
  go_wp2_with fail
  go_ret
  exact ⟨rfl, HB.out _⟩
end Go.Proofs.YtfbldghhmjenlaaGreatDoor
