/-
  The words of errors; errors.Is over a Fault.
-/
import Derived.Test.YtfbldghhmjenlaaGreatDoorRn1
import Derived.Test.YtfbldghhmjenlaaGreatDoorTk
import Derived.Test.YtfbldghhmjenlaaGreatDoorSht
import Derived.Lib.SmallJoins
import Derived.Lib.ItoaLen
namespace Go.Proofs.YtfbldghhmjenlaaGreatDoor
open Go Go.RowKit Go.Extern.Stop Go.Stop Go.Extern
open Wb

theorem gPow : Tryz.prog.globalNamed "internal/strconv.uint64pow10" = some 1 := by kernel_rfl
/-- the library's table that is read -/
def PTab (w : World) : Prop := Lib.TabIs Tryz.prog w "internal/strconv.uint64pow10" .u64 Lib.pow10Tab
theorem PTab.kept {w w' : World} (h : PTab w) (hb : Below w.heap.size w w') : PTab w' := Joins.var_stays gPow h hb (Nat.le_refl _)
def itoaB (t : Int) : ByteArray := ⟨(Lib.itoa t).toArray⟩
theorem itoaB_size (t : Int) (h0 : -9223372036854775808 ≤ t) (h1 : t ≤ 9223372036854775807) : (itoaB t).size ≤ 21 := by
  show (Lib.itoa t).toArray.size ≤ 21
  simpa using Lib.itoa_length_le t h0 h1
theorem itoa_all (u : Int) (h0 : -9223372036854775808 ≤ u) (h1 : u ≤ 9223372036854775807) (w : World) (hT : PTab w) : Calls Tryz.prog 10 #[.int .i64 u] w fun e w' => e = .returned (.string (itoaB u)) ∧ Below w.heap.size w w' := by
  refine (Any.strconv_Itoa laysItoa u h0 h1 w hT).mono ?_
  rintro e w' ⟨rfl, k, os, rfl⟩
  refine ⟨rfl, ⟨rfl, rfl, rfl, ?_, fun j hj => ?_⟩⟩
  · show w.heap.size ≤ (w.heap ++ os).size
    rw [Array.size_append]
    omega
  · show (w.heap ++ os)[j]? = w.heap[j]?
    rw [Array.getElem?_append_left hj]
def sErr : ByteArray := ⟨#[101, 114, 114, 111, 114, 32]⟩
theorem eno_any (u : Int) (h0 : -9223372036854775808 ≤ u) (h1 : u ≤ 9223372036854775807) (w : World) (hT : PTab w) : Calls Tryz.prog 203 #[.int .i64 u] w fun e w' => e = .returned (.string (⟨#[101, 114, 114, 111, 114, 32]⟩ ++ itoaB u)) ∧ Below w.heap.size w w' := by
  have HI : Hid (Calls Tryz.prog 10 #[.int .i64 u] w fun e w' => e = .returned (.string (itoaB u)) ∧ Below w.heap.size w w') := itoa_all u h0 h1 w hT
  have hz := itoaB_size u h0 h1
  generalize itoaB u = I at *
  clear hT
  go_enter Tryz.func203, Tryz.ntmps203
  go_wp2_with fail
  refine HI.out.mono ?_
  rintro e w1 ⟨rfl, b1⟩
  go_wp2_with fail
  go_ret
  exact ⟨rfl, b1⟩
theorem rnunwrap (g : Nat) (v x : Value) (w : World) (h : LB w g 37 [v, x]) : Calls Tryz.prog 11 #[.pointer (some ⟨g, 0, none⟩)] w fun e w' => e = .returned x ∧ w' = w := by
  have c1 := h.cell 1 _ rfl
  go_enter Tryz.func11, Tryz.ntmps11
  go_wp2_with fail
  go_ret
  exact ⟨rfl, rfl⟩
theorem rnnum (n : Int) (w : World) : Calls Tryz.prog 25 #[.int .i64 n] w fun e w' => e = .returned (.int .i64 n) ∧ w' = w := by
  go_enter Tryz.func25, Tryz.ntmps25
  go_wp2
  go_ret
  exact ⟨rfl, rfl⟩
theorem rnerror_nil (g : Nat) (why : ByteArray) (w : World) (h : LB w g 37 [.string why, .nilIface]) (hs : why.size ≤ 140737488355328) : Calls Tryz.prog 9 #[.pointer (some ⟨g, 0, none⟩)] w fun e w' => e = .returned (.string (why ++ ⟨#[58, 32, 110, 111, 116, 104, 105, 110, 103]⟩)) ∧ Below w.heap.size w w' := by
  have c0 := h.cell 0 _ rfl
  have c1 := h.cell 1 _ rfl
  go_enter Tryz.func9, Tryz.ntmps9
  go_wp2_with fail
  go_ret
  exact ⟨rfl, Below.refl _ _⟩
set_option maxRecDepth 100000 in
theorem rnerror (g : Nat) (why : ByteArray) (u : Int) (w : World) (h : LB w g 37 [.string why, .iface 35 (.int .i64 u)]) (hs : why.size ≤ 140737488355328) (h0 : -9223372036854775808 ≤ u) (h1 : u ≤ 9223372036854775807) (hT : PTab w) : Calls Tryz.prog 9 #[.pointer (some ⟨g, 0, none⟩)] w fun e w' => e = .returned (.string (why ++ ⟨#[58, 32]⟩ ++ (⟨#[101, 114, 114, 111, 114, 32]⟩ ++ itoaB u))) ∧ Below w.heap.size w w' := by
  have c0 := h.cell 0 _ rfl
  have c1 := h.cell 1 _ rfl
  have hd := Below.drew (Below.refl w.heap.size w)
  have HE : Hid (Calls Tryz.prog 203 #[.int .i64 u] w.drew fun e w' => e = .returned (.string (⟨#[101, 114, 114, 111, 114, 32]⟩ ++ itoaB u)) ∧ Below w.drew.heap.size w.drew w') := eno_any u h0 h1 _ (hT.kept hd)
  have hz := itoaB_size u h0 h1
  have HS : Hid (∀ W, Below w.heap.size w W → W.cell? ⟨g, 0, none⟩ = some (.string why) ∧ W.cell? ⟨g, 1, none⟩ = some (.iface 35 (.int .i64 u))) := fun W hb => ⟨(h.kept hb).cell 0 _ rfl, (h.kept hb).cell 1 _ rfl⟩
  have mE : ∀ (v : Value) (w : World), (Go.method 488 35 v "Error").run Tryz.prog w = .ok (203, v) w := fun v w => by kernel_rfl
  have hz3 : (9223372036854775807 < why.size + 2 + (6 + (itoaB u).size)) = False := by simp; omega
  have hz2 : (9223372036854775807 < why.size + 2) = False := by simp; omega
  generalize itoaB u = I at *
  clear hT h
  go_enter Tryz.func9, Tryz.ntmps9
  go_upto_region 3 with fail
  refine wp_region_held_drew (S := fun w' : World => w'.cell? ⟨g, 0, none⟩ = some (.string why) ∧ w'.cell? ⟨g, 1, none⟩ = some (.iface 35 (.int .i64 u))) (by kernel_rfl) (HS.out _ hd) (fun hH => ?_)
  refine zqk 0 rfl hH ?_
  simp only [Act.put, List.setIfInBounds_toArray, List.set_cons_zero, List.set_cons_succ, List.getElem_toArray, List.getElem_cons_zero]
  refine zqk 1 rfl hH ?_
  simp only [Act.put, List.setIfInBounds_toArray, List.set_cons_zero, List.set_cons_succ, List.getElem_toArray, List.getElem_cons_zero, List.getElem_cons_succ]
  refine zqk 2 rfl hH ?_
  simp only [Act.put, List.setIfInBounds_toArray, List.set_cons_zero, List.set_cons_succ, List.getElem_toArray, List.getElem_cons_zero, List.getElem_cons_succ]
  refine zqk 3 rfl hH ?_
  simp only [Act.put, List.setIfInBounds_toArray, List.set_cons_zero, List.set_cons_succ, List.getElem_toArray, List.getElem_cons_zero, List.getElem_cons_succ]
  refine zqk 4 rfl hH ?_
  simp only [Act.put, List.setIfInBounds_toArray, List.set_cons_zero, List.set_cons_succ, List.getElem_toArray, List.getElem_cons_zero, List.getElem_cons_succ]
  refine zqk 5 rfl hH ?_
  simp only [Act.put, List.setIfInBounds_toArray, List.set_cons_zero, List.set_cons_succ, List.getElem_toArray, List.getElem_cons_zero, List.getElem_cons_succ]
  refine zqk 6 rfl hH ?_
  simp only [Act.put, List.setIfInBounds_toArray, List.set_cons_zero, List.set_cons_succ, List.getElem_toArray, List.getElem_cons_zero, List.getElem_cons_succ]
  refine zqk 7 rfl hH ?_
  simp only [Act.put, List.setIfInBounds_toArray, List.set_cons_zero, List.set_cons_succ, List.getElem_toArray, List.getElem_cons_zero, List.getElem_cons_succ]
  refine zqk 8 rfl hH ?_
  simp only [Act.put, List.setIfInBounds_toArray, List.set_cons_zero, List.set_cons_succ, List.getElem_toArray, List.getElem_cons_zero, List.getElem_cons_succ]
  refine wpAnyH_ready (rs := [9]) (by kernel_rfl) (by simp) ?_
  refine AllReadyH.cons rfl (fun K hK => ?_) AllReadyH.nil
  go_simp
  refine HE.out.mono ?_
  rintro e w1 ⟨rfl, b1⟩
  have HB : Hid (Below w.heap.size w w1) := andThen hd b1
  refine hK.out _ _ (HS.out _ HB.out) (fun hH2 => ?_)
  clear hK K hH b1
  try simp only [Act.put, List.setIfInBounds_toArray, List.set_cons_zero, List.set_cons_succ, List.getElem_toArray, List.getElem_cons_zero, List.getElem_cons_succ]
  refine zqk 10 rfl hH2 ?_
  simp only [Act.put, List.setIfInBounds_toArray, List.set_cons_zero, List.set_cons_succ, List.getElem_toArray, List.getElem_cons_zero, List.getElem_cons_succ]
  refine zqk 11 rfl hH2 ?_
  simp only [Act.put, List.setIfInBounds_toArray, List.set_cons_zero, List.set_cons_succ, List.getElem_toArray, List.getElem_cons_zero, List.getElem_cons_succ]
  refine wpAnyH_done (by kernel_rfl) ?_ _
  go_wp2_with fail
  go_ret
  exact ⟨rfl, HB.out⟩
/-! errors.Is: what reflectlite and the assertions answer -/
theorem isTypeOf (v : Value) (w : World) : (Extern.ReflectliteType.typeOf #[.iface 35 v]).run Tryz.prog w = .ok (.iface 117 (.agg #[.pointer (some ⟨8, 35, none⟩)])) w := by kernel_rfl
theorem isComparable (w : World) : ((Extern.ReflectliteType.method fun t => do Extern.Rtype.noPackHeld "Comparable" t; pure (.bool (← typeInfo t).comparable)) #[.agg #[.pointer (some ⟨8, 35, none⟩)]]).run Tryz.prog w = .ok (.bool true) w := by kernel_rfl
theorem isComp (w : World) : (callFunc 220 #[.agg #[.pointer (some ⟨8, 35, none⟩)]]).run Tryz.prog w = .ok (.value (.bool true)) w := by
  rw [@run_callFunc_extern Tryz.prog 220 _ (Extern.ReflectliteType.method fun t => do Extern.Rtype.noPackHeld "Comparable" t; pure (.bool (← typeInfo t).comparable)) Tryz.func220 (by kernel_rfl) (by kernel_rfl) (by kernel_rfl) (by kernel_rfl), isComparable]
  rfl
theorem isMethodComparable (v : Value) (w : World) : (Go.method 488 117 v "Comparable").run Tryz.prog w = .ok (220, v) w := by kernel_rfl
theorem noIsF (v : Value) (xT : TypeId) (w : World) : (Instr.typeAssert (.iface 34 v) xT 119 true).run Tryz.prog w = .ok (.tuple #[.nilIface, .bool false]) w := run_typeAssert_lacksB Tryz.underlying119 (by kernel_rfl) (by kernel_rfl) v xT w
theorem hasUnwrapF (v : Value) (xT : TypeId) (w : World) : (Instr.typeAssert (.iface 34 v) xT 122 true).run Tryz.prog w = .ok (.tuple #[.iface 34 v, .bool true]) w := run_typeAssert_hasB Tryz.underlying122 (by kernel_rfl) v xT w
theorem methodUnwrap (v : Value) (w : World) : (Go.method 488 34 v "Unwrap").run Tryz.prog w = .ok (11, v) w := by kernel_rfl
theorem eqlIn (d : Nat) (u : Int) (w : World) : (Op.equalIn (d + 2) 25 (.iface 35 (.int .i64 u)) (.iface 35 (.int .i64 u))).run Tryz.prog w = .ok true w := by
  obtain ⟨i, hi, hc⟩ := Option.map_eq_some_iff.1 (show (Tryz.prog.info? 35).map (·.comparable) = some true by kernel_rfl)
  simp [Op.equalIn, run_underlying Tryz.underlying25, run_underlying Tryz.underlying35, typeInfo, hi, hc]
theorem eqlEno (u : Int) (w : World) : (binOp .eql 25 (.iface 35 (.int .i64 u)) (.iface 35 (.int .i64 u))).run Tryz.prog w = .ok (.bool true) w := by
  simp only [binOp]
  simp [Op.equal, Op.maxDepth, eqlIn 9998 u w]
set_option maxRecDepth 100000 in
theorem rnisi (g : Nat) (why : ByteArray) (w : World) (h : LB w g 37 (flt why)) : Calls Tryz.prog 34 #[.iface 34 (.pointer (some ⟨g, 0, none⟩)), .iface 35 (.int .i64 1), .bool true] w fun e w' => e = .returned (.bool true) ∧ w' = w := by
  have HU : Hid (Calls Tryz.prog 11 #[.pointer (some ⟨g, 0, none⟩)] w fun e w' => e = .returned (.iface 35 (.int .i64 1)) ∧ w' = w) := rnunwrap g _ _ w h
  have nW := noIsF
  have uW := hasUnwrapF
  have mU := methodUnwrap
  have hty := run_eql_iface_types (P := Tryz.prog) 34 35 (.pointer (some ⟨g, 0, none⟩)) (.int .i64 1) Tryz.underlying25 (by decide) w
  have heq := eqlEno 1 w
  clear h
  go_enter Tryz.func34, Tryz.ntmps34
  go_wp2_with fail
  refine wp_loop_rounds 2 ?_
  rw [rounds_succ]
  go_wp2_with fail
  refine HU.out.mono ?_
  rintro e w1 ⟨rfl, rfl⟩
  go_wp2_with fail
  rw [rounds_succ]
  go_wp2_with fail
  go_ret
  exact ⟨rfl, rfl⟩
theorem rnis (g : Nat) (why : ByteArray) (w : World) (h : LB w g 37 (flt why)) : Calls Tryz.prog 24 #[.iface 34 (.pointer (some ⟨g, 0, none⟩)), .iface 35 (.int .i64 1)] w fun e w' => e = .returned (.bool true) ∧ w' = w := by
  have HI : Hid (Calls Tryz.prog 34 #[.iface 34 (.pointer (some ⟨g, 0, none⟩)), .iface 35 (.int .i64 1), .bool true] w fun e w' => e = .returned (.bool true) ∧ w' = w) := rnisi g why w h
  have h8 := @run_callFunc_extern Tryz.prog 33 _ Extern.ReflectliteType.typeOf Tryz.func33 (by kernel_rfl) (by kernel_rfl) (by kernel_rfl) (by kernel_rfl)
  have tT := isTypeOf
  have cT := isComp
  have mR := isMethodComparable
  clear h
  go_enter Tryz.func24, Tryz.ntmps24
  go_wp2_with fail
  refine HI.out.mono ?_
  rintro e w1 ⟨rfl, rfl⟩
  go_wp2_with fail
  go_ret
  exact ⟨rfl, rfl⟩
end Go.Proofs.YtfbldghhmjenlaaGreatDoor
