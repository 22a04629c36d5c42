import Derived.Deep.RegionHeld
import Derived.BigQuiet
import Derived.Deep.MidRow
import Derived.Test.YtdnackjakfiffaaGreatDoorQS1
import Derived.Test.YtdnackjakfiffaaGreatDoorQO1
/-
  Package saga: the small functions that read.
-/
namespace Go.Proofs.YtdnackjakfiffaaGreatDoor
open Go Go.RowKit
open Wb

/-- a saga lies in block g -/
def SBox (w : World) (g : Nat) (t : TypeId) (S : Sg) (h : SH) : Prop := w.heap[g]? = some (.cells #[.int .i64 S.x.id, .string S.nm, .int .i64 S.x.cnt, .int .i64 S.x.piv, .int .i64 S.x.beg, .int .i64 S.x.la, .slice h.ai S.inp.length h.ci, .int .i64 S.x.ph, .int .i64 S.x.nx, .bool S.x.fl, .int .i64 S.x.tr, .slice h.ao S.outs.length h.co, .slice h.au S.und.length h.cu, .int .i64 S.x.fs, .int .i64 S.x.fc, .slice h.af S.fail.length h.cf] t)
theorem SBox.kept {w w' : World} {g : Nat} {t : TypeId} {S : Sg} {h : SH} (k : SBox w g t S h) (hb : Below w.heap.size w w') : SBox w' g t S h := (hb.block g (Array.getElem?_eq_some_iff.1 k).1).trans k
theorem SBox.lt {w : World} {g : Nat} {t : TypeId} {S : Sg} {h : SH} (k : SBox w g t S h) : g < w.heap.size := (Array.getElem?_eq_some_iff.1 k).1
theorem SBox.cells {w : World} {g : Nat} {t : TypeId} {S : Sg} {h : SH} (k : SBox w g t S h) : w.cell? ⟨g, 0, none⟩ = some (.int .i64 S.x.id) ∧ w.cell? ⟨g, 1, none⟩ = some (.string S.nm) ∧ w.cell? ⟨g, 2, none⟩ = some (.int .i64 S.x.cnt) ∧ w.cell? ⟨g, 3, none⟩ = some (.int .i64 S.x.piv) ∧ w.cell? ⟨g, 4, none⟩ = some (.int .i64 S.x.beg) ∧ w.cell? ⟨g, 5, none⟩ = some (.int .i64 S.x.la) ∧ w.cell? ⟨g, 6, none⟩ = some (.slice h.ai S.inp.length h.ci) ∧ w.cell? ⟨g, 7, none⟩ = some (.int .i64 S.x.ph) ∧ w.cell? ⟨g, 8, none⟩ = some (.int .i64 S.x.nx) ∧ w.cell? ⟨g, 9, none⟩ = some (.bool S.x.fl) ∧ w.cell? ⟨g, 10, none⟩ = some (.int .i64 S.x.tr) ∧ w.cell? ⟨g, 11, none⟩ = some (.slice h.ao S.outs.length h.co) ∧ w.cell? ⟨g, 12, none⟩ = some (.slice h.au S.und.length h.cu) ∧ w.cell? ⟨g, 13, none⟩ = some (.int .i64 S.x.fs) ∧ w.cell? ⟨g, 14, none⟩ = some (.int .i64 S.x.fc) ∧ w.cell? ⟨g, 15, none⟩ = some (.slice h.af S.fail.length h.cf) := by
  unfold SBox at k
  refine ⟨?_, ?_, ?_, ?_, ?_, ?_, ?_, ?_, ?_, ?_, ?_, ?_, ?_, ?_, ?_, ?_⟩ <;> simp [World.cell?, k]
theorem sbox_new (w : World) (S : Sg) (h : SH) (t : TypeId) : SBox (w.alloc (.cells #[.int .i64 S.x.id, .string S.nm, .int .i64 S.x.cnt, .int .i64 S.x.piv, .int .i64 S.x.beg, .int .i64 S.x.la, .slice h.ai S.inp.length h.ci, .int .i64 S.x.ph, .int .i64 S.x.nx, .bool S.x.fl, .int .i64 S.x.tr, .slice h.ao S.outs.length h.co, .slice h.au S.und.length h.cu, .int .i64 S.x.fs, .int .i64 S.x.fc, .slice h.af S.fail.length h.cf] t)) w.heap.size t S h ∧ Below w.heap.size w (w.alloc (.cells #[.int .i64 S.x.id, .string S.nm, .int .i64 S.x.cnt, .int .i64 S.x.piv, .int .i64 S.x.beg, .int .i64 S.x.la, .slice h.ai S.inp.length h.ci, .int .i64 S.x.ph, .int .i64 S.x.nx, .bool S.x.fl, .int .i64 S.x.tr, .slice h.ao S.outs.length h.co, .slice h.au S.und.length h.cu, .int .i64 S.x.fs, .int .i64 S.x.fc, .slice h.af S.fail.length h.cf] t)) := ⟨Array.getElem?_push_size, up0 w _⟩
/-- the lists of a saga -/
structure SgAt (w : World) (S : Sg) (h : SH) : Prop where
  inp : Bs w (.slice h.ai S.inp.length h.ci) S.inp
  outs : Ps w (.slice h.ao S.outs.length h.co) S.outs
  und : Ps w (.slice h.au S.und.length h.cu) S.und
  fail : Bs w (.slice h.af S.fail.length h.cf) S.fail
theorem SgAt.kept {w w' : World} {S : Sg} {h : SH} (k : SgAt w S h) (hb : Below w.heap.size w w') : SgAt w' S h := ⟨k.inp.kept hb, k.outs.kept hb, k.und.kept hb, k.fail.kept hb⟩

/-- the cells of a saga -/
def scl (S : Sg) (h : SH) : List Value := [.int .i64 S.x.id, .string S.nm, .int .i64 S.x.cnt, .int .i64 S.x.piv, .int .i64 S.x.beg, .int .i64 S.x.la, .slice h.ai S.inp.length h.ci, .int .i64 S.x.ph, .int .i64 S.x.nx, .bool S.x.fl, .int .i64 S.x.tr, .slice h.ao S.outs.length h.co, .slice h.au S.und.length h.cu, .int .i64 S.x.fs, .int .i64 S.x.fc, .slice h.af S.fail.length h.cf]
theorem infoSaga : (Tryz.prog.info? 43).map (·.size) = some 16 := by kernel_rfl
theorem range_new (w : World) (D : List Value) (t : TypeId) : (w.alloc (.cells D.toArray t)).rangeAt w.heap.size 0 D := fun j v hv => by
  rw [Nat.zero_add, World.cell?_alloc_new, List.getElem?_toArray]; exact hv
theorem range_kept {w w' : World} {g o : Nat} {D : List Value} (h : w.rangeAt g o D) (hb : Below w.heap.size w w') : w'.rangeAt g o D := fun j v hv =>
  (hb.cell (p := ⟨g, o + j, none⟩) (World.block_lt_of_cell? _ _ (h j v hv))).trans (h j v hv)
theorem range_cell {w : World} {g : Nat} {D : List Value} (h : w.rangeAt g 0 D) (j : Nat) (v : Value) (hv : D[j]? = some v) : w.cell? ⟨g, j, none⟩ = some v := by
  have := h j v hv
  rwa [Nat.zero_add] at this
/-- the saga's cells by a letter -/
theorem sv_letter (S : Sg) (h : SH) : ∃ D : List Value, sv S h = .agg D.toArray ∧ (Tryz.prog.info? 43).map (·.size) = some D.length ∧ D = scl S h := ⟨_, rfl, infoSaga, rfl⟩
theorem boxed (w : World) (D : List Value) (t : TypeId) : (w.alloc (.cells D.toArray t)).rangeAt w.heap.size 0 D ∧ Below w.heap.size w (w.alloc (.cells D.toArray t)) := ⟨range_new w D t, up0 _ _⟩
theorem wpList_load_midG {P : Program} {ops : Array Oper} {rest : List Oper} {op : Oper} {a : Act} {w : World} {Q : Exit → Act → World → Prop} (hw : Region.wanted op (yielded ops a.tmps) = true) (ty : TypeId) (x : Operand) (ho : op.op = .load ty x)
    (b o : Nat) (hx : a.eval x = .pointer (some ⟨b, o, none⟩)) (cs : List Value) (d : TypeDesc) (hc : w.rangeAt b o cs)
    (hu : P.underlying ty = some d) (hd : d.isRow = true) (hi : (P.info? ty).map (·.size) = some cs.length)
    (h : wpList P ops Q rest (a.put op.dst (.agg cs.toArray)) w) : wpList P ops Q (op :: rest) a w :=
  wpList_step fun K hK => by
    rw [if_pos hw]
    exact wp_load_mid ty x ho b o hx cs d hc hu hd hi (hK _ _ h)

theorem ended_any (S : Sg) (h : SH) (w : World) : Calls Tryz.prog 37 #[sv S h] w fun e w' => e = .returned (.bool S.x.ended) ∧ Below w.heap.size w w' := by
  unfold sv
  cases h1 : (S.x.ph == 3) with
  | true =>
    have H1 : Hid (S.x.ended = true) := by show _ = _; unfold SN.ended; rw [h1]; rfl
    rw [H1.out]
    go_enter Tryz.func37, Tryz.ntmps37
    go_wp2
    go_ret
    exact ⟨rfl, by go_grown⟩
  | false =>
    have H1 : Hid (S.x.ended = (S.x.ph == 4)) := by show _ = _; unfold SN.ended; rw [h1]; rfl
    rw [H1.out]
    go_enter Tryz.func37, Tryz.ntmps37
    go_wp2
    go_ret
    exact ⟨rfl, by go_grown⟩
theorem fwd_any (S : Sg) (h : SH) (w : World) : Calls Tryz.prog 30 #[sv S h] w fun e w' => e = .returned (.bool S.x.fwd) ∧ Below w.heap.size w w' := by
  unfold sv
  cases h1 : (S.x.ph == 1) with
  | true =>
    have H1 : Hid (S.x.fwd = true) := by show _ = _; unfold SN.fwd; rw [h1]; rfl
    rw [H1.out]
    go_enter Tryz.func30, Tryz.ntmps30
    go_wp2
    go_ret
    exact ⟨rfl, by go_grown⟩
  | false =>
    have H1 : Hid (S.x.fwd = (S.x.ph == 3)) := by show _ = _; unfold SN.fwd; rw [h1]; rfl
    rw [H1.out]
    go_enter Tryz.func30, Tryz.ntmps30
    go_wp2
    go_ret
    exact ⟨rfl, by go_grown⟩
theorem atEnd_any (S : Sg) (h : SH) (w : World) : Calls Tryz.prog 55 #[sv S h] w fun e w' => e = .returned (.bool ( S.x.atEnd)) ∧ Below w.heap.size w w' := by
  cases h1 : S.x.fwd with
  | true =>
    have H1 : Hid (S.x.atEnd = (S.x.nx == S.x.cnt)) := by show _ = _; unfold SN.atEnd; rw [h1]; rfl
    rw [H1.out]
    have HF0 : ∀ w', Calls Tryz.prog 30 #[sv S h] w' fun e w'' => e = .returned (.bool true) ∧ Below w'.heap.size w' w'' := fun w' => by rw [← h1]; exact fwd_any S h w'
    obtain ⟨D, hD, hL, hE⟩ := sv_letter S h
    rw [hD] at HF0 ⊢
    have HF : Hid _ := HF0
    have HL : Hid _ := hL
    have HE : Hid (D = scl S h) := hE
    have HX : Hid (∀ t, (w.alloc (.cells D.toArray t)).rangeAt w.heap.size 0 D ∧ Below w.heap.size w (w.alloc (.cells D.toArray t))) := fun t => boxed w D t
    clear hD hL hE HF0
    go_enter Tryz.func55, Tryz.ntmps55
    go_wp2_with (first | (refine wpList_load_mid rfl 43 _ rfl w.heap.size 0 rfl D _ (HX.out _).1 Tryz.underlying43 rfl HL.out ?_) | (refine wpList_load_midG rfl 43 _ rfl w.heap.size 0 rfl D _ (HX.out _).1 Tryz.underlying43 rfl HL.out ?_))
    refine (HF.out _).mono ?_
    rintro e w1 ⟨rfl, b1⟩
    have B1 := andThen (HX.out _).2 b1
    have R1 := range_kept (HX.out _).1 b1
    have c8 := range_cell R1 8 (.int .i64 S.x.nx) (by rw [HE.out]; rfl)
    have c2 := range_cell R1 2 (.int .i64 S.x.cnt) (by rw [HE.out]; rfl)
    clear b1 HX HF HE HL R1
    go_wp2
    go_ret
    exact ⟨rfl, B1⟩
  | false =>
    have H1 : Hid (S.x.atEnd = (S.x.nx == 0)) := by show _ = _; unfold SN.atEnd; rw [h1]; rfl
    rw [H1.out]
    have HF0 : ∀ w', Calls Tryz.prog 30 #[sv S h] w' fun e w'' => e = .returned (.bool false) ∧ Below w'.heap.size w' w'' := fun w' => by rw [← h1]; exact fwd_any S h w'
    obtain ⟨D, hD, hL, hE⟩ := sv_letter S h
    rw [hD] at HF0 ⊢
    have HF : Hid _ := HF0
    have HL : Hid _ := hL
    have HE : Hid (D = scl S h) := hE
    have HX : Hid (∀ t, (w.alloc (.cells D.toArray t)).rangeAt w.heap.size 0 D ∧ Below w.heap.size w (w.alloc (.cells D.toArray t))) := fun t => boxed w D t
    clear hD hL hE HF0
    go_enter Tryz.func55, Tryz.ntmps55
    go_wp2_with (first | (refine wpList_load_mid rfl 43 _ rfl w.heap.size 0 rfl D _ (HX.out _).1 Tryz.underlying43 rfl HL.out ?_) | (refine wpList_load_midG rfl 43 _ rfl w.heap.size 0 rfl D _ (HX.out _).1 Tryz.underlying43 rfl HL.out ?_))
    refine (HF.out _).mono ?_
    rintro e w1 ⟨rfl, b1⟩
    have B1 := andThen (HX.out _).2 b1
    have R1 := range_kept (HX.out _).1 b1
    have c8 := range_cell R1 8 (.int .i64 S.x.nx) (by rw [HE.out]; rfl)
    clear b1 HX HF HE HL R1
    go_wp2
    go_ret
    exact ⟨rfl, B1⟩
theorem outcome_any (S : Sg) (h : SH) (w : World) : Calls Tryz.prog 38 #[sv S h] w fun e w' => e = .returned (.int .i64 ( S.x.outcome)) ∧ Below w.heap.size w w' := by
  cases h1 : S.x.fwd with
  | true =>
    have H1 : Hid (S.x.outcome = 1) := by show _ = _; unfold SN.outcome; rw [h1]; rfl
    rw [H1.out]
    have HF0 : ∀ w', Calls Tryz.prog 30 #[sv S h] w' fun e w'' => e = .returned (.bool true) ∧ Below w'.heap.size w' w'' := fun w' => by rw [← h1]; exact fwd_any S h w'
    obtain ⟨D, hD, hL, hE⟩ := sv_letter S h
    rw [hD] at HF0 ⊢
    have HF : Hid _ := HF0
    have HL : Hid _ := hL
    have HE : Hid (D = scl S h) := hE
    have HX : Hid (∀ t, (w.alloc (.cells D.toArray t)).rangeAt w.heap.size 0 D ∧ Below w.heap.size w (w.alloc (.cells D.toArray t))) := fun t => boxed w D t
    clear hD hL hE HF0
    go_enter Tryz.func38, Tryz.ntmps38
    go_wp2_with (first | (refine wpList_load_mid rfl 43 _ rfl w.heap.size 0 rfl D _ (HX.out _).1 Tryz.underlying43 rfl HL.out ?_) | (refine wpList_load_midG rfl 43 _ rfl w.heap.size 0 rfl D _ (HX.out _).1 Tryz.underlying43 rfl HL.out ?_))
    refine (HF.out _).mono ?_
    rintro e w1 ⟨rfl, b1⟩
    have B1 := andThen (HX.out _).2 b1
    clear b1 HX HF HE HL
    go_wp2
    go_ret
    exact ⟨rfl, B1⟩
  | false =>
    have H1 : Hid (S.x.outcome = 2) := by show _ = _; unfold SN.outcome; rw [h1]; rfl
    rw [H1.out]
    have HF0 : ∀ w', Calls Tryz.prog 30 #[sv S h] w' fun e w'' => e = .returned (.bool false) ∧ Below w'.heap.size w' w'' := fun w' => by rw [← h1]; exact fwd_any S h w'
    obtain ⟨D, hD, hL, hE⟩ := sv_letter S h
    rw [hD] at HF0 ⊢
    have HF : Hid _ := HF0
    have HL : Hid _ := hL
    have HE : Hid (D = scl S h) := hE
    have HX : Hid (∀ t, (w.alloc (.cells D.toArray t)).rangeAt w.heap.size 0 D ∧ Below w.heap.size w (w.alloc (.cells D.toArray t))) := fun t => boxed w D t
    clear hD hL hE HF0
    go_enter Tryz.func38, Tryz.ntmps38
    go_wp2_with (first | (refine wpList_load_mid rfl 43 _ rfl w.heap.size 0 rfl D _ (HX.out _).1 Tryz.underlying43 rfl HL.out ?_) | (refine wpList_load_midG rfl 43 _ rfl w.heap.size 0 rfl D _ (HX.out _).1 Tryz.underlying43 rfl HL.out ?_))
    refine (HF.out _).mono ?_
    rintro e w1 ⟨rfl, b1⟩
    have B1 := andThen (HX.out _).2 b1
    clear b1 HX HF HE HL
    go_wp2
    go_ret
    exact ⟨rfl, B1⟩
theorem turn_any (S : Sg) (h : SH) (w : World) (hn : 0 ≤ S.x.nx ∧ S.x.nx ≤ 32) : Calls Tryz.prog 57 #[sv S h] w fun e w' => e = .returned (.int .i64 ( S.x.turn)) ∧ Below w.heap.size w w' := by
  have i1 : IntKind.i64.wrap (S.x.nx - 1) = S.x.nx - 1 := IntWalk.i64_in _ (by omega)
  cases h1 : S.x.fwd with
  | true =>
    have H1 : Hid (S.x.turn = S.x.nx) := by show _ = _; unfold SN.turn; rw [h1]; rfl
    rw [H1.out]
    have HF0 : ∀ w', Calls Tryz.prog 30 #[sv S h] w' fun e w'' => e = .returned (.bool true) ∧ Below w'.heap.size w' w'' := fun w' => by rw [← h1]; exact fwd_any S h w'
    obtain ⟨D, hD, hL, hE⟩ := sv_letter S h
    rw [hD] at HF0 ⊢
    have HF : Hid _ := HF0
    have HL : Hid _ := hL
    have HE : Hid (D = scl S h) := hE
    have HX : Hid (∀ t, (w.alloc (.cells D.toArray t)).rangeAt w.heap.size 0 D ∧ Below w.heap.size w (w.alloc (.cells D.toArray t))) := fun t => boxed w D t
    clear hD hL hE HF0
    go_enter Tryz.func57, Tryz.ntmps57
    go_wp2_with (first | (refine wpList_load_mid rfl 43 _ rfl w.heap.size 0 rfl D _ (HX.out _).1 Tryz.underlying43 rfl HL.out ?_) | (refine wpList_load_midG rfl 43 _ rfl w.heap.size 0 rfl D _ (HX.out _).1 Tryz.underlying43 rfl HL.out ?_))
    refine (HF.out _).mono ?_
    rintro e w1 ⟨rfl, b1⟩
    have B1 := andThen (HX.out _).2 b1
    have R1 := range_kept (HX.out _).1 b1
    have c8 := range_cell R1 8 (.int .i64 S.x.nx) (by rw [HE.out]; rfl)
    clear b1 HX HF HE HL R1
    go_wp2
    go_ret
    exact ⟨rfl, B1⟩
  | false =>
    have H1 : Hid (S.x.turn = S.x.nx - 1) := by show _ = _; unfold SN.turn; rw [h1]; rfl
    rw [H1.out]
    have HF0 : ∀ w', Calls Tryz.prog 30 #[sv S h] w' fun e w'' => e = .returned (.bool false) ∧ Below w'.heap.size w' w'' := fun w' => by rw [← h1]; exact fwd_any S h w'
    obtain ⟨D, hD, hL, hE⟩ := sv_letter S h
    rw [hD] at HF0 ⊢
    have HF : Hid _ := HF0
    have HL : Hid _ := hL
    have HE : Hid (D = scl S h) := hE
    have HX : Hid (∀ t, (w.alloc (.cells D.toArray t)).rangeAt w.heap.size 0 D ∧ Below w.heap.size w (w.alloc (.cells D.toArray t))) := fun t => boxed w D t
    clear hD hL hE HF0
    go_enter Tryz.func57, Tryz.ntmps57
    go_wp2_with (first | (refine wpList_load_mid rfl 43 _ rfl w.heap.size 0 rfl D _ (HX.out _).1 Tryz.underlying43 rfl HL.out ?_) | (refine wpList_load_midG rfl 43 _ rfl w.heap.size 0 rfl D _ (HX.out _).1 Tryz.underlying43 rfl HL.out ?_))
    refine (HF.out _).mono ?_
    rintro e w1 ⟨rfl, b1⟩
    have B1 := andThen (HX.out _).2 b1
    have R1 := range_kept (HX.out _).1 b1
    have c8 := range_cell R1 8 (.int .i64 S.x.nx) (by rw [HE.out]; rfl)
    clear b1 HX HF HE HL R1
    go_wp2
    go_ret
    exact ⟨rfl, B1⟩
theorem behind_any (S : Sg) (h : SH) (p : Int) (w : World) : Calls Tryz.prog 56 #[sv S h, .int .i64 p] w fun e w' => e = .returned (.bool (S.x.behind p)) ∧ Below w.heap.size w w' := by
  unfold sv
  cases h1 : (S.x.piv != 0) with
  | true =>
    have H1 : Hid (S.x.behind p = decide (S.x.piv ≤ p)) := by show _ = _; unfold SN.behind; rw [h1]; rfl
    rw [H1.out]
    go_enter Tryz.func56, Tryz.ntmps56
    go_wp2
    go_ret
    exact ⟨rfl, by go_grown⟩
  | false =>
    have H1 : Hid (S.x.behind p = false) := by show _ = _; unfold SN.behind; rw [h1]; rfl
    rw [H1.out]
    go_enter Tryz.func56, Tryz.ntmps56
    go_wp2
    go_ret
    exact ⟨rfl, by go_grown⟩
theorem nextTry_any (S : Sg) (h : SH) (w : World) (ht : 0 ≤ S.x.tr ∧ S.x.tr ≤ 1000) : Calls Tryz.prog 106 #[sv S h] w fun e w' => e = .returned (.int .i64 S.x.nextTry) ∧ Below w.heap.size w w' := by
  unfold sv
  have i1 : IntKind.i64.wrap (S.x.tr + 1) = S.x.tr + 1 := IntWalk.i64_in _ (by omega)
  have H1 : Hid (S.x.nextTry = min (S.x.tr + 1) 1000) := rfl
  rw [H1.out]
  go_enter Tryz.func106, Tryz.ntmps106
  go_wp2
  go_ret
  exact ⟨rfl, by go_grown⟩
theorem within_any (n lo hi : Int) (w : World) : Calls Tryz.prog 53 #[.int .i64 n, .int .i64 lo, .int .i64 hi] w fun e w' => e = .returned (.bool (win n lo hi)) ∧ w = w' := by
  cases h1 : decide (lo ≤ n) with
  | true =>
    have H1 : Hid (win n lo hi = decide (n ≤ hi)) := by show _ = _; unfold win; rw [h1]; rfl
    rw [H1.out]
    go_enter Tryz.func53, Tryz.ntmps53
    go_wp2
    go_ret
    exact ⟨rfl, rfl⟩
  | false =>
    have H1 : Hid (win n lo hi = false) := by show _ = _; unfold win; rw [h1]; rfl
    rw [H1.out]
    go_enter Tryz.func53, Tryz.ntmps53
    go_wp2
    go_ret
    exact ⟨rfl, rfl⟩
end Go.Proofs.YtdnackjakfiffaaGreatDoor

/-
  Package saga: Check.
-/
namespace Go.Proofs.YtdnackjakfiffaaGreatDoor
open Go Go.RowKit
open Wb

theorem shortP_cons (l : List Nat) (ls : List (List Nat)) : shortP (l :: ls) = (decide (l.length ≤ 16384) && shortP ls) := rfl
theorem shortP_drop (ls : List (List Nat)) (k : Nat) (hk : k < ls.length) : shortP (ls.drop k) = (decide (ls[k].length ≤ 16384) && shortP (ls.drop (k + 1))) := by
  rw [List.drop_eq_getElem_cons hk, shortP_cons]
set_option maxHeartbeats 1000000 in
theorem short_any (v : Value) (ls : List (List Nat)) (w : World) (k : Ps w v ls) : Calls Tryz.prog 54 #[v] w fun e w' => e = .returned (.bool (shortP ls)) ∧ w = w' := by
  obtain ⟨ao, cap, rfl, hm, hc⟩ := k.shape
  clear k
  have hm' : ls.length ≤ 9223372036854775807 := by simp [maxLen] at hm; omega
  obtain ⟨A, hA⟩ : ∃ A, shortP ls = A := ⟨_, rfl⟩
  have HA : Hid (shortP (ls.drop 0) = A) := hA
  rw [hA]
  clear hA
  go_enter Tryz.func54, Tryz.ntmps54
  go_wp2
  go_loopw [4, 7] (fun d i wr => ∃ k : Nat, k ≤ ls.length ∧ i = .int .i64 (k : Int) ∧ shortP (ls.drop k) = A ∧ w = wr) (fun _ i _ => ls.length - (intOf i).toNat)
  case atStart => exact ⟨0, by omega, rfl, HA.out, rfl⟩
  case round =>
    obtain ⟨k, hk, rfl, hak, rfl⟩ := hrel
    have HAK : Hid (shortP (ls.drop k) = A) := hak
    clear hak HA
    by_cases hlt : k < ls.length
    · obtain ⟨b, off, rfl, hcell⟩ := hc (List.ne_nil_of_length_pos (by omega))
      obtain ⟨vj, h1, h2⟩ := hcell k hlt
      obtain ⟨aj, cj, rfl, _⟩ := h2.shape
      have HS : Hid ((decide (ls[k].length ≤ 16384) && shortP (ls.drop (k + 1))) = A) := by
        show _ = _
        rw [← shortP_drop ls k hlt]; exact HAK.out
      clear HAK h2 hcell hc
      by_cases hs : ls[k].length ≤ 16384
      · have HN : Hid (shortP (ls.drop (k + 1)) = A) := by
          show _ = _
          have := HS.out
          rwa [decide_eq_true hs, Bool.true_and] at this
        have d1 : decide (((16384 : Int)) < (ls[k].length : Int)) = false := by rw [decide_eq_false]; omega
        go_wp2
        go_roundw
        case rel => exact ⟨k + 1, by omega, by go_num, HN.out, trivial⟩
        case measure => simp [intOf]; omega
      · have HN : Hid (false = A) := by
          show _ = _
          have := HS.out
          rwa [decide_eq_false hs, Bool.false_and] at this
        have d1 : decide (((16384 : Int)) < (ls[k].length : Int)) = true := by rw [decide_eq_true]; omega
        go_wp2
        go_ret
        exact ⟨by rw [← HN.out]; rfl, rfl⟩
    · obtain rfl : k = ls.length := by omega
      have HN : Hid (true = A) := by
        show _ = _
        rw [← HAK.out, List.drop_length]; rfl
      clear HAK
      go_wp2
      go_ret
      exact ⟨by rw [← HN.out]; rfl, rfl⟩


set_option maxRecDepth 100000 in
set_option maxHeartbeats 1000000 in
theorem settled_tt (S : Sg) (h : SH) (w : World) (h1 : S.x.atEnd = true) (h3 : S.x.fl = true) : Calls Tryz.prog 29 #[sv S h] w fun e w' => e = .returned (.bool S.x.settled) ∧ Below w.heap.size w w' := by
  have HA0 : ∀ w', Calls Tryz.prog 55 #[sv S h] w' fun e w'' => e = .returned (.bool true) ∧ Below w'.heap.size w' w'' := fun w' => by rw [← h1]; exact atEnd_any S h w'
  have H0 : Hid (S.x.settled = false) := by show _ = _; unfold SN.settled; rw [h1, h3]; rfl
  rw [H0.out]
  have H3 : Hid (S.x.fl = true) := h3
  clear h1 h3 H0
  obtain ⟨D, hD, hL, hE⟩ := sv_letter S h
  rw [hD] at HA0 ⊢
  have HA : Hid _ := HA0
  have HL : Hid _ := hL
  have HE : Hid (D = scl S h) := hE
  have HX : Hid (∀ t, (w.alloc (.cells D.toArray t)).rangeAt w.heap.size 0 D ∧ Below w.heap.size w (w.alloc (.cells D.toArray t))) := fun t => boxed w D t
  clear hD hL hE HA0
  go_enter Tryz.func29, Tryz.ntmps29
  go_wp2_with (first | (refine wpList_load_mid rfl 43 _ rfl w.heap.size 0 rfl D _ (HX.out _).1 Tryz.underlying43 rfl HL.out ?_) | (refine wpList_load_midG rfl 43 _ rfl w.heap.size 0 rfl D _ (HX.out _).1 Tryz.underlying43 rfl HL.out ?_))
  refine (HA.out _).mono ?_
  rintro e w1 ⟨rfl, b1⟩
  have B1 := andThen (HX.out _).2 b1
  have R1 := range_kept (HX.out _).1 b1
  clear b1 HX HA
  have c9 := range_cell R1 9 (.bool S.x.fl) (by rw [HE.out]; rfl)
  rw [H3.out] at c9
  have c10 := range_cell R1 10 (.int .i64 S.x.tr) (by rw [HE.out]; rfl)
  clear R1 HE H3 HL
  go_wp2
  go_ret
  exact ⟨rfl, B1⟩
set_option maxRecDepth 100000 in
set_option maxHeartbeats 1000000 in
theorem settled_tf (S : Sg) (h : SH) (w : World) (h1 : S.x.atEnd = true) (h3 : S.x.fl = false) : Calls Tryz.prog 29 #[sv S h] w fun e w' => e = .returned (.bool S.x.settled) ∧ Below w.heap.size w w' := by
  have HA0 : ∀ w', Calls Tryz.prog 55 #[sv S h] w' fun e w'' => e = .returned (.bool true) ∧ Below w'.heap.size w' w'' := fun w' => by rw [← h1]; exact atEnd_any S h w'
  have H0 : Hid (S.x.settled = (S.x.tr == 0)) := by show _ = _; unfold SN.settled; rw [h1, h3]; rfl
  rw [H0.out]
  have H3 : Hid (S.x.fl = false) := h3
  clear h1 h3 H0
  obtain ⟨D, hD, hL, hE⟩ := sv_letter S h
  rw [hD] at HA0 ⊢
  have HA : Hid _ := HA0
  have HL : Hid _ := hL
  have HE : Hid (D = scl S h) := hE
  have HX : Hid (∀ t, (w.alloc (.cells D.toArray t)).rangeAt w.heap.size 0 D ∧ Below w.heap.size w (w.alloc (.cells D.toArray t))) := fun t => boxed w D t
  clear hD hL hE HA0
  go_enter Tryz.func29, Tryz.ntmps29
  go_wp2_with (first | (refine wpList_load_mid rfl 43 _ rfl w.heap.size 0 rfl D _ (HX.out _).1 Tryz.underlying43 rfl HL.out ?_) | (refine wpList_load_midG rfl 43 _ rfl w.heap.size 0 rfl D _ (HX.out _).1 Tryz.underlying43 rfl HL.out ?_))
  refine (HA.out _).mono ?_
  rintro e w1 ⟨rfl, b1⟩
  have B1 := andThen (HX.out _).2 b1
  have R1 := range_kept (HX.out _).1 b1
  clear b1 HX HA
  have c9 := range_cell R1 9 (.bool S.x.fl) (by rw [HE.out]; rfl)
  rw [H3.out] at c9
  have c10 := range_cell R1 10 (.int .i64 S.x.tr) (by rw [HE.out]; rfl)
  clear R1 HE H3 HL
  go_wp2
  go_ret
  exact ⟨rfl, B1⟩
set_option maxRecDepth 100000 in
set_option maxHeartbeats 1000000 in
theorem settled_ftt (S : Sg) (h : SH) (w : World) (h1 : S.x.atEnd = false) (h2 : S.x.ended = true) (h3 : S.x.fl = true) : Calls Tryz.prog 29 #[sv S h] w fun e w' => e = .returned (.bool S.x.settled) ∧ Below w.heap.size w w' := by
  have HA0 : ∀ w', Calls Tryz.prog 55 #[sv S h] w' fun e w'' => e = .returned (.bool false) ∧ Below w'.heap.size w' w'' := fun w' => by rw [← h1]; exact atEnd_any S h w'
  have HN0 : ∀ w', Calls Tryz.prog 37 #[sv S h] w' fun e w'' => e = .returned (.bool true) ∧ Below w'.heap.size w' w'' := fun w' => by rw [← h2]; exact ended_any S h w'
  have H0 : Hid (S.x.settled = false) := by show _ = _; unfold SN.settled; rw [h1, h2, h3]; rfl
  rw [H0.out]
  have H3 : Hid (S.x.fl = true) := h3
  clear h1 h3 H0 h2
  obtain ⟨D, hD, hL, hE⟩ := sv_letter S h
  rw [hD] at HA0 HN0 ⊢
  have HA : Hid _ := HA0
  have HN : Hid _ := HN0
  have HL : Hid _ := hL
  have HE : Hid (D = scl S h) := hE
  have HX : Hid (∀ t, (w.alloc (.cells D.toArray t)).rangeAt w.heap.size 0 D ∧ Below w.heap.size w (w.alloc (.cells D.toArray t))) := fun t => boxed w D t
  clear hD hL hE HA0 HN0
  go_enter Tryz.func29, Tryz.ntmps29
  go_wp2_with (first | (refine wpList_load_mid rfl 43 _ rfl w.heap.size 0 rfl D _ (HX.out _).1 Tryz.underlying43 rfl HL.out ?_) | (refine wpList_load_midG rfl 43 _ rfl w.heap.size 0 rfl D _ (HX.out _).1 Tryz.underlying43 rfl HL.out ?_))
  refine (HA.out _).mono ?_
  rintro e w1 ⟨rfl, b1⟩
  have B1 := andThen (HX.out _).2 b1
  have R1 := range_kept (HX.out _).1 b1
  clear b1 HX HA
  go_wp2_with (first | (refine wpList_load_mid rfl 43 _ rfl w.heap.size 0 rfl D _ R1 Tryz.underlying43 rfl HL.out ?_) | (refine wpList_load_midG rfl 43 _ rfl w.heap.size 0 rfl D _ R1 Tryz.underlying43 rfl HL.out ?_))
  refine (HN.out _).mono ?_
  rintro e w2 ⟨rfl, b2⟩
  have B2 := andThen B1 b2
  have R2 := range_kept R1 b2
  clear b2 B1 R1 HN
  have c9 := range_cell R2 9 (.bool S.x.fl) (by rw [HE.out]; rfl)
  rw [H3.out] at c9
  have c10 := range_cell R2 10 (.int .i64 S.x.tr) (by rw [HE.out]; rfl)
  clear R2 HE H3 HL
  go_wp2
  go_ret
  exact ⟨rfl, B2⟩
set_option maxRecDepth 100000 in
set_option maxHeartbeats 1000000 in
theorem settled_ftf (S : Sg) (h : SH) (w : World) (h1 : S.x.atEnd = false) (h2 : S.x.ended = true) (h3 : S.x.fl = false) : Calls Tryz.prog 29 #[sv S h] w fun e w' => e = .returned (.bool S.x.settled) ∧ Below w.heap.size w w' := by
  have HA0 : ∀ w', Calls Tryz.prog 55 #[sv S h] w' fun e w'' => e = .returned (.bool false) ∧ Below w'.heap.size w' w'' := fun w' => by rw [← h1]; exact atEnd_any S h w'
  have HN0 : ∀ w', Calls Tryz.prog 37 #[sv S h] w' fun e w'' => e = .returned (.bool true) ∧ Below w'.heap.size w' w'' := fun w' => by rw [← h2]; exact ended_any S h w'
  have H0 : Hid (S.x.settled = (S.x.tr == 0)) := by show _ = _; unfold SN.settled; rw [h1, h2, h3]; rfl
  rw [H0.out]
  have H3 : Hid (S.x.fl = false) := h3
  clear h1 h3 H0 h2
  obtain ⟨D, hD, hL, hE⟩ := sv_letter S h
  rw [hD] at HA0 HN0 ⊢
  have HA : Hid _ := HA0
  have HN : Hid _ := HN0
  have HL : Hid _ := hL
  have HE : Hid (D = scl S h) := hE
  have HX : Hid (∀ t, (w.alloc (.cells D.toArray t)).rangeAt w.heap.size 0 D ∧ Below w.heap.size w (w.alloc (.cells D.toArray t))) := fun t => boxed w D t
  clear hD hL hE HA0 HN0
  go_enter Tryz.func29, Tryz.ntmps29
  go_wp2_with (first | (refine wpList_load_mid rfl 43 _ rfl w.heap.size 0 rfl D _ (HX.out _).1 Tryz.underlying43 rfl HL.out ?_) | (refine wpList_load_midG rfl 43 _ rfl w.heap.size 0 rfl D _ (HX.out _).1 Tryz.underlying43 rfl HL.out ?_))
  refine (HA.out _).mono ?_
  rintro e w1 ⟨rfl, b1⟩
  have B1 := andThen (HX.out _).2 b1
  have R1 := range_kept (HX.out _).1 b1
  clear b1 HX HA
  go_wp2_with (first | (refine wpList_load_mid rfl 43 _ rfl w.heap.size 0 rfl D _ R1 Tryz.underlying43 rfl HL.out ?_) | (refine wpList_load_midG rfl 43 _ rfl w.heap.size 0 rfl D _ R1 Tryz.underlying43 rfl HL.out ?_))
  refine (HN.out _).mono ?_
  rintro e w2 ⟨rfl, b2⟩
  have B2 := andThen B1 b2
  have R2 := range_kept R1 b2
  clear b2 B1 R1 HN
  have c9 := range_cell R2 9 (.bool S.x.fl) (by rw [HE.out]; rfl)
  rw [H3.out] at c9
  have c10 := range_cell R2 10 (.int .i64 S.x.tr) (by rw [HE.out]; rfl)
  clear R2 HE H3 HL
  go_wp2
  go_ret
  exact ⟨rfl, B2⟩
set_option maxRecDepth 100000 in
set_option maxHeartbeats 1000000 in
theorem settled_fft (S : Sg) (h : SH) (w : World) (h1 : S.x.atEnd = false) (h2 : S.x.ended = false) (h3 : S.x.fl = true) : Calls Tryz.prog 29 #[sv S h] w fun e w' => e = .returned (.bool S.x.settled) ∧ Below w.heap.size w w' := by
  have HA0 : ∀ w', Calls Tryz.prog 55 #[sv S h] w' fun e w'' => e = .returned (.bool false) ∧ Below w'.heap.size w' w'' := fun w' => by rw [← h1]; exact atEnd_any S h w'
  have HN0 : ∀ w', Calls Tryz.prog 37 #[sv S h] w' fun e w'' => e = .returned (.bool false) ∧ Below w'.heap.size w' w'' := fun w' => by rw [← h2]; exact ended_any S h w'
  have H0 : Hid (S.x.settled = (S.x.tr != 0)) := by show _ = _; unfold SN.settled; rw [h1, h2, h3]; rfl
  rw [H0.out]
  have H3 : Hid (S.x.fl = true) := h3
  clear h1 h3 H0 h2
  obtain ⟨D, hD, hL, hE⟩ := sv_letter S h
  rw [hD] at HA0 HN0 ⊢
  have HA : Hid _ := HA0
  have HN : Hid _ := HN0
  have HL : Hid _ := hL
  have HE : Hid (D = scl S h) := hE
  have HX : Hid (∀ t, (w.alloc (.cells D.toArray t)).rangeAt w.heap.size 0 D ∧ Below w.heap.size w (w.alloc (.cells D.toArray t))) := fun t => boxed w D t
  clear hD hL hE HA0 HN0
  go_enter Tryz.func29, Tryz.ntmps29
  go_wp2_with (first | (refine wpList_load_mid rfl 43 _ rfl w.heap.size 0 rfl D _ (HX.out _).1 Tryz.underlying43 rfl HL.out ?_) | (refine wpList_load_midG rfl 43 _ rfl w.heap.size 0 rfl D _ (HX.out _).1 Tryz.underlying43 rfl HL.out ?_))
  refine (HA.out _).mono ?_
  rintro e w1 ⟨rfl, b1⟩
  have B1 := andThen (HX.out _).2 b1
  have R1 := range_kept (HX.out _).1 b1
  clear b1 HX HA
  go_wp2_with (first | (refine wpList_load_mid rfl 43 _ rfl w.heap.size 0 rfl D _ R1 Tryz.underlying43 rfl HL.out ?_) | (refine wpList_load_midG rfl 43 _ rfl w.heap.size 0 rfl D _ R1 Tryz.underlying43 rfl HL.out ?_))
  refine (HN.out _).mono ?_
  rintro e w2 ⟨rfl, b2⟩
  have B2 := andThen B1 b2
  have R2 := range_kept R1 b2
  clear b2 B1 R1 HN
  have c9 := range_cell R2 9 (.bool S.x.fl) (by rw [HE.out]; rfl)
  rw [H3.out] at c9
  have c10 := range_cell R2 10 (.int .i64 S.x.tr) (by rw [HE.out]; rfl)
  clear R2 HE H3 HL
  go_wp2
  go_ret
  exact ⟨rfl, B2⟩
set_option maxRecDepth 100000 in
set_option maxHeartbeats 1000000 in
theorem settled_fff (S : Sg) (h : SH) (w : World) (h1 : S.x.atEnd = false) (h2 : S.x.ended = false) (h3 : S.x.fl = false) : Calls Tryz.prog 29 #[sv S h] w fun e w' => e = .returned (.bool S.x.settled) ∧ Below w.heap.size w w' := by
  have HA0 : ∀ w', Calls Tryz.prog 55 #[sv S h] w' fun e w'' => e = .returned (.bool false) ∧ Below w'.heap.size w' w'' := fun w' => by rw [← h1]; exact atEnd_any S h w'
  have HN0 : ∀ w', Calls Tryz.prog 37 #[sv S h] w' fun e w'' => e = .returned (.bool false) ∧ Below w'.heap.size w' w'' := fun w' => by rw [← h2]; exact ended_any S h w'
  have H0 : Hid (S.x.settled = true) := by show _ = _; unfold SN.settled; rw [h1, h2, h3]; rfl
  rw [H0.out]
  have H3 : Hid (S.x.fl = false) := h3
  clear h1 h3 H0 h2
  obtain ⟨D, hD, hL, hE⟩ := sv_letter S h
  rw [hD] at HA0 HN0 ⊢
  have HA : Hid _ := HA0
  have HN : Hid _ := HN0
  have HL : Hid _ := hL
  have HE : Hid (D = scl S h) := hE
  have HX : Hid (∀ t, (w.alloc (.cells D.toArray t)).rangeAt w.heap.size 0 D ∧ Below w.heap.size w (w.alloc (.cells D.toArray t))) := fun t => boxed w D t
  clear hD hL hE HA0 HN0
  go_enter Tryz.func29, Tryz.ntmps29
  go_wp2_with (first | (refine wpList_load_mid rfl 43 _ rfl w.heap.size 0 rfl D _ (HX.out _).1 Tryz.underlying43 rfl HL.out ?_) | (refine wpList_load_midG rfl 43 _ rfl w.heap.size 0 rfl D _ (HX.out _).1 Tryz.underlying43 rfl HL.out ?_))
  refine (HA.out _).mono ?_
  rintro e w1 ⟨rfl, b1⟩
  have B1 := andThen (HX.out _).2 b1
  have R1 := range_kept (HX.out _).1 b1
  clear b1 HX HA
  go_wp2_with (first | (refine wpList_load_mid rfl 43 _ rfl w.heap.size 0 rfl D _ R1 Tryz.underlying43 rfl HL.out ?_) | (refine wpList_load_midG rfl 43 _ rfl w.heap.size 0 rfl D _ R1 Tryz.underlying43 rfl HL.out ?_))
  refine (HN.out _).mono ?_
  rintro e w2 ⟨rfl, b2⟩
  have B2 := andThen B1 b2
  have R2 := range_kept R1 b2
  clear b2 B1 R1 HN
  have c9 := range_cell R2 9 (.bool S.x.fl) (by rw [HE.out]; rfl)
  rw [H3.out] at c9
  have c10 := range_cell R2 10 (.int .i64 S.x.tr) (by rw [HE.out]; rfl)
  clear R2 HE H3 HL
  go_wp2
  go_ret
  exact ⟨rfl, B2⟩
theorem settled_any (S : Sg) (h : SH) (w : World) : Calls Tryz.prog 29 #[sv S h] w fun e w' => e = .returned (.bool S.x.settled) ∧ Below w.heap.size w w' := by
  cases h1 : S.x.atEnd with
  | true =>
    cases h3 : S.x.fl with
    | true => exact settled_tt S h w h1 h3
    | false => exact settled_tf S h w h1 h3
  | false =>
    cases h2 : S.x.ended with
    | true =>
      cases h3 : S.x.fl with
      | true => exact settled_ftt S h w h1 h2 h3
      | false => exact settled_ftf S h w h1 h2 h3
    | false =>
      cases h3 : S.x.fl with
      | true => exact settled_fft S h w h1 h2 h3
      | false => exact settled_fff S h w h1 h2 h3
theorem ps_one {w : World} {v : Value} {l : List Nat} (k : Bs w v l) : Ps (w.alloc (.cells #[v] 30)) (.slice (some ⟨w.heap.size, 0, none⟩) 1 1) [l] := ps1 w w.heap.size rfl 30 k
set_option maxRecDepth 100000 in
set_option maxRecDepth 100000 in
set_option maxHeartbeats 8000000 in
theorem bounded_any (S : Sg) (h : SH) (w : World) (k : SgAt w S h) (hT : Text.TabP 2 .i32 Text.Tx.lets w) (hnm : S.nm.size ≤ 140737488355000) : Calls Tryz.prog 28 #[sv S h] w fun e w' => e = .returned (.bool (bnd S)) ∧ Below w.heap.size w w' := by
  have HX : Hid (∀ t, SBox (w.alloc (.cells #[.int .i64 S.x.id, .string S.nm, .int .i64 S.x.cnt, .int .i64 S.x.piv, .int .i64 S.x.beg, .int .i64 S.x.la, .slice h.ai S.inp.length h.ci, .int .i64 S.x.ph, .int .i64 S.x.nx, .bool S.x.fl, .int .i64 S.x.tr, .slice h.ao S.outs.length h.co, .slice h.au S.und.length h.cu, .int .i64 S.x.fs, .int .i64 S.x.fc, .slice h.af S.fail.length h.cf] t)) w.heap.size t S h ∧ Below w.heap.size w (w.alloc (.cells #[.int .i64 S.x.id, .string S.nm, .int .i64 S.x.cnt, .int .i64 S.x.piv, .int .i64 S.x.beg, .int .i64 S.x.la, .slice h.ai S.inp.length h.ci, .int .i64 S.x.ph, .int .i64 S.x.nx, .bool S.x.fl, .int .i64 S.x.tr, .slice h.ao S.outs.length h.co, .slice h.au S.und.length h.cu, .int .i64 S.x.fs, .int .i64 S.x.fc, .slice h.af S.fail.length h.cf] t))) := fun t => sbox_new w S h t
  have HN : Hid (∀ w', Below w.heap.size w w' → Calls Tryz.prog 52 #[.string S.nm] w' fun e w'' => e = .returned (.tuple #[.int .i64 (Text.Tx.nmA S.nm).1, .int .i64 (Text.Tx.nmA S.nm).2]) ∧ Below w'.heap.size w' w'') := fun w' hb => Text.name_any S.nm w' hnm (hT.kept hb)
  have HK : Hid (∀ w', Below w.heap.size w w' → SgAt w' S h) := fun w' hb => k.kept hb
  clear k hT
  obtain ⟨z1, hz1⟩ : ∃ z, (Text.Tx.nmA S.nm).1 = z := ⟨_, rfl⟩
  obtain ⟨z2, hz2⟩ : ∃ z, (Text.Tx.nmA S.nm).2 = z := ⟨_, rfl⟩
  rw [hz1, hz2] at HN
  have HZ : Hid ((Text.Tx.nmA S.nm).1 = z1) := hz1
  clear hz1 hz2 hnm
  obtain ⟨A, hA⟩ : ∃ A, bnd S = A := ⟨_, rfl⟩
  have HA : Hid (bnd S = A) := hA
  rw [hA]
  clear hA
  unfold sv at *
  go_enter Tryz.func28, Tryz.ntmps28
  go_wp2_with fail
  refine (HN.out _ (HX.out _).2).mono ?_
  rintro e w1 ⟨rfl, b1⟩
  have hbx := (HX.out _).1.kept b1
  have B1 := andThen (HX.out _).2 b1
  clear b1 HX HN
  cases q0 : (z1 == 0) with
  | false =>
    have HF : Hid (false = A) := by
      show _ = _
      have e0 : decide ((Text.Tx.nmA S.nm).1 = 0) = false := by rw [HZ.out]; exact q0
      rw [← HA.out]; unfold bnd; rw [e0]; simp
    go_wp2
    go_ret
    exact ⟨by rw [← HF.out]; rfl, B1⟩
  | true =>
  obtain ⟨c0, c1, c2, c3, c4, c5, c6, c7, c8, c9, c10, c11, c12, c13, c14, c15⟩ := hbx.cells
  go_wp2_with fail
  refine (within_any _ _ _ _).mono ?_
  rintro e _ ⟨rfl, rfl⟩
  cases q1 : win S.x.id 1 9223372036854775807 with
  | false =>
    have HF : Hid (false = A) := by
      show _ = _
      rw [← HA.out]; unfold bnd; rw [q1]; simp
    clear HA HK
    go_wp2
    go_ret
    exact ⟨by rw [← HF.out]; rfl, B1⟩
  | true =>
  go_wp2_with fail
  refine (within_any _ _ _ _).mono ?_
  rintro e _ ⟨rfl, rfl⟩
  cases q2 : win S.x.cnt 1 32 with
  | false =>
    have HF : Hid (false = A) := by
      show _ = _
      rw [← HA.out]; unfold bnd; rw [q2]; simp
    clear HA HK
    go_wp2
    go_ret
    exact ⟨by rw [← HF.out]; rfl, B1⟩
  | true =>
  go_wp2_with fail
  refine (within_any _ _ _ _).mono ?_
  rintro e _ ⟨rfl, rfl⟩
  cases q3 : win S.x.piv 0 S.x.cnt with
  | false =>
    have HF : Hid (false = A) := by
      show _ = _
      rw [← HA.out]; unfold bnd; rw [q3]; simp
    clear HA HK
    go_wp2
    go_ret
    exact ⟨by rw [← HF.out]; rfl, B1⟩
  | true =>
  go_wp2_with fail
  refine (within_any _ _ _ _).mono ?_
  rintro e _ ⟨rfl, rfl⟩
  cases q4 : win S.x.beg 0 9223372036854775807 with
  | false =>
    have HF : Hid (false = A) := by
      show _ = _
      rw [← HA.out]; unfold bnd; rw [q4]; simp
    clear HA HK
    go_wp2
    go_ret
    exact ⟨by rw [← HF.out]; rfl, B1⟩
  | true =>
  go_wp2_with fail
  refine (within_any _ _ _ _).mono ?_
  rintro e _ ⟨rfl, rfl⟩
  cases q5 : win S.x.la 0 9223372036854775807 with
  | false =>
    have HF : Hid (false = A) := by
      show _ = _
      rw [← HA.out]; unfold bnd; rw [q5]; simp
    clear HA HK
    go_wp2
    go_ret
    exact ⟨by rw [← HF.out]; rfl, B1⟩
  | true =>
  go_wp2_with fail
  refine (within_any _ _ _ _).mono ?_
  rintro e _ ⟨rfl, rfl⟩
  cases q6 : win S.x.ph 1 4 with
  | false =>
    have HF : Hid (false = A) := by
      show _ = _
      rw [← HA.out]; unfold bnd; rw [q6]; simp
    clear HA HK
    go_wp2
    go_ret
    exact ⟨by rw [← HF.out]; rfl, B1⟩
  | true =>
  go_wp2_with fail
  refine (within_any _ _ _ _).mono ?_
  rintro e _ ⟨rfl, rfl⟩
  cases q7 : win S.x.tr 0 1000 with
  | false =>
    have HF : Hid (false = A) := by
      show _ = _
      rw [← HA.out]; unfold bnd; rw [q7]; simp
    clear HA HK
    go_wp2
    go_ret
    exact ⟨by rw [← HF.out]; rfl, B1⟩
  | true =>
  have HP7 : Hid (Ps (w1.alloc (.cells #[.slice h.ai S.inp.length h.ci] 30)) (.slice (some ⟨w1.heap.size, 0, none⟩) 1 1) [S.inp]) := ps_one (HK.out _ B1).inp
  go_wp2_with fail
  refine (short_any _ _ _ HP7.out).mono ?_
  rintro e w27 ⟨rfl, rfl⟩
  have B27 := up B1 (.cells #[.slice h.ai S.inp.length h.ci] 30)
  have hbx27 := hbx.kept (up0 _ (.cells #[.slice h.ai S.inp.length h.ci] 30))
  clear c0 c1 c2 c3 c4 c5 c6 c7 c8 c9 c10 c11 c12 c13 c14 c15 hbx HP7
  generalize w1.alloc (.cells #[.slice h.ai S.inp.length h.ci] 30) = w27x at *
  have hbx := hbx27
  clear hbx27
  obtain ⟨c0, c1, c2, c3, c4, c5, c6, c7, c8, c9, c10, c11, c12, c13, c14, c15⟩ := hbx.cells
  cases q8 : shortP [S.inp] with
  | false =>
    have HF : Hid (false = A) := by
      show _ = _
      rw [← HA.out]; unfold bnd; rw [q8]; simp
    clear HA HK
    go_wp2
    go_ret
    exact ⟨by rw [← HF.out]; rfl, B27⟩
  | true =>
  have HP8 : Hid (Ps (w27x.alloc (.cells #[.slice h.af S.fail.length h.cf] 30)) (.slice (some ⟨w27x.heap.size, 0, none⟩) 1 1) [S.fail]) := ps_one (HK.out _ B27).fail
  go_wp2_with fail
  refine (short_any _ _ _ HP8.out).mono ?_
  rintro e w28 ⟨rfl, rfl⟩
  have B28 := up B27 (.cells #[.slice h.af S.fail.length h.cf] 30)
  have hbx28 := hbx.kept (up0 _ (.cells #[.slice h.af S.fail.length h.cf] 30))
  clear c0 c1 c2 c3 c4 c5 c6 c7 c8 c9 c10 c11 c12 c13 c14 c15 hbx HP8
  generalize w27x.alloc (.cells #[.slice h.af S.fail.length h.cf] 30) = w28x at *
  have hbx := hbx28
  clear hbx28
  obtain ⟨c0, c1, c2, c3, c4, c5, c6, c7, c8, c9, c10, c11, c12, c13, c14, c15⟩ := hbx.cells
  cases q9 : shortP [S.fail] with
  | false =>
    have HF : Hid (false = A) := by
      show _ = _
      rw [← HA.out]; unfold bnd; rw [q9]; simp
    clear HA HK
    go_wp2
    go_ret
    exact ⟨by rw [← HF.out]; rfl, B28⟩
  | true =>
  go_wp2_with fail
  refine (short_any _ S.outs _ (HK.out _ B28).outs).mono ?_
  rintro e _ ⟨rfl, rfl⟩
  cases q10 : shortP S.outs with
  | false =>
    have HF : Hid (false = A) := by
      show _ = _
      rw [← HA.out]; unfold bnd; rw [q10]; simp
    clear HA HK
    go_wp2
    go_ret
    exact ⟨by rw [← HF.out]; rfl, B28⟩
  | true =>
  go_wp2_with fail
  refine (short_any _ S.und _ (HK.out _ B28).und).mono ?_
  rintro e _ ⟨rfl, rfl⟩
  cases q11 : shortP S.und with
  | false =>
    have HF : Hid (false = A) := by
      show _ = _
      rw [← HA.out]; unfold bnd; rw [q11]; simp
    clear HA HK
    go_wp2
    go_ret
    exact ⟨by rw [← HF.out]; rfl, B28⟩
  | true =>
  have HF : Hid (true = A) := by
    show _ = _
    have e0 : decide ((Text.Tx.nmA S.nm).1 = 0) = true := by rw [HZ.out]; exact q0
    rw [← HA.out]; unfold bnd; rw [e0, q1, q2, q3, q4, q5, q6, q7, q8, q9, q10, q11]; rfl
  clear HA HK
  go_wp2
  go_ret
  exact ⟨by rw [← HF.out]; rfl, B28⟩

end Go.Proofs.YtdnackjakfiffaaGreatDoor

/-
  The moves of a region that draws, in short.
-/
namespace Go.Proofs.YtdnackjakfiffaaGreatDoor
open Go Go.RowKit
open Wb

theorem zq1 {α : Type} {l : List α} {i : Nat} {a : α} : l.toArray.setIfInBounds i a = (l.set i a).toArray := List.setIfInBounds_toArray _ _ _
theorem zq2 {α : Type} {x : α} {l : List α} {b : α} : (x :: l).set 0 b = b :: l := rfl
theorem zq3 {α : Type} {x : α} {l : List α} {n : Nat} {b : α} : (x :: l).set (n + 1) b = x :: l.set n b := rfl
theorem zq4 {α : Type} {l : List α} {i : Nat} (h : i < l.toArray.size) : l.toArray[i] = l[i]'(by simpa using h) := List.getElem_toArray h
theorem zq5 {α : Type} {x : α} {l : List α} (h : 0 < (x :: l).length) : (x :: l)[0] = x := rfl
theorem zq6 {α : Type} {x : α} {l : List α} {i : Nat} (h : i + 1 < (x :: l).length) : (x :: l)[i + 1] = l[i]'(Nat.lt_of_succ_lt_succ h) := rfl
section
variable {P : Program} {md : Region.Mode} {ops : Array Oper} {Q : Exit → Act → World → Prop} {S : World → Prop} {fuel : Nat} {listed : Array Bool} {a : Act} {w : World} {oi : Oper} {v : Value}
theorem zql (i : Nat) (hi : ops[i]? = some oi) (hy : YieldsIf P ops S oi v a) (hS : S w) (h : wpAnyH P md ops Q S fuel (listed.setIfInBounds i true) (a.put oi.dst v) w) (hs : Region.noSelect ops = true := by kernel_rfl) (hf : Region.free md ops listed i = true := by kernel_rfl) (hr : (Region.ready md ops listed).contains i = true := by kernel_rfl)
    (hQ : ∀ c a w, Q (.panic c) (a.put oi.dst v) w → Q (.panic c) a w := by exact fun _ _ _ h => h) : wpAnyH P md ops Q S (fuel + 1) listed a w := wpAnyH_take hi hs hf hr hQ hy hS h
theorem zqk (i : Nat) (hi : ops[i]? = some oi) (hS : S w) (h : wpAnyH P md ops Q S fuel (listed.setIfInBounds i true) (a.put oi.dst v) w) (hw : Region.wanted oi (yielded ops a.tmps) = true := by rfl) (hy : ∀ w', S w' → (execOp a.eval oi).run P w' = .ok (.value v) w' := by intro w' hSw; (try dsimp only at hSw); go_simp; all_goals rfl) (hs : Region.noSelect ops = true := by kernel_rfl) (hf : Region.free md ops listed i = true := by kernel_rfl) (hr : (Region.ready md ops listed).contains i = true := by kernel_rfl)
    (hQ : ∀ c a w, Q (.panic c) (a.put oi.dst v) w → Q (.panic c) a w := by exact fun _ _ _ h => h) : wpAnyH P md ops Q S (fuel + 1) listed a w := wpAnyH_take hi hs hf hr hQ (Or.inl ⟨hw, hy⟩) hS h
theorem zqr (i : Nat) (hi : ops[i]? = some oi) (h : ∀ K' : Act → World → Prop, Shut (∀ a w, S w → (S w → wpAnyH P md ops Q S fuel (listed.setIfInBounds i true) a w) → K' a w) → if Region.wanted oi (yielded ops a.tmps) = true then Oper.wp P oi a w K' Q else K' (a.put oi.dst undef) w) (hr : Region.ready md ops listed = [i] := by kernel_rfl) : wpAnyH P md ops Q S (fuel + 1) listed a w := wpAnyH_ready hr (by simp) (AllReadyH.cons hi h AllReadyH.nil)
end
end Go.Proofs.YtdnackjakfiffaaGreatDoor
