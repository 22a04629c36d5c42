import Derived.Test.YtenhaogheilmoaaDoorQVH
/-
  ArchivePacks: Book.take's region: what it holds at each step, in whatever order.
-/
namespace Go.Proofs.YtenhaogheilmoaaDoor
open Go Go.RowKit
open Wb

/-- a longer one of the same mark -/
def NewV (w1 : World) (B n m d : Nat) (lv : Value) (W : World) (v : Value) : Prop := (∃ a, ∃ c : Nat, v = .slice a (n + d) c) ∧ Mg.Mk 5 (mv m) B W v (n + d) ∧ (v.ownBlock = lv.ownBlock ∨ ∀ g, v.ownBlock = some g → w1.heap.size ≤ g)
def PTa (w1 : World) (B n m : Nat) (lv : Value) (W : World) (g32 : Nat) (v33 : Value) (a : Nat) : Prop := match a with
  | 0 => True
  | 1 => LB W g32 5 (mv m) ∧ w1.heap.size ≤ g32
  | _ => NewV w1 B n m 1 lv W v33
def PTb (w1 : World) (m : Nat) (W : World) (g37 : Nat) (b : Nat) : Prop := match b with
  | 0 => True
  | _ => LB W g37 5 [.int .u8 (m : Int), .int .u8 (m : Int)] ∧ w1.heap.size ≤ g37
def PTc (w1 : World) (B n m : Nat) (lv : Value) (W : World) (g42 : Nat) (v33 v38 v41 : Value) (c : Nat) : Prop := match c with
  | 0 => True
  | 1 => NewV w1 B n m 2 lv W v38
  | 2 => NewV w1 B n m 2 lv W v38 ∧ NewV w1 B n m 200 lv W v41
  | _ => NewV w1 B n m 2 lv W v38 ∧ NewV w1 B n m 200 lv W v41 ∧ LB W g42 25 [lv, v33, v38, v41] ∧ w1.heap.size ≤ g42
structure PT (w1 : World) (B gK n m : Nat) (lv vl vm : Value) (a b c : Nat) (W : World) (g32 g37 g42 : Nat) (v33 v38 v41 : Value) : Prop where
  bnd : B ≤ w1.heap.size
  row : Mg.Mk 5 (mv m) B w1 lv n
  gr : w1.grownBy W lv.ownBlock
  vw : ∀ u k', Mg.Mk 5 (mv m) B w1 u k' → Mg.Mk 5 (mv m) B W u k'
  box : LB W gK 38 [vl, vm]
  fa : PTa w1 B n m lv W g32 v33 a
  fb : PTb w1 m W g37 b
  fc : PTc w1 B n m lv W g42 v33 v38 v41 c
section
variable {w1 : World} {B gK n m : Nat} {lv vl vm : Value} {a b c : Nat} {W W' : World} {g32 g37 g42 : Nat} {v33 v38 v41 : Value}
theorem NewV.on {d : Nat} {v : Value} (h : NewV w1 B n m d lv W v) (hv : ∀ u k', Mg.Mk 5 (mv m) B W u k' → Mg.Mk 5 (mv m) B W' u k') : NewV w1 B n m d lv W' v := ⟨h.1, hv _ _ h.2.1, h.2.2⟩
/-- more of the same: all stays -/
theorem PT.on (h : PT w1 B gK n m lv vl vm a b c W g32 g37 g42 v33 v38 v41) (hg : W.grownBy W' lv.ownBlock) (hv : ∀ u k', Mg.Mk 5 (mv m) B W u k' → Mg.Mk 5 (mv m) B W' u k') : PT w1 B gK n m lv vl vm a b c W' g32 g37 g42 v33 v38 v41 := by
  have hlb : ∀ g, lv.ownBlock = some g → g < w1.heap.size := fun g e => (World.ownsRow.lt h.row g e).2
  have hne : ∀ g, w1.heap.size ≤ g → some g ≠ lv.ownBlock := fun g hge e => by have := hlb g e.symm; omega
  have keep : ∀ {g : Nat} {t : TypeId} {D : List Value}, LB W g t D → w1.heap.size ≤ g → LB W' g t D := fun L hge => (hg.block _ L.lt (hne _ hge)).trans L
  refine ⟨h.bnd, h.row, grown_on h.gr hg (.inl rfl), fun u k' hu => hv u k' (h.vw u k' hu), ?_, ?_, ?_, ?_⟩
  · refine (hg.block gK h.box.lt fun e => ?_).trans h.box
    obtain ⟨cur, h9⟩ := Mg.row_type (h.vw lv n h.row) gK e.symm
    have hb := h.box
    unfold LB at hb
    rw [hb] at h9
    simp at h9
  · have hf := h.fa
    unfold PTa at *
    split at hf
    · trivial
    · exact ⟨keep hf.1 hf.2, hf.2⟩
    · exact hf.on hv
  · have hf := h.fb
    unfold PTb at *
    split at hf
    · trivial
    · exact ⟨keep hf.1 hf.2, hf.2⟩
  · have hf := h.fc
    unfold PTc at *
    split at hf
    · trivial
    · exact hf.on hv
    · exact ⟨hf.1.on hv, hf.2.on hv⟩
    · exact ⟨hf.1.on hv, hf.2.1.on hv, keep hf.2.2.1 hf.2.2.2, hf.2.2.2⟩
theorem PT.alloc (h : PT w1 B gK n m lv vl vm a b c W g32 g37 g42 v33 v38 v41) (o : Obj) : PT w1 B gK n m lv vl vm a b c (W.alloc o) g32 g37 g42 v33 v38 v41 := h.on ⟨rfl, rfl, rfl, (up0 W o).size, fun q hq _ => (up0 W o).block q hq⟩ fun _ _ hu => Mg.row_kept hu (up0 W o)
theorem PT.one (h : PT w1 B gK n m lv vl vm 0 b c W g32 g37 g42 v33 v38 v41) : PT w1 B gK n m lv vl vm 1 b c (W.alloc (.cells (mv m).toArray 5)) W.heap.size g37 g42 v33 v38 v41 := by
  have e := h.alloc (.cells (mv m).toArray 5)
  exact ⟨e.bnd, e.row, e.gr, e.vw, e.box, ⟨lb_new _ _ _, h.gr.size⟩, e.fb, e.fc⟩
theorem PT.two (h : PT w1 B gK n m lv vl vm a 0 c W g32 g37 g42 v33 v38 v41) : PT w1 B gK n m lv vl vm a 1 c (W.alloc (.cells #[.int .u8 (m : Int), .int .u8 (m : Int)] 5)) g32 W.heap.size g42 v33 v38 v41 := by
  have e := h.alloc (.cells #[.int .u8 (m : Int), .int .u8 (m : Int)] 5)
  exact ⟨e.bnd, e.row, e.gr, e.vw, e.box, e.fa, ⟨lb_new W [.int .u8 (m : Int), .int .u8 (m : Int)] 5, h.gr.size⟩, e.fc⟩
end
end Go.Proofs.YtenhaogheilmoaaDoor

/-
  ArchivePacks: Book.take's region: its steps.
-/
namespace Go.Proofs.YtenhaogheilmoaaDoor
open Go Go.RowKit
open Wb

section
variable {w1 : World} {B gK n m : Nat} {lv vl vm : Value} {a b c : Nat} {W W' : World} {g32 g37 g42 : Nat} {v33 v38 v41 : Value}
variable {ops : Array Oper} {o : Oper} {ac : Act} {K : Act → World → Prop} {Q : Exit → Act → World → Prop} {E : Prop}
theorem mv_ok (m : Nat) : 0 < (mv m).length ∧ ∀ u ∈ mv m, u.oneCell' = true := ⟨Nat.one_pos, fun u hu => by simp [mv] at hu; rw [hu]; rfl⟩
/-- append of d marks onto lv -/
theorem PT.app (h : PT w1 B gK n m lv vl vm a b c W g32 g37 g42 v33 v38 v41) (hn : n ≤ 9000000) (ty : TypeId) (d gx : Nat) (hd : d ≤ 10) (hx : ∀ (j : Nat) (u : Value), (Mg.pat (mv m) d)[j]? = some u → W.cell? ⟨gx, j, none⟩ = some u) (cx : Nat) :
    ∃ v' W', (Builtin.append_ #[25, 25] ty #[lv, .slice (some ⟨gx, 0, none⟩) d cx]).run Tryd.prog W = .ok v' W' ∧ NewV w1 B n m d lv W' v' ∧ PT w1 B gK n m lv vl vm a b c W' g32 g37 g42 v33 v38 v41 := by
  obtain ⟨v', W', hr, h1, h2, h3, h4⟩ := Mg.append_mk (P := Tryd.prog) W B 5 25 ty (mv m) (.int .u8 0) 1 (mv_ok m).1 (mv_ok m).2 info5 rfl Tryd.underlying25 lv n d (h.vw lv n h.row) gx cx hx (by omega) (by omega) (Nat.le_trans h.bnd h.gr.size)
  refine ⟨v', W', hr, ⟨?_, h1, ?_⟩, h.on h2 h4⟩
  · obtain ⟨a9, c9, e9, -⟩ := Mg.row_shape h1
    exact ⟨a9, c9, e9⟩
  · rcases h3 with e | e
    · exact .inl e
    · exact .inr fun g eg => by
        have e9 := Option.some.inj (e.symm.trans eg)
        have := h.gr.size
        omega
theorem st_one (hgd : o.guard = none) (ho : o.op = .buildSlice 25 1 #[(0, .tmp 31)]) (hx : ac.tmps[31]?.getD undef = .int .u8 (m : Int)) (st : PT w1 B gK n m lv vl vm 0 b c W g32 g37 g42 v33 v38 v41)
    (h : ∀ W' g', PT w1 B gK n m lv vl vm 1 b c W' g' g37 g42 v33 v38 v41 → K (ac.put o.dst (.slice (some ⟨g', 0, none⟩) 1 1)) W') : if Region.wanted o (yielded ops ac.tmps) = true then Oper.wp Tryd.prog o ac W K Q else E := by
  rw [if_pos (by simp [Region.wanted, hgd])]
  obtain ⟨dst, op', ty, pos, after, guard⟩ := o
  simp only at ho hgd
  subst ho hgd
  have h1 := h _ _ st.one
  unfold mv at h1
  go_simp
  exact h1
theorem st_two (hgd : o.guard = none) (ho : o.op = .buildSlice 25 2 #[(0, .tmp 35), (1, .tmp 36)]) (hx : ac.tmps[35]?.getD undef = .int .u8 (m : Int)) (hy : ac.tmps[36]?.getD undef = .int .u8 (m : Int)) (st : PT w1 B gK n m lv vl vm a 0 c W g32 g37 g42 v33 v38 v41)
    (h : ∀ W' g', PT w1 B gK n m lv vl vm a 1 c W' g32 g' g42 v33 v38 v41 → K (ac.put o.dst (.slice (some ⟨g', 0, none⟩) 2 2)) W') : if Region.wanted o (yielded ops ac.tmps) = true then Oper.wp Tryd.prog o ac W K Q else E := by
  rw [if_pos (by simp [Region.wanted, hgd])]
  obtain ⟨dst, op', ty, pos, after, guard⟩ := o
  simp only at ho hgd
  subst ho hgd
  have h1 := h _ _ st.two
  go_simp
  exact h1
theorem st_app1 (hgd : o.guard = none) (s x : Operand) (ho : o.op = .call { callee := .builtin .append, args := #[s, x], argTypes := #[25, 25] }) (hs : ac.eval s = lv) (hx : ac.eval x = .slice (some ⟨g32, 0, none⟩) 1 1) (hn : n ≤ 9000000) (st : PT w1 B gK n m lv vl vm 1 b 0 W g32 g37 g42 v33 v38 v41)
    (h : ∀ W' b9 c9, PT w1 B gK n m lv vl vm 2 b 0 W' g32 g37 g42 (.slice b9 (n + 1) c9) v38 v41 → K (ac.put o.dst (.slice b9 (n + 1) c9)) W') : if Region.wanted o (yielded ops ac.tmps) = true then Oper.wp Tryd.prog o ac W K Q else E := by
  rw [if_pos (by simp [Region.wanted, hgd])]
  have hf : LB W g32 5 (mv m) := st.fa.1
  obtain ⟨v', W', hr, hv, st2⟩ := st.app hn o.type 1 g32 (by omega) (fun j u hj => hf.cell j u (by
    have e : Mg.pat (mv m) 1 = mv m := by simp [Mg.pat]
    rw [e] at hj
    exact hj)) 1
  obtain ⟨b9, c9, rfl⟩ := hv.1
  unfold Oper.wp
  simp [execOp, ho, resolve, invoke, builtin, hs, hx, hr, Result.andThen]
  exact h W' b9 c9 ⟨st2.bnd, st2.row, st2.gr, st2.vw, st2.box, hv, st2.fb, trivial⟩
theorem st_app2 (hgd : o.guard = none) (s x : Operand) (ho : o.op = .call { callee := .builtin .append, args := #[s, x], argTypes := #[25, 25] }) (hs : ac.eval s = lv) (hx : ac.eval x = .slice (some ⟨g37, 0, none⟩) 2 2) (hn : n ≤ 9000000) (st : PT w1 B gK n m lv vl vm 2 1 0 W g32 g37 g42 v33 v38 v41)
    (h : ∀ W' b9 c9, PT w1 B gK n m lv vl vm 2 1 1 W' g32 g37 g42 v33 (.slice b9 (n + 2) c9) v41 → K (ac.put o.dst (.slice b9 (n + 2) c9)) W') : if Region.wanted o (yielded ops ac.tmps) = true then Oper.wp Tryd.prog o ac W K Q else E := by
  rw [if_pos (by simp [Region.wanted, hgd])]
  have hf : LB W g37 5 [.int .u8 (m : Int), .int .u8 (m : Int)] := st.fb.1
  obtain ⟨v', W', hr, hv, st2⟩ := st.app hn o.type 2 g37 (by omega) (fun j u hj => hf.cell j u (by
    have e : Mg.pat (mv m) 2 = [.int .u8 (m : Int), .int .u8 (m : Int)] := by simp [Mg.pat, mv, List.replicate]
    rw [e] at hj
    exact hj)) 2
  obtain ⟨b9, c9, rfl⟩ := hv.1
  unfold Oper.wp
  simp [execOp, ho, resolve, invoke, builtin, hs, hx, hr, Result.andThen]
  exact h W' b9 c9 ⟨st2.bnd, st2.row, st2.gr, st2.vw, st2.box, st2.fa, st2.fb, hv⟩
set_option maxRecDepth 100000 in
theorem st_long (hgd : o.guard = none) (ho : o.op = .call { callee := .value (.func 26), args := #[.tmp 39, .tmp 40], argTypes := #[25, 5] }) (hs : ac.tmps[39]?.getD undef = lv) (hx : ac.tmps[40]?.getD undef = .int .u8 (m : Int)) (hn : n ≤ 9000000) (st : PT w1 B gK n m lv vl vm 2 1 1 W g32 g37 g42 v33 v38 v41)
    (h : ∀ W' b9 c9, PT w1 B gK n m lv vl vm 2 1 2 W' g32 g37 g42 v33 v38 (.slice b9 (n + 200) c9) → K (ac.put o.dst (.slice b9 (n + 200) c9)) W') : if Region.wanted o (yielded ops ac.tmps) = true then Oper.wp Tryd.prog o ac W K Q else E := by
  rw [if_pos (by simp [Region.wanted, hgd])]
  obtain ⟨dst, op', ty, pos, after, guard⟩ := o
  simp only at ho hgd
  subst ho hgd
  have HC : Hid (Calls Tryd.prog 26 #[lv, .int .u8 (m : Int)] W fun e W' => ∃ b9, ∃ c9 : Nat, e = .returned (.slice b9 (n + 200) c9) ∧ PT w1 B gK n m lv vl vm 2 1 2 W' g32 g37 g42 v33 v38 (.slice b9 (n + 200) c9)) := (arlonger_any B m n lv W (st.vw lv n st.row) hn (Nat.le_trans st.bnd st.gr.size)).mono fun e W' ⟨v', he, h1, h2, h3, h4⟩ => by
    obtain ⟨b9, c9, e9, -⟩ := Mg.row_shape h1
    subst e9
    have st2 := st.on h3 h2
    refine ⟨b9, c9, he, st2.bnd, st2.row, st2.gr, st2.vw, st2.box, st2.fa, st2.fb, st2.fc, ⟨b9, c9, rfl⟩, h1, ?_⟩
    rcases h4 with e | e
    · exact .inl e
    · exact .inr fun g eg => Nat.le_trans st.gr.size (e g eg)
  clear st
  go_simp
  refine HC.out.mono ?_
  rintro e W' ⟨b9, c9, rfl, st2⟩
  exact h W' b9 c9 st2
theorem st_four (hgd : o.guard = none) (ho : o.op = .buildSlice 36 4 #[(0, .tmp 29), (1, .tmp 33), (2, .tmp 38), (3, .tmp 41)]) {b0 b1 b2 b3 : Option Addr} {c0 c1 c2 c3 : Nat} (h0 : ac.tmps[29]?.getD undef = .slice b0 n c0) (h1 : ac.tmps[33]?.getD undef = .slice b1 (n + 1) c1) (h2 : ac.tmps[38]?.getD undef = .slice b2 (n + 2) c2) (h3 : ac.tmps[41]?.getD undef = .slice b3 (n + 200) c3)
    (st : PT w1 B gK n m (.slice b0 n c0) vl vm 2 1 2 W g32 g37 g42 (.slice b1 (n + 1) c1) (.slice b2 (n + 2) c2) (.slice b3 (n + 200) c3))
    (h : ∀ W' g', PT w1 B gK n m (.slice b0 n c0) vl vm 2 1 3 W' g32 g37 g' (.slice b1 (n + 1) c1) (.slice b2 (n + 2) c2) (.slice b3 (n + 200) c3) → K (ac.put o.dst (.slice (some ⟨g', 0, none⟩) 4 4)) W') : if Region.wanted o (yielded ops ac.tmps) = true then Oper.wp Tryd.prog o ac W K Q else E := by
  rw [if_pos (by simp [Region.wanted, hgd])]
  obtain ⟨dst, op', ty, pos, after, guard⟩ := o
  simp only at ho hgd
  subst ho hgd
  have st2 := st.alloc (.cells #[.slice b0 n c0, .slice b1 (n + 1) c1, .slice b2 (n + 2) c2, .slice b3 (n + 200) c3] 25)
  have h9 := h _ W.heap.size ⟨st2.bnd, st2.row, st2.gr, st2.vw, st2.box, st2.fa, st2.fb, st2.fc.1, st2.fc.2, lb_new W [.slice b0 n c0, .slice b1 (n + 1) c1, .slice b2 (n + 2) c2, .slice b3 (n + 200) c3] 25, st.gr.size⟩
  clear h st st2
  go_simp
  exact h9
theorem st_load (hgd : o.guard = none) (ho : o.op = .load 36 (.tmp 27)) (hx : ac.tmps[27]?.getD undef = .pointer (some ⟨gK, 0, none⟩)) (st : PT w1 B gK n m lv vl vm a b c W g32 g37 g42 v33 v38 v41)
    (h : K (ac.put o.dst vl) W) : if Region.wanted o (yielded ops ac.tmps) = true then Oper.wp Tryd.prog o ac W K Q else E := by
  rw [if_pos (by simp [Region.wanted, hgd])]
  obtain ⟨dst, op', ty, pos, after, guard⟩ := o
  simp only at ho hgd
  subst ho hgd
  have x0 := st.box.cell 0 _ rfl
  clear st
  go_simp
  exact h
end
end Go.Proofs.YtenhaogheilmoaaDoor

/-
  ArchivePacks: Book.take's region: its last steps, and what stays.
-/
namespace Go.Proofs.YtenhaogheilmoaaDoor
open Go Go.RowKit
open Wb

/-- every block stays but those of F -/
structure FrK (w w' : World) (F : Nat → Prop) : Prop where
  os : w'.os = w.os
  tape : w'.tape = w.tape
  output : w'.output = w.output
  size : w.heap.size ≤ w'.heap.size
  block : ∀ k, k < w.heap.size → ¬ F k → w'.heap[k]? = w.heap[k]?
theorem FrK.trans {w w1 w2 : World} {F F2 : Nat → Prop} (h : FrK w w1 F) (h2 : FrK w1 w2 F2) (hF : ∀ k, k < w.heap.size → F2 k → F k) : FrK w w2 F :=
  ⟨h2.os.trans h.os, h2.tape.trans h.tape, h2.output.trans h.output, Nat.le_trans h.size h2.size, fun k hk hn => (h2.block k (Nat.lt_of_lt_of_le hk h.size) fun e => hn (hF k hk e)).trans (h.block k hk hn)⟩
theorem FrK.of {w w' : World} {F : Nat → Prop} {b : Option Nat} (h : w.grownBy w' b) (hb : ∀ k, k < w.heap.size → b = some k → F k) : FrK w w' F :=
  ⟨h.os, h.tape, h.output, h.size, fun k hk hn => h.block k hk fun e => hn (hb k hk e.symm)⟩
theorem FrK.refl (w : World) (F : Nat → Prop) : FrK w w F := ⟨rfl, rfl, rfl, Nat.le_refl _, fun _ _ _ => rfl⟩
theorem FrK.below {w w' : World} {F : Nat → Prop} (h : FrK w w' F) (B : Nat) (hB : B ≤ w.heap.size) (hF : ∀ k, F k → B ≤ k) : Below B w w' :=
  ⟨h.os, h.tape, h.output, h.size, fun k hk => h.block k (Nat.lt_of_lt_of_le hk hB) fun e => by have := hF k e; omega⟩
theorem FrK.set {w : World} {F : Nat → Prop} (g o : Nat) (v : Value) (hg : F g) : FrK w (w.setCell ⟨g, o, none⟩ v) F :=
  ⟨rfl, rfl, rfl, by simp [World.setCell], fun k _ hn => set_other _ _ _ _ fun e => hn (e ▸ hg)⟩
/-- the blocks that take writes -/
def TkF (gK : Nat) (vl vm lv : Value) (k : Nat) : Prop := k = gK ∨ vl.ownBlock = some k ∨ vm.ownBlock = some k ∨ lv.ownBlock = some k
/-- all that was handed out stays where another row is written -/
theorem Bk.other {B : Nat} {w w' : World} {gK : Nat} {vl vm lv : Value} {rows : List (Value × Nat × Nat)} (h : Bk B w gK vl vm rows) (ht : ∀ g, lv.ownBlock = some g → ∃ cur, w.heap[g]? = some (.cells cur 5)) (ha : ∀ r ∈ rows, ∀ g, r.1.ownBlock = some g → lv.ownBlock ≠ some g) (hm : ∀ g, vm.ownBlock = some g → lv.ownBlock ≠ some g) (hg : w.grownBy w' lv.ownBlock) : Bk B w' gK vl vm rows := by
  refine ⟨(hg.block gK h.box.lt fun e => ?_).trans h.box, Mg.row_other h.lists hg fun g e e2 => ?_, own_keptB h.marks fun g e => hg.block g (own_block h.marks g e).2 fun e2 => hm g e e2.symm, fun r hr => Mg.row_other (h.rws r hr) hg (ha r hr), h.apart⟩
  · obtain ⟨cur, h9⟩ := ht gK e.symm
    have hb := h.box
    unfold LB at hb
    rw [hb] at h9
    simp at h9
  · obtain ⟨cur, h9⟩ := ht g e2
    obtain ⟨cur2, h8⟩ := Mg.row_type h.lists g e
    rw [h8] at h9
    simp at h9
def newR (n m : Nat) (lv v33 v38 v41 : Value) : List (Value × Nat × Nat) := [(lv, n, m), (v33, n + 1, m), (v38, n + 2, m), (v41, n + 200, m)]
def NewB (w1 : World) (lv v : Value) : Prop := v.ownBlock = lv.ownBlock ∨ ∀ g, v.ownBlock = some g → w1.heap.size ≤ g
/-- what is behind the region -/
structure FT (w1 : World) (B gK n m : Nat) (lv vl vm : Value) (rows : List (Value × Nat × Nat)) (hd v33 v38 v41 v43 : Value) (W : World) : Prop where
  box : LB W gK 38 [hd, vm]
  lists : W.ownsRow B 25 1 v43 (rows.length + 4) (rows.map (·.1) ++ [lv, v33, v38, v41])
  marks : Own B W vm (rows.map (·.2.2))
  rws : ∀ r ∈ rows ++ newR n m lv v33 v38 v41, Mg.Mk 5 (mv r.2.2) B W r.1 r.2.1
  n33 : NewB w1 lv v33
  n38 : NewB w1 lv v38
  n41 : NewB w1 lv v41
  n43 : NewB w1 vl v43
  fr : FrK w1 W (TkF gK vl vm lv)
section
variable {w1 : World} {B gK n m : Nat} {lv vl vm : Value} {rows : List (Value × Nat × Nat)} {W W' : World} {g32 g37 g42 : Nat} {hd v33 v38 v41 v43 : Value}
variable {ops : Array Oper} {o : Oper} {ac : Act} {K : Act → World → Prop} {Q : Exit → Act → World → Prop} {E : Prop}
theorem PT.ends (st : PT w1 B gK n m lv vl vm 2 1 3 W g32 g37 g42 v33 v38 v41) (hk : Bk B w1 gK vl vm rows) (ha : ∀ r ∈ rows, ∀ g, r.1.ownBlock = some g → lv.ownBlock ≠ some g) (hm : ∀ g, vm.ownBlock = some g → lv.ownBlock ≠ some g) (hn : rows.length ≤ 1000) (ty : TypeId) :
    ∃ v' W', (Builtin.append_ #[36, 36] ty #[vl, .slice (some ⟨g42, 0, none⟩) 4 4]).run Tryd.prog W = .ok v' W' ∧ (∃ b9, ∃ c9 : Nat, v' = .slice b9 (rows.length + 4) c9) ∧ FT w1 B gK n m lv vl vm rows vl v33 v38 v41 v' W' := by
  have hkW : Bk B W gK vl vm rows := hk.other (fun g e => Mg.row_type st.row g e) ha hm st.gr
  obtain ⟨i0, hi, hq⟩ := Option.map_eq_some_iff.1 infoBSA
  simp only [Prod.mk.injEq] at hq
  have f33 : NewV w1 B n m 1 lv W v33 := st.fa
  obtain ⟨f38, f41, L42, -⟩ : NewV w1 B n m 2 lv W v38 ∧ NewV w1 B n m 200 lv W v41 ∧ LB W g42 25 [lv, v33, v38, v41] ∧ w1.heap.size ≤ g42 := st.fc
  obtain ⟨al, cl, el, -⟩ := Mg.row_shape st.row
  obtain ⟨v', W', hr, h1, h2, -, h5⟩ := run_append_own_at (P := Tryd.prog) W B 36 ty 25 i0 (.slice none 0 0) 1 24 Tryd.underlying36 hi hq.1 hq.2.1 hq.2.2 rfl (by omega) vl rows.length (rows.map (·.1)) hkW.lists ⟨g42, 0, none⟩ 4 4 [lv, v33, v38, v41] rfl (fun j u hj => by
    rw [Addr.add_lit, Nat.zero_add]
    exact L42.cell j u hj) (by
    obtain ⟨a1, c1, e1⟩ := f33.1
    obtain ⟨a2, c2, e2⟩ := f38.1
    obtain ⟨a3, c3, e3⟩ := f41.1
    intro u hu
    simp only [List.mem_cons, List.not_mem_nil, or_false] at hu
    rcases hu with rfl | rfl | rfl | rfl
    · rw [el]; rfl
    · rw [e1]; rfl
    · rw [e2]; rfl
    · rw [e3]; rfl) (by unfold maxLen; omega) (by omega) (Nat.le_trans st.bnd st.gr.size)
  refine ⟨v', W', hr, ?_, ?_, h1, ?_, ?_, f33.2.2, f38.2.2, f41.2.2, ?_, ?_⟩
  · obtain ⟨a9, c9, e9, -⟩ := Mg.row_shape h1
    exact ⟨a9, c9, e9⟩
  · refine (h2.block gK hkW.box.lt fun e => ?_).trans hkW.box
    obtain ⟨cur, h9⟩ := Mg.row_type hkW.lists gK e.symm
    have hb := hkW.box
    unfold LB at hb
    rw [hb] at h9
    simp at h9
  · refine own_keptB hkW.marks fun g e => h2.block g (own_block hkW.marks g e).2 fun e2 => ?_
    obtain ⟨cs1, z1, h8⟩ := own_typed hkW.marks g e
    obtain ⟨cs2, h9⟩ := Mg.row_type hkW.lists g e2.symm
    rw [h8] at h9
    simp at h9
  · have keep : ∀ (u : Value) (x k : Nat), Mg.Mk 5 (mv x) B W u k → Mg.Mk 5 (mv x) B W' u k := fun u x k hu => Mg.row_other hu h2 fun g e => Mg.kinds_apart hu hkW.lists (by decide) g e
    intro r hr
    rcases List.mem_append.1 hr with hr | hr
    · exact keep _ _ _ (hkW.rws r hr)
    · simp only [newR, List.mem_cons, List.not_mem_nil, or_false] at hr
      rcases hr with rfl | rfl | rfl | rfl
      · exact keep _ _ _ (st.vw lv n st.row)
      · exact keep _ _ _ f33.2.1
      · exact keep _ _ _ f38.2.1
      · exact keep _ _ _ f41.2.1
  · rcases h5 with e | e
    · exact .inl e
    · refine .inr fun g eg => ?_
      have e9 := Option.some.inj (e.symm.trans eg)
      have := st.gr.size
      omega
  · exact (FrK.of st.gr fun k _ e => .inr (.inr (.inr e))).trans (FrK.of (F := TkF gK vl vm lv) h2 fun k _ e => .inr (.inl e)) fun k _ e => e
theorem FT.store (h : FT w1 B gK n m lv vl vm rows hd v33 v38 v41 v43 W) : FT w1 B gK n m lv vl vm rows v43 v33 v38 v41 v43 (W.setCell ⟨gK, 0, none⟩ v43) := by
  have hb := h.box
  unfold LB at hb
  refine ⟨h.box.set 0 _, Mg.row_block h.lists fun g e => set_other _ _ _ _ ?_, own_keptB h.marks fun g e => set_other _ _ _ _ ?_, fun r hr => Mg.row_block (h.rws r hr) fun g e => set_other _ _ _ _ ?_, h.n33, h.n38, h.n41, h.n43, h.fr.trans (FrK.set _ _ _ (.inl rfl)) fun k _ e => e⟩
  · rintro rfl
    obtain ⟨cur, h9⟩ := Mg.row_type h.lists _ e
    rw [hb] at h9
    simp at h9
  · rintro rfl
    obtain ⟨cur, z, h9⟩ := own_typed h.marks _ e
    rw [hb] at h9
    simp at h9
  · rintro rfl
    obtain ⟨cur, h9⟩ := Mg.row_type (h.rws r hr) _ e
    rw [hb] at h9
    simp at h9
theorem st_app3 (hgd : o.guard = none) (s x : Operand) (ho : o.op = .call { callee := .builtin .append, args := #[s, x], argTypes := #[36, 36] }) (hs : ac.eval s = vl) (hx : ac.eval x = .slice (some ⟨g42, 0, none⟩) 4 4) (st : PT w1 B gK n m lv vl vm 2 1 3 W g32 g37 g42 v33 v38 v41) (hk : Bk B w1 gK vl vm rows) (ha : ∀ r ∈ rows, ∀ g, r.1.ownBlock = some g → lv.ownBlock ≠ some g) (hm : ∀ g, vm.ownBlock = some g → lv.ownBlock ≠ some g) (hn : rows.length ≤ 1000)
    (h : ∀ W' b9 c9 m9, FT w1 B gK n m lv vl vm rows vl v33 v38 v41 (.slice b9 m9 c9) W' → K (ac.put o.dst (.slice b9 m9 c9)) W') : if Region.wanted o (yielded ops ac.tmps) = true then Oper.wp Tryd.prog o ac W K Q else E := by
  rw [if_pos (by simp [Region.wanted, hgd])]
  obtain ⟨v', W', hr, ⟨b9, c9, rfl⟩, hf⟩ := st.ends hk ha hm hn o.type
  unfold Oper.wp
  simp [execOp, ho, resolve, invoke, builtin, hs, hx, hr, Result.andThen]
  exact h W' b9 c9 _ hf
theorem st_store3 (hgd : o.guard = none) (ho : o.op = .store 36 (.tmp 45) (.tmp 43)) (hp : ac.tmps[45]?.getD undef = .pointer (some ⟨gK, 0, none⟩)) {b9 : Option Addr} {m9 c9 : Nat} (hv : ac.tmps[43]?.getD undef = .slice b9 m9 c9) (hf : FT w1 B gK n m lv vl vm rows hd v33 v38 v41 (.slice b9 m9 c9) W)
    (h : ∀ W', FT w1 B gK n m lv vl vm rows (.slice b9 m9 c9) v33 v38 v41 (.slice b9 m9 c9) W' → K (ac.put o.dst undef) W') : if Region.wanted o (yielded ops ac.tmps) = true then Oper.wp Tryd.prog o ac W K Q else E := by
  rw [if_pos (by simp [Region.wanted, hgd])]
  obtain ⟨dst, op', ty, pos, after, guard⟩ := o
  simp only at ho hgd
  subst ho hgd
  have h1 := h _ hf.store
  have x0 := hf.box.cell 0 _ rfl
  have f0 := hf.box.free 0
  clear h hf
  go_simp
  exact h1
end
/-- append of bytes in a new row onto a row of the call's own: and where it lies -/
theorem wpList_app_at {P : Program} (w : World) {ops : Array Oper} {rest : List Oper} {o : Oper} {a : Act} {Q : Exit → Act → World → Prop} (hgd : o.guard = none) (s x : Operand) (t : TypeId)
    (ho : o.op = .call { callee := .builtin .append, args := #[s, x], argTypes := #[t, t] })
    (B : Nat) (hinfo : (P.info? 5).map (fun i => (i.zero, i.size, i.bytes)) = some (some (.int .u8 0), 1, 1)) (ht : P.underlying t = some (.slice 5))
    (v : Value) (l : List Nat) (hv : a.eval s = v) (h : Own B w v l) (g m c : Nat) (xs : List Nat) (hxe : a.eval x = .slice (some ⟨g, 0, none⟩) m c) (hxl : xs.length = m) (hx : w.rangeAt g 0 (bv xs)) (hok : ok xs)
    (hmax : l.length + m ≤ 100000000) (hB : B ≤ w.heap.size)
    (hK : ∀ v' w', Own B w' v' (l ++ xs) → w.grownBy w' v.ownBlock → (v'.ownBlock = v.ownBlock ∨ v'.ownBlock = some w.heap.size) → wpList P ops Q rest (a.put o.dst v') w') : wpList P ops Q (o :: rest) a w := by
  obtain ⟨i0, hi, hz0, hz1, hz2⟩ := info_parts hinfo
  obtain ⟨v', w', hr, h1, h2, -, h5⟩ := run_append_own_at (P := P) w B t o.type 5 i0 (.int .u8 0) 1 1 ht hi hz0 hz1 hz2 rfl (by omega) v l.length (bv l) h.row ⟨g, 0, none⟩ m c (bv xs) (by rw [bv_length]; omega) (fun j u hj => by
    rw [Addr.add_lit]
    exact hx j u hj) (bv_one xs) (by unfold maxLen; omega) (by omega) hB
  refine wpList_plain hgd fun _ hK' => ?_
  unfold Oper.wp
  simp [execOp, ho, resolve, invoke, builtin, hv, hxe, hr, Result.andThen]
  refine hK' _ _ (hK v' w' ⟨?_, ok_append h.good hok⟩ h2 h5)
  rw [List.length_append, bv_append, hxl]
  exact h1
end Go.Proofs.YtenhaogheilmoaaDoor
