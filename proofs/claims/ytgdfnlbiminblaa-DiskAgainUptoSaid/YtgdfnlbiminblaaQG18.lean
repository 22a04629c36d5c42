import Derived.Test.YtgdfnlbiminblaaQG17
import Derived.Test.YtgdfnlbiminblaaQG16
/-
  The document's disk: begin.
-/
namespace Go.Proofs.Ytgdfnlbiminblaa
open Go Go.RowKit Go.ChangeShapes
open Wb
open Rd
/-- an operation by its run, in a region that draws -/
theorem step_run {P : Program} {w W : World} {ops : Array Oper} {o : Oper} {a : Act} {K : Act → World → Prop} {Q : Exit → Act → World → Prop} {E : Prop} {v : Value} (hw : Region.wanted o (yielded ops a.tmps) = true) (hr : (execOp a.eval o).run P w = .ok (.value v) W) (h : K (a.put o.dst v) W) : if Region.wanted o (yielded ops a.tmps) = true then Oper.wp P o a w K Q else E := by
  rw [if_pos hw]
  unfold Oper.wp
  rw [hr]
  exact h
namespace Rd
/-- the names of the first files -/
def bnm (fs : List (List UInt8 × List Nat)) : Nat → Dk.Nm
  | 0 => []
  | k + 1 => Dk.put (bnm fs k) (fs.getD k ([], [])).1 k
def bth (fs : List (List UInt8 × List Nat)) : List Th := fs.map fun x => ⟨x.2, x.2.length, true⟩
/-- a disk that was just loaded -/
def rbgn (q : Int) (fs : List (List UInt8 × List Nat)) : RS := ⟨q, bth fs, bnm fs fs.length, bnm fs fs.length, [], -1, false⟩
theorem bnm_len (fs : List (List UInt8 × List Nat)) : ∀ k, (bnm fs k).length ≤ k
  | 0 => Nat.le_refl _
  | k + 1 => by
    have h1 := bnm_len fs k
    have h2 := Dk.len_put (bnm fs k) (fs.getD k ([], [])).1 k
    show (Dk.put _ _ _).length ≤ _
    omega
/-- what begin holds -/
structure BgM (B p2 p3 : Nat) (w : World) (xs : List (Value × Th)) (nm : Dk.Nm) (tv nv : Value) : Prop where
  l3 : LB w p3 43 [tv, nv, .slice none 0 0, .slice none 0 0]
  l2 : LB w p2 43 [.slice none 0 0, .slice none 0 0, .slice none 0 0, .slice none 0 0]
  rt : w.ownsRow B 68 3 tv xs.length (xs.flatMap enT)
  od : ∀ x ∈ xs, Own B w x.1 x.2.data
  rn : En (B ≤ ·) w nv nm
  hB : p2 < B ∧ p3 < B ∧ p2 < p3
section
variable {B p2 p3 : Nat} {w w' : World} {xs : List (Value × Th)} {nm : Dk.Nm} {tv nv : Value}
theorem BgM.kept (h : BgM B p2 p3 w xs nm tv nv) (hb : Below w.heap.size w w') : BgM B p2 p3 w' xs nm tv nv := ⟨h.l3.kept hb, h.l2.kept hb, Mg.row_kept h.rt hb, fun x hx => (h.od x hx).kept hb, h.rn.kept hb, h.hB⟩
/-- a thing is appended, and the longer list kept -/
theorem BgM.app (h : BgM B p2 p3 w xs nm tv nv) (x : Value × Th) (g k : Nat) (hx : Own B w x.1 x.2.data) (hc : LB w g 68 (enT x)) (hmax : xs.length ≤ 900000000) (hBw : B ≤ w.heap.size) : ∃ tv' W, (Builtin.append_ #[39, 39] 39 #[tv, .slice (some ⟨g, 0, none⟩) 1 k]).run Try.prog w = .ok tv' W ∧ BgM B p2 p3 (W.setCell ⟨p3, 0, none⟩ tv') (xs ++ [x]) nm tv' nv ∧ LB W p3 43 [tv, nv, .slice none 0 0, .slice none 0 0] ∧ Below B w W := by
  obtain ⟨a9, c9, e9, -⟩ := Mg.row_shape hx.row
  obtain ⟨tv', W, hr, h1, h2, h3⟩ := row_app1 tiT enT_len h.rt x g k (enT_one ⟨a9, _, c9, e9⟩) hc hmax hBw 39
  have hty : ∀ (t : TypeId) (c n : Nat) (v : Value) (ys : List Value) (B' : Nat), t ≠ 68 → w.ownsRow B' t c v n ys → W.ownsRow B' t c v n ys := fun t c n v ys B' hne hrow => Mg.row_other hrow h2 fun q e e2 => by
    obtain ⟨cur, k1⟩ := Mg.row_type hrow q e
    obtain ⟨cur2, k2⟩ := Mg.row_type h.rt q e2
    rw [k1] at k2
    simp at k2
    exact hne k2.2
  have L3 : LB W p3 43 [tv, nv, .slice none 0 0, .slice none 0 0] := (h3.block p3 h.hB.2.1).trans h.l3
  have far : ∀ q, q ≠ p3 → (W.setCell ⟨p3, 0, none⟩ tv').heap[q]? = W.heap[q]? := fun q hq => set_other _ _ _ _ hq
  have ge : ∀ q, B ≤ q → q ≠ p3 := fun q hq e => by have := h.hB.2.1; omega
  refine ⟨tv', W, hr, ⟨L3.set 0 tv', (far p2 (by have := h.hB.2.2; omega)).trans ((h3.block p2 h.hB.1).trans h.l2), Mg.row_block h1 fun q e => far q (ge q (World.ownsRow.lt h1 q e).1), fun y hy => ?_, ⟨Mg.row_block (hty _ _ _ _ _ _ (by decide) h.rn.row) fun q e => far q (ge q (h.rn.ok q e)), h.rn.ok⟩, h.hB⟩, L3, h3⟩
  have key : ∀ z : Value × Th, Own B w z.1 z.2.data → Own B (W.setCell ⟨p3, 0, none⟩ tv') z.1 z.2.data := fun z hz => ⟨Mg.row_block (hty _ _ _ _ _ _ (by decide) hz.row) fun q e => far q (ge q (World.ownsRow.lt hz.row q e).1), hz.good⟩
  rcases List.mem_append.1 hy with e | e
  · exact key y (h.od y e)
  · rw [List.mem_singleton.1 e]
    exact key x hx
/-- other names -/
theorem BgM.nms (h : BgM B p2 p3 w xs nm tv nv) {nv' : Value} {nm' : Dk.Nm} (hn : En (B ≤ ·) w nv' nm') : BgM B p2 p3 (w.setCell ⟨p3, 1, none⟩ nv') xs nm' tv nv' := by
  have far : ∀ q, q ≠ p3 → (w.setCell ⟨p3, 1, none⟩ nv').heap[q]? = w.heap[q]? := fun q hq => set_other _ _ _ _ hq
  have ge : ∀ q, B ≤ q → q ≠ p3 := fun q hq e => by have := h.hB.2.1; omega
  exact ⟨h.l3.set 1 nv', (far p2 (by have := h.hB.2.2; omega)).trans h.l2, Mg.row_block h.rt fun q e => far q (ge q (World.ownsRow.lt h.rt q e).1), fun y hy => ⟨Mg.row_block (h.od y hy).row fun q e => far q (ge q (World.ownsRow.lt (h.od y hy).row q e).1), (h.od y hy).good⟩, ⟨Mg.row_block hn.row fun q e => far q (ge q (hn.ok q e)), hn.ok⟩, h.hB⟩
end
end Rd
set_option maxRecDepth 100000 in
set_option maxHeartbeats 16000000 in
theorem rkbegin_any (ok1 : Nat → Prop) (v : Value) (fs : List (List UInt8 × List Nat)) (w : World) (h : Fls ok1 w v fs) (hn : fs.length ≤ 300000000) (hl : ∀ x ∈ fs, x.2.length ≤ 1000000000) :
    Calls Try.prog 25 #[v] w fun e w' => ∃ xs tv nv, e = .returned (.agg #[tv, nv, nv, .slice none 0 0]) ∧ xs.map (·.2) = bth fs ∧ SM (w.heap.size ≤ ·) w' xs (bnm fs fs.length) (bnm fs fs.length) [] tv nv nv (.slice none 0 0) ∧ Below w.heap.size w w' := by
  have HV : Hid (∀ W, Below w.heap.size w W → Fls ok1 W v fs) := fun W hW => h.kept hW
  have HLL : Hid (∀ x ∈ fs, x.2.length ≤ 1000000000) := hl
  obtain ⟨fa, fc, e, h1, h2, h3⟩ := h.sh
  subst e
  unfold maxLen at h2
  have h3' : fs ≠ [] → ∃ b off, fa = some ⟨b, off, none⟩ := fun hne => by
    obtain ⟨b, off, e, -⟩ := h3 hne
    exact ⟨b, off, e⟩
  clear h h3 hl
  obtain ⟨l2, l3, b2⟩ := lb_new2 w [.slice none 0 0, .slice none 0 0, .slice none 0 0, .slice none 0 0] [.slice none 0 0, .slice none 0 0, .slice none 0 0, .slice none 0 0] 43 43
  go_enter Try.func25, Try.ntmps25
  go_upto_region 2 with fail
  obtain ⟨W2, hW2⟩ : ∃ W, W = (w.alloc (.cells #[.slice none 0 0, .slice none 0 0, .slice none 0 0, .slice none 0 0] 43)).alloc (.cells #[.slice none 0 0, .slice none 0 0, .slice none 0 0, .slice none 0 0] 43) := ⟨_, rfl⟩
  rw [← hW2]
  obtain ⟨p2, hp2⟩ : ∃ p, p = w.heap.size := ⟨_, rfl⟩
  obtain ⟨p3, hp3⟩ : ∃ p, p = w.heap.size + 1 := ⟨_, rfl⟩
  rw [← hp3, ← hp2]
  rw [← hW2, ← hp2] at l2
  rw [← hW2, ← hp3] at l3
  rw [← hW2] at b2
  have HB2 : Hid (BgM W2.heap.size p2 p3 W2 [] [] (.slice none 0 0) (.slice none 0 0) ∧ Below w.heap.size w W2 ∧ w.heap.size ≤ p2) := ⟨⟨l3, l2, World.ownsRow_nil _ _ _ _, (fun x hx => by cases hx), Rw.nil _ _ _ _ _, l2.lt, l3.lt, by omega⟩, b2, by omega⟩
  clear l2 l3 b2 hW2 hp2 hp3
  go_wp2_with fail
  go_loopw [4] (fun i wr => ∃ (k : Nat) (xs : List (Value × Th)) (tv nv : Value), k ≤ fs.length ∧ i = .int .i64 (k : Int) ∧ BgM W2.heap.size p2 p3 wr xs (bnm fs k) tv nv ∧ xs.map (·.2) = (bth fs).take k ∧ Below w.heap.size w wr ∧ W2.heap.size ≤ wr.heap.size) (fun i _ => fs.length - (intOf i).toNat)
  case atStart => exact ⟨0, [], _, _, Nat.zero_le _, rfl, HB2.out.1, rfl, HB2.out.2.1, Nat.le_refl _⟩
  case round =>
    obtain ⟨k, xs, tv, nv, hk, rfl, hbg, hxs, hb, hsz⟩ := hrel
    have hxl : xs.length ≤ 300000000 := by
      have h9 := congrArg List.length hxs
      rw [List.length_map, List.length_take] at h9
      omega
    have HG : Hid (BgM W2.heap.size p2 p3 wr xs (bnm fs k) tv nv ∧ xs.map (·.2) = (bth fs).take k ∧ Below w.heap.size w wr ∧ W2.heap.size ≤ wr.heap.size) := ⟨hbg, hxs, hb, hsz⟩
    obtain ⟨ta, tc, et, -⟩ := row_at hbg.rt
    obtain ⟨na, nc, en, -⟩ := row_at hbg.rn.row
    subst et en
    clear hbg hxs hb hsz
    by_cases hlt : k < fs.length
    · obtain ⟨a9, c9, e9, -, -, hc9⟩ := (HV.out wr HG.out.2.2.1).sh
      simp only [Value.slice.injEq] at e9
      obtain ⟨rfl, -, -⟩ := e9
      obtain ⟨fb, fo, e8, -, hcc⟩ := hc9 (List.ne_nil_of_length_pos (by omega))
      subst e8
      obtain ⟨p1, dv, q1, s1, -⟩ := hcc k hlt
      obtain ⟨da, dc, ed, -⟩ := s1.shape
      subst ed
      have HSD : Hid (∀ W, Below wr.heap.size wr W → Bs W (.slice da fs[k].2.length dc) fs[k].2) := fun W hW => s1.kept hW
      have HCF : Hid (∀ W, Below wr.heap.size wr W → W.cell? ⟨fb, fo + k * 2, none⟩ = some (enS fs[k].1) ∧ W.cell? ⟨fb, fo + k * 2 + 1, none⟩ = some (.slice da fs[k].2.length dc)) := fun W hW => ⟨(hW.cell (p := ⟨fb, _, none⟩) (World.block_lt_of_cell? _ _ p1)).trans p1, (hW.cell (p := ⟨fb, _, none⟩) (World.block_lt_of_cell? _ _ q1)).trans q1⟩
      have HK : Hid (bnm fs (k + 1) = Dk.put (bnm fs k) fs[k].1 k ∧ (bth fs).take (k + 1) = (bth fs).take k ++ [⟨fs[k].2, fs[k].2.length, true⟩] ∧ fs[k].2.length ≤ 1000000000) := by
        refine ⟨?_, ?_, HLL.out _ (List.getElem_mem hlt)⟩
        · show Dk.put _ (fs.getD k ([], [])).1 k = _
          rw [List.getD_eq_getElem?_getD, List.getElem?_eq_getElem hlt]
          rfl
        · unfold bth
          rw [List.take_succ_eq_append_getElem (by rw [List.length_map]; exact hlt), List.getElem_map]
      have HFN0 : Hid (∀ W, Below w.heap.size w W → W.cell? ⟨fb, fo + k * 2, none⟩ = some (enS fs[k].1)) := fun W hW => by
        obtain ⟨a7, c7, e7, -, -, h7⟩ := (HV.out W hW).sh
        obtain ⟨b7, o7, e6, -, h6⟩ := h7 (List.ne_nil_of_length_pos (by omega))
        simp only [Value.slice.injEq] at e7
        rw [← e7.1] at e6
        simp only [Option.some.injEq, Addr.mk.injEq] at e6
        obtain ⟨g6, -⟩ := h6 k hlt
        rw [← e6.1, ← e6.2.1] at g6
        exact g6
      unfold enS at p1 HCF HFN0
      clear hc9 hcc s1
      generalize fs[k].1 = fn at *
      generalize fs[k].2 = fd at *
      have r0 := HG.out.1.l3.cell 0 _ rfl
      have r1 := HG.out.1.l3.cell 1 _ rfl
      have f0 := HG.out.1.l3.free 0
      have f1 := HG.out.1.l3.free 1
      have HPT : Hid (∀ W, Below wr.heap.size wr W → Calls Try.prog 26 #[.slice da fd.length dc, .int .i64 0, .int .i64 (fd.length : Int)] W fun e w' => ∃ b9 c9, e = .returned (.slice b9 fd.length c9) ∧ Own W.heap.size w' (.slice b9 fd.length c9) fd ∧ Below W.heap.size W w') := fun W hW => (rkpart_any _ fd fd.length W (HSD.out W hW) (Nat.le_refl _) (by have := HK.out.2.2; omega)).mono fun e w' ⟨v', h1, h2, h3⟩ => by
        rw [List.take_length] at h2
        obtain ⟨b9, c9, rfl, -⟩ := Mg.row_shape h2.row
        exact ⟨b9, c9, h1, h2, h3⟩
      have HAP : Hid (∀ (W W3 : World) (b9 : Option Addr) (c9 : Nat), Below wr.heap.size wr W → Below W.heap.size W W3 → Own W.heap.size W3 (.slice b9 fd.length c9) fd → ∃ ta' X' tc' W4, (Builtin.append_ #[39, 39] 39 #[.slice ta xs.length tc, .slice (some ⟨W3.heap.size, 0, none⟩) 1 1]).run Try.prog (W3.alloc (.cells #[.slice b9 fd.length c9, .int .i64 (fd.length : Int), .bool true] 68)) = .ok (.slice ta' X' tc') W4 ∧ BgM W2.heap.size p2 p3 (W4.setCell ⟨p3, 0, none⟩ (.slice ta' X' tc')) (xs ++ [(.slice b9 fd.length c9, ⟨fd, fd.length, true⟩)]) (bnm fs k) (.slice ta' X' tc') (.slice na (bnm fs k).length nc) ∧ LB W4 p3 43 [.slice ta xs.length tc, .slice na (bnm fs k).length nc, .slice none 0 0, .slice none 0 0] ∧ Below w.heap.size w W4 ∧ W2.heap.size ≤ W4.heap.size) := fun W W3 b9 c9 h1 h2 h3 => by
        have b3 := up0 W3 (.cells #[.slice b9 fd.length c9, .int .i64 (fd.length : Int), .bool true] 68)
        have h4 := andThen h1 h2
        obtain ⟨tv', W4, hr, g1, g2, g3⟩ := ((HG.out.1.kept h4).kept b3).app (.slice b9 fd.length c9, ⟨fd, fd.length, true⟩) W3.heap.size 1 ((h3.mono (Nat.le_trans HG.out.2.2.2 h1.size)).kept b3) (lb_new W3 [.slice b9 fd.length c9, .int .i64 (fd.length : Int), .bool true] 68) (by omega) (Nat.le_trans HG.out.2.2.2 (Nat.le_trans h4.size b3.size))
        obtain ⟨ta', tc', e9, -⟩ := row_at g1.rt
        subst e9
        exact ⟨ta', _, tc', W4, hr, g1, g2, (andThen (andThen HG.out.2.2.1 h4) b3).trans (g3.mono HB2.out.2.1.size), Nat.le_trans (Nat.le_trans HG.out.2.2.2 (Nat.le_trans h4.size b3.size)) g3.size⟩
      go_wp2_with fail
      refine wp_region_held_drew (S := fun _ : World => True) (by kernel_rfl) trivial (fun hH => ?_)
      obtain ⟨WW, hWW⟩ : ∃ x, x = wr.drew := ⟨_, rfl⟩
      have HBW : Hid (Below wr.heap.size wr WW) := by rw [hWW]; exact Below.drew (Below.refl _ _)
      rw [← hWW]
      clear hWW
      have k0 := (HG.out.1.kept HBW.out).l3.cell 0 _ rfl
      have k1 := (HCF.out WW HBW.out).2
      refine zqk 0 rfl trivial ?_
      simp only [Act.put, zq1, zq2, zq3, zq4, zq5]
      refine zqk 2 rfl trivial ?_
      simp only [Act.put, zq1, zq2, zq3, zq4, zq5, zq6]
      refine zqk 3 rfl trivial ?_
      simp only [Act.put, zq1, zq2, zq3, zq4, zq5, zq6]
      refine zqk 4 rfl trivial ?_
      simp only [Act.put, zq1, zq2, zq3, zq4, zq5, zq6]
      refine zqk 5 rfl trivial ?_
      simp only [Act.put, zq1, zq2, zq3, zq4, zq5, zq6]
      refine zqk 7 rfl trivial ?_
      simp only [Act.put, zq1, zq2, zq3, zq4, zq5, zq6]
      refine zqk 9 rfl trivial ?_
      simp only [Act.put, zq1, zq2, zq3, zq4, zq5, zq6]
      refine zqm (S := fun W : World => W.cell? ⟨p3, 0, none⟩ = some (.slice ta xs.length tc)) 1 12 rfl (Or.inl ⟨by rfl, by intro w9 h9; (try dsimp only at h9); go_simp; all_goals rfl⟩) k0 ?_
      simp only [Act.put, zq1, zq2, zq3, zq4, zq5, zq6]
      refine wpAnyL_ready (rs := [6]) (by kernel_rfl) (by simp) rfl ?_
      refine AllReadyL.cons rfl (fun K hK => ?_) AllReadyL.nil
      refine step_run (v := .slice da fd.length dc) (W := WW) rfl (by go_simp; all_goals rfl) ?_
      refine hK.out _ _ k0 fun _ => ?_
      clear hK K
      simp only [Act.put, zq1, zq2, zq3, zq4, zq5, zq6]
      refine wpAnyL_ready (rs := [8]) (by kernel_rfl) (by simp) rfl ?_
      refine AllReadyL.cons rfl (fun K hK => ?_) AllReadyL.nil
      go_simp
      refine (HPT.out WW HBW.out).mono ?_
      rintro e w' ⟨b9, c9, rfl, o9, hb'⟩
      obtain ⟨ta', X', tc', W4, hr4, g4, l4, b4, s4⟩ := HAP.out _ w' b9 c9 HBW.out hb' o9
      have k0' := (HG.out.1.kept (andThen HBW.out hb')).l3.cell 0 _ rfl
      refine hK.out _ _ k0' fun _ => ?_
      clear hK K
      try simp only [Act.put, zq1, zq2, zq3, zq4, zq5, zq6]
      refine wpAnyL_ready (rs := [10]) (by kernel_rfl) (by simp) rfl ?_
      refine AllReadyL.cons rfl (fun K hK => ?_) AllReadyL.nil
      refine step_run (v := .agg #[.slice b9 fd.length c9, .int .i64 (fd.length : Int), .bool true]) (W := w') rfl (by go_simp; all_goals rfl) ?_
      refine hK.out _ _ k0' fun _ => ?_
      clear hK K
      simp only [Act.put, zq1, zq2, zq3, zq4, zq5, zq6]
      refine wpAnyL_ready (rs := [11]) (by kernel_rfl) (by simp) rfl ?_
      refine AllReadyL.cons rfl (fun K hK => ?_) AllReadyL.nil
      refine step_run (v := .slice (some ⟨w'.heap.size, 0, none⟩) 1 1) (W := w'.alloc (.cells #[.slice b9 fd.length c9, .int .i64 (fd.length : Int), .bool true] 68)) rfl (by go_simp; all_goals rfl) ?_
      refine hK.out _ _ (((HG.out.1.kept (andThen HBW.out hb')).kept (up0 w' _)).l3.cell 0 _ rfl) fun _ => ?_
      clear hK K
      simp only [Act.put, zq1, zq2, zq3, zq4, zq5, zq6]
      refine wpAnyL_last (by kernel_rfl) ?_
      refine zqr 12 rfl (fun K hK => ?_)
      refine step_appRun rfl (.tmp 19) (.tmp 29) 39 rfl rfl rfl hr4 ?_
      refine hK.out _ _ trivial fun _ => ?_
      clear hK K
      simp only [Act.put, zq1, zq2, zq3, zq4, zq5, zq6]
      refine zqk 13 rfl trivial ?_
      simp only [Act.put, zq1, zq2, zq3, zq4, zq5, zq6]
      refine zqr 14 rfl (fun K hK => ?_)
      have z4 := l4.cell 0 _ rfl
      have y4 := l4.free 0
      go_simp
      refine hK.out _ _ trivial fun _ => ?_
      clear hK K
      try simp only [Act.put, zq1, zq2, zq3, zq4, zq5, zq6]
      refine wpAnyH_done (by kernel_rfl) ?_ _
      obtain ⟨W5, hW5⟩ : ∃ x, x = W4.setCell ⟨p3, 0, none⟩ (.slice ta' X' tc') := ⟨_, rfl⟩
      have H5 : Hid (BgM W2.heap.size p2 p3 W5 (xs ++ [(.slice b9 fd.length c9, ⟨fd, fd.length, true⟩)]) (bnm fs k) (.slice ta' X' tc') (.slice na (bnm fs k).length nc) ∧ Below w.heap.size w W5 ∧ W2.heap.size ≤ W5.heap.size) := by
        rw [hW5]
        refine ⟨g4, b4.setCell (p := ⟨p3, 0, none⟩) (Nat.le_of_lt (Nat.lt_of_le_of_lt HB2.out.2.2 HB2.out.1.hB.2.2)) _, ?_⟩
        rw [size_set1]
        exact s4
      rw [← hW5]
      have HFN : Hid (∀ W, Below w.heap.size w W → W.cell? ⟨fb, fo + k * 2, none⟩ = some (.string ⟨fn.toArray⟩)) := HFN0.out
      clear hW5 g4 l4 b4 s4 z4 y4 hr4 k0 k0' k1 o9 hb' r0 r1 f0 f1 hH
      go_wp2_with fail
      refine wp_region_held_drew (S := fun _ : World => True) (by kernel_rfl) trivial (fun hH => ?_)
      obtain ⟨WV, hWV⟩ : ∃ x, x = W5.drew := ⟨_, rfl⟩
      have HBV : Hid (Below W5.heap.size W5 WV) := by rw [hWV]; exact Below.drew (Below.refl _ _)
      rw [← hWV]
      clear hWV
      have k0 := (H5.out.1.kept HBV.out).l3.cell 1 _ rfl
      have k1 := HFN.out WV (andThen H5.out.2.1 HBV.out)
      have HCW : Hid (Calls Try.prog 39 #[.slice na (bnm fs k).length nc, .string ⟨fn.toArray⟩, .int .i64 (k : Int)] WV fun e w' => ∃ a9 n9 c9, e = .returned (.slice a9 n9 c9) ∧ En (WV.heap.size ≤ ·) w' (.slice a9 n9 c9) (bnm fs (k + 1)) ∧ Below WV.heap.size WV w') := (rkwith_any _ _ (bnm fs k) fn k WV (H5.out.1.kept HBV.out).rn (by have := bnm_len fs k; omega)).mono fun e w' ⟨v', h1, h2, h3⟩ => by
        obtain ⟨a9, c9, rfl⟩ := rw_slice h2
        exact ⟨a9, _, c9, h1, by rw [HK.out.1]; exact h2, h3⟩
      refine zqk 0 rfl trivial ?_
      simp only [Act.put, zq1, zq2, zq3, zq4, zq5]
      refine zqk 2 rfl trivial ?_
      simp only [Act.put, zq1, zq2, zq3, zq4, zq5, zq6]
      refine zqk 3 rfl trivial ?_
      simp only [Act.put, zq1, zq2, zq3, zq4, zq5, zq6]
      refine zqk 4 rfl trivial ?_
      simp only [Act.put, zq1, zq2, zq3, zq4, zq5, zq6]
      refine zqk 5 rfl trivial ?_
      simp only [Act.put, zq1, zq2, zq3, zq4, zq5, zq6]
      refine zqk 7 rfl trivial ?_
      simp only [Act.put, zq1, zq2, zq3, zq4, zq5, zq6]
      refine zqm (S := fun W : World => W.cell? ⟨p3, 1, none⟩ = some (.slice na (bnm fs k).length nc)) 1 8 rfl (Or.inl ⟨by rfl, by intro w9 h9; (try dsimp only at h9); go_simp; all_goals rfl⟩) k0 ?_
      simp only [Act.put, zq1, zq2, zq3, zq4, zq5, zq6]
      refine wpAnyL_ready (rs := [6]) (by kernel_rfl) (by simp) rfl ?_
      refine AllReadyL.cons rfl (fun K hK => ?_) AllReadyL.nil
      refine step_run (v := .string ⟨fn.toArray⟩) (W := WV) rfl (by go_simp; all_goals rfl) ?_
      refine hK.out _ _ k0 fun _ => ?_
      clear hK K
      simp only [Act.put, zq1, zq2, zq3, zq4, zq5, zq6]
      refine wpAnyL_last (by kernel_rfl) ?_
      refine zqr 8 rfl (fun K hK => ?_)
      go_simp
      refine HCW.out.mono ?_
      rintro e W6 ⟨a9, n9, c8, rfl, e6, b6⟩
      refine hK.out _ _ trivial fun _ => ?_
      clear hK K
      try simp only [Act.put, zq1, zq2, zq3, zq4, zq5, zq6]
      refine zqk 9 rfl trivial ?_
      simp only [Act.put, zq1, zq2, zq3, zq4, zq5, zq6]
      have G6 := (H5.out.1.kept HBV.out).kept b6
      have z4 := G6.l3.cell 1 _ rfl
      have y4 := G6.l3.free 1
      have H6 : Hid (BgM W2.heap.size p2 p3 (W6.setCell ⟨p3, 1, none⟩ (.slice a9 n9 c8)) (xs ++ [(.slice b9 fd.length c9, ⟨fd, fd.length, true⟩)]) (bnm fs (k + 1)) (.slice ta' X' tc') (.slice a9 n9 c8) ∧ Below w.heap.size w (W6.setCell ⟨p3, 1, none⟩ (.slice a9 n9 c8)) ∧ W2.heap.size ≤ (W6.setCell ⟨p3, 1, none⟩ (.slice a9 n9 c8)).heap.size) := by
        refine ⟨G6.nms (e6.mono fun q hq => Nat.le_trans (Nat.le_trans H5.out.2.2 HBV.out.size) hq), (andThen (andThen H5.out.2.1 HBV.out) b6).setCell (p := ⟨p3, 1, none⟩) (Nat.le_of_lt (Nat.lt_of_le_of_lt HB2.out.2.2 HB2.out.1.hB.2.2)) _, ?_⟩
        rw [size_set1]
        exact Nat.le_trans H5.out.2.2 (Nat.le_trans HBV.out.size b6.size)
      clear G6 e6 b6 HCW
      refine zqr 10 rfl (fun K hK => ?_)
      go_simp
      refine hK.out _ _ trivial fun _ => ?_
      clear hK K z4 y4
      try simp only [Act.put, zq1, zq2, zq3, zq4, zq5, zq6]
      refine wpAnyH_done (by kernel_rfl) ?_ _
      obtain ⟨W7, hW7⟩ : ∃ x, x = W6.setCell ⟨p3, 1, none⟩ (.slice a9 n9 c8) := ⟨_, rfl⟩
      rw [← hW7] at H6 ⊢
      clear hW7 k0 k1 hH
      go_wp2_with fail
      go_roundw
      case rel =>
        refine ⟨k + 1, _, _, _, by omega, by go_num, H6.out.1, ?_, H6.out.2.1, H6.out.2.2⟩
        rw [List.map_append, HG.out.2.1, HK.out.2.1]
        rfl
      case measure => simp [intOf]; omega
    · have HF : Hid (xs.map (·.2) = bth fs ∧ bnm fs k = bnm fs fs.length) := by
        have h9 := HG.out.2.1
        rw [List.take_of_length_le (by unfold bth; rw [List.length_map]; omega)] at h9
        exact ⟨h9, by rw [show k = fs.length by omega]⟩
      have x1 := HG.out.1.l3.cell 1 _ rfl
      have x0 := HG.out.1.l3.cell 0 _ rfl
      have x2 := HG.out.1.l3.cell 2 _ rfl
      have x3 := HG.out.1.l3.cell 3 _ rfl
      have f2 := HG.out.1.l3.free 2
      have z0 := HG.out.1.l2.cell 0 _ rfl
      have z1 := HG.out.1.l2.cell 1 _ rfl
      have z2 := HG.out.1.l2.cell 2 _ rfl
      have z3 := HG.out.1.l2.cell 3 _ rfl
      have g0 := HG.out.1.l2.free 0
      have g1 := HG.out.1.l2.free 1
      have g2 := HG.out.1.l2.free 2
      have g3 := HG.out.1.l2.free 3
      have HN : Hid (p2 ≠ p3) := by
        have h9 := HG.out.1.hB.2.2
        show p2 ≠ p3
        omega
      have n23 : (p2 = p3) = False := eq_false HN.out
      have n32 : (p3 = p2) = False := eq_false (Ne.symm HN.out)
      obtain ⟨X9, hX9⟩ : ∃ x, x = (bnm fs k).length := ⟨_, rfl⟩
      rw [← hX9] at x1
      have HX9 : Hid (X9 = (bnm fs k).length) := hX9
      clear hX9
      go_wp2_with fail
      have LZ := ((((HG.out.1.l2.other ⟨p3, 2, none⟩ (.slice na X9 nc) HN.out).set 0 (.slice ta xs.length tc)).set 1 (.slice na X9 nc)).set 2 (.slice na X9 nc)).set 3 (.slice none 0 0)
      refine bodyPost_ret (results_cell_mid rfl _ _ p2 [.slice ta xs.length tc, .slice na X9 nc, .slice na X9 nc, .slice none 0 0] _ rfl LZ.range Try.underlying43 rfl (by kernel_rfl)) rfl ?_
      have far : ∀ q, q ≠ p3 → q ≠ p2 → (((((wr.setCell ⟨p3, 2, none⟩ (.slice na X9 nc)).setCell ⟨p2, 0, none⟩ (.slice ta xs.length tc)).setCell ⟨p2, 1, none⟩ (.slice na X9 nc)).setCell ⟨p2, 2, none⟩ (.slice na X9 nc)).setCell ⟨p2, 3, none⟩ (.slice none 0 0)).heap[q]? = wr.heap[q]? := fun q h1 h2 => by
        rw [set_other _ _ _ _ h2, set_other _ _ _ _ h2, set_other _ _ _ _ h2, set_other _ _ _ _ h2, set_other _ _ _ _ h1]
      have hB := HG.out.1.hB
      have hw := HB2.out.2.1.size
      have rt := rw_fin (B := w.heap.size) far (Rw.of HG.out.1.rt) hB.2.1 hB.1 hw
      have hrn := HG.out.1.rn
      rw [← HX9.out, HF.out.2] at hrn
      have rn := rw_fin (B := w.heap.size) far hrn hB.2.1 hB.1 hw
      refine ⟨xs, _, _, rfl, HF.out.1, ⟨rt, fun x hx => ?_, rn, rn, Rw.nil _ _ _ _ _⟩, ?_⟩
      · have ho := HG.out.1.od x hx
        refine ⟨own_blk (ho.mono (Nat.zero_le _)) fun q e => ?_, fun q e => Nat.le_trans hw (World.ownsRow.lt ho.row q e).1⟩
        have h9 := (World.ownsRow.lt ho.row q e).1
        exact far q (by omega) (by omega)
      · refine below_fin far ?_ HG.out.2.2.1 (Nat.le_of_lt (Nat.lt_of_le_of_lt HB2.out.2.2 hB.2.2)) HB2.out.2.2
        simp only [size_set1, os_set, tape_set, output_set, and_self]
end Go.Proofs.Ytgdfnlbiminblaa
