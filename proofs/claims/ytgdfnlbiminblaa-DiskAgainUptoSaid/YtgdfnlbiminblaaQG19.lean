import Derived.Test.YtgdfnlbiminblaaQG18
/-
  The document's disk: Load.
-/
namespace Go.Proofs.Ytgdfnlbiminblaa
open Go Go.RowKit Go.ChangeShapes
open Wb
open Rd
namespace Rd
/-- the first name that is refused -/
def scn (pre : List (List UInt8)) : List (List UInt8 × List Nat) → Int
  | [] => 0
  | x :: r => if Dk.isNm x.1 = false then 61 else if x.1 ∈ pre then 62 else scn (pre ++ [x.1]) r
def rldE (q : Int) (fs : List (List UInt8 × List Nat)) : Int := if q < 0 ∨ q > 4194304 then 1 else if scn [] fs ≠ 0 then scn [] fs else if (Dk.flen fs : Int) > q then 64 else 0
/-- a value of seven cells -/
def Sev (v : Value) : Prop := ∃ q a1 n1 c1 a2 n2 c2 a3 n3 c3 a4 n4 c4 l d, v = .agg #[.int .i64 q, .slice a1 n1 c1, .slice a2 n2 c2, .slice a3 n3 c3, .slice a4 n4 c4, .int .i64 l, .bool d]
theorem rbgn_parts (q : Int) (fs : List (List UInt8 × List Nat)) (xs : List (Value × Th)) (h : xs.map (·.2) = bth fs) : (rbgn q fs).th = xs.map (·.2) ∧ (rbgn q fs).nm = bnm fs fs.length ∧ (rbgn q fs).la = bnm fs fs.length ∧ (rbgn q fs).ch = [] ∧ (rbgn q fs).quota = q ∧ (rbgn q fs).left = -1 ∧ (rbgn q fs).down = false := ⟨h.symm, rfl, rfl, rfl, rfl, rfl, rfl⟩
theorem scn_at (fs : List (List UInt8 × List Nat)) (k : Nat) (h : k < fs.length) : scn ((fs.take k).map (·.1)) (fs.drop k) = if Dk.isNm fs[k].1 = false then 61 else if fs[k].1 ∈ (fs.take k).map (·.1) then 62 else scn ((fs.take (k + 1)).map (·.1)) (fs.drop (k + 1)) := by
  rw [List.drop_eq_getElem_cons h, List.take_succ_eq_append_getElem h, List.map_append]
  rfl
theorem ld_fin {w Wz W8 : World} {ok2 : Nat → Prop} {fs : List (List UInt8 × List Nat)} {q : Int} {xs : List (Value × Th)} {tv nv lv cv : Value} {p4 : Nat} (hE : rldE q fs = 0) (h : SM ok2 W8 xs (bnm fs fs.length) (bnm fs fs.length) [] tv nv lv cv) (far : ∀ q, q ≠ p4 → Wz.heap[q]? = W8.heap[q]?) (h2 : ∀ x, ok2 x → x ≠ p4) (hm : ∀ x, ok2 x → w.heap.size ≤ x) (hxs : xs.map (·.2) = bth fs) (bl : Below w.heap.size w Wz) :
    ∃ v' E, Ending.returned (.tuple #[.agg #[.int .i64 q, tv, nv, lv, cv, .int .i64 (-1), .bool false], .int .i64 0]) = .returned (.tuple #[v', .int .i64 E]) ∧ Sev v' ∧ rldE q fs = E ∧ (E = 0 → RdM (w.heap.size ≤ ·) Wz (rbgn q fs) v') ∧ Below w.heap.size w Wz := by
  obtain ⟨a1, k1, rfl⟩ := rw_slice h.rt
  obtain ⟨a2, k2, rfl⟩ := rw_slice h.rn
  obtain ⟨a3, k3, rfl⟩ := rw_slice h.rl
  obtain ⟨a4, k4, rfl⟩ := rw_slice h.rc
  exact ⟨_, 0, rfl, ⟨_, _, _, _, _, _, _, _, _, _, _, _, _, _, _, rfl⟩, hE, fun _ => dk_fin (p2 := p4) (p4 := p4) (p7 := p4) (q := q) (l := -1) (d := false) h (fun q h4 _ _ => far q h4) (fun x hx => ⟨h2 x hx, h2 x hx, h2 x hx⟩) hm (rbgn_parts q fs xs hxs), bl⟩
end Rd
set_option maxRecDepth 100000 in
set_option maxHeartbeats 32000000 in
theorem rkload_any (ok1 : Nat → Prop) (q : Int) (v : Value) (fs : List (List UInt8 × List Nat)) (w : World) (h : Fls ok1 w v fs) (hn : fs.length ≤ 300000000) (hl : ∀ x ∈ fs, x.2.length ≤ 1000000000) (hnm : ∀ x ∈ fs, x.1.length ≤ maxLen) (hsum : Dk.flen fs ≤ 1000000000000) :
    Calls Try.prog 8 #[.int .i64 q, v] w fun e w' => ∃ v' E, e = .returned (.tuple #[v', .int .i64 E]) ∧ Sev v' ∧ rldE q fs = E ∧ (E = 0 → RdM (w.heap.size ≤ ·) w' (rbgn q fs) v') ∧ Below w.heap.size w w' := by
  have HV : Hid (∀ W, Below w.heap.size w W → Fls ok1 W v fs) := fun W hW => h.kept hW
  have HLL : Hid ((∀ x ∈ fs, x.2.length ≤ 1000000000) ∧ (∀ x ∈ fs, x.1.length ≤ maxLen) ∧ Dk.flen fs ≤ 1000000000000) := ⟨hl, hnm, hsum⟩
  have HBG : Hid (∀ W, Below w.heap.size w W → Calls Try.prog 25 #[v] W fun e w' => ∃ xs ta X1 tc na X2 nc, e = .returned (.agg #[.slice ta X1 tc, .slice na X2 nc, .slice na X2 nc, .slice none 0 0]) ∧ xs.map (·.2) = bth fs ∧ SM (W.heap.size ≤ ·) w' xs (bnm fs fs.length) (bnm fs fs.length) [] (.slice ta X1 tc) (.slice na X2 nc) (.slice na X2 nc) (.slice none 0 0) ∧ Below W.heap.size W w') := fun W hW => (rkbegin_any ok1 v fs W (h.kept hW) hn hl).mono fun e w' ⟨xs, tv, nv, h1, h2, h3, h4⟩ => by
    obtain ⟨ta, tc, rfl⟩ := rw_slice h3.rt
    obtain ⟨na, nc, rfl⟩ := rw_slice h3.rn
    exact ⟨xs, ta, _, tc, na, _, nc, h1, h2, h3, h4⟩
  obtain ⟨fa, fc, e, h1, h2, -⟩ := h.sh
  subst e
  unfold maxLen at h2
  clear h hl hnm hsum
  have HRE : Hid (rldE q fs = if q < 0 ∨ q > 4194304 then 1 else if scn [] fs ≠ 0 then scn [] fs else if (Dk.flen fs : Int) > q then 64 else 0) := rfl
  obtain ⟨l4, l6, b2⟩ := lb_new2 w [.int .i64 0, .slice none 0 0, .slice none 0 0, .slice none 0 0, .slice none 0 0, .int .i64 0, .bool false] [.int .i64 0, .slice none 0 0, .slice none 0 0, .slice none 0 0, .slice none 0 0, .int .i64 (-1), .bool false] 45 45
  go_enter Try.func8, Try.ntmps8
  go_upto_region 2 with fail
  obtain ⟨W2, hW2⟩ : ∃ W, W = (w.alloc (.cells #[.int .i64 0, .slice none 0 0, .slice none 0 0, .slice none 0 0, .slice none 0 0, .int .i64 0, .bool false] 45)).alloc (.cells #[.int .i64 0, .slice none 0 0, .slice none 0 0, .slice none 0 0, .slice none 0 0, .int .i64 (-1), .bool false] 45) := ⟨_, rfl⟩
  rw [← hW2]
  obtain ⟨p4, hp4⟩ : ∃ p, p = w.heap.size := ⟨_, rfl⟩
  obtain ⟨p6, hp6⟩ : ∃ p, p = w.heap.size + 1 := ⟨_, rfl⟩
  rw [← hp6, ← hp4]
  rw [← hW2, ← hp4] at l4
  rw [← hW2, ← hp6] at l6
  rw [← hW2] at b2
  have HB2 : Hid (LB W2 p4 45 [.int .i64 0, .slice none 0 0, .slice none 0 0, .slice none 0 0, .slice none 0 0, .int .i64 0, .bool false] ∧ LB W2 p6 45 [.int .i64 0, .slice none 0 0, .slice none 0 0, .slice none 0 0, .slice none 0 0, .int .i64 (-1), .bool false] ∧ Below w.heap.size w W2) := ⟨l4, l6, b2⟩
  have HPB : Hid (w.heap.size ≤ p4) := by rw [hp4]; exact Nat.le_refl _
  have HNE : Hid (p4 ≠ p6) := by
    show p4 ≠ p6
    omega
  have n46 : (p4 = p6) = False := eq_false HNE.out
  have n64 : (p6 = p4) = False := eq_false (Ne.symm HNE.out)
  clear l4 l6 b2 hW2 hp4 hp6
  by_cases hq : q < 0 ∨ q > 4194304
  · have HE : Hid (rldE q fs = 1) := by rw [HRE.out, if_pos hq]; rfl
    have HM : Hid (LB W2 p4 45 [.int .i64 0, .slice none 0 0, .slice none 0 0, .slice none 0 0, .slice none 0 0, .int .i64 0, .bool false] ∧ LB W2 p6 45 [.int .i64 0, .slice none 0 0, .slice none 0 0, .slice none 0 0, .slice none 0 0, .int .i64 (-1), .bool false]) := ⟨HB2.out.1, HB2.out.2.1⟩
    have z0 := HM.out.1.cell 0 _ rfl
    have g0 := HM.out.1.free 0
    have y0 := HM.out.2.cell 0 _ rfl
    have z1 := HM.out.1.cell 1 _ rfl
    have g1 := HM.out.1.free 1
    have y1 := HM.out.2.cell 1 _ rfl
    have z2 := HM.out.1.cell 2 _ rfl
    have g2 := HM.out.1.free 2
    have y2 := HM.out.2.cell 2 _ rfl
    have z3 := HM.out.1.cell 3 _ rfl
    have g3 := HM.out.1.free 3
    have y3 := HM.out.2.cell 3 _ rfl
    have z4 := HM.out.1.cell 4 _ rfl
    have g4 := HM.out.1.free 4
    have y4 := HM.out.2.cell 4 _ rfl
    have z5 := HM.out.1.cell 5 _ rfl
    have g5 := HM.out.1.free 5
    have y5 := HM.out.2.cell 5 _ rfl
    have z6 := HM.out.1.cell 6 _ rfl
    have g6 := HM.out.1.free 6
    have y6 := HM.out.2.cell 6 _ rfl
    by_cases hq0 : q < 0
    · have x0 : (q < 0) = True := eq_true hq0
      clear hq hq0
      go_wp2_with fail
      have LZ := (((((((HM.out.1.set 0 (.int .i64 0)).set 1 (.slice none 0 0)).set 2 (.slice none 0 0)).set 3 (.slice none 0 0)).set 4 (.slice none 0 0)).set 5 (.int .i64 (-1))).set 6 (.bool false))
      refine bodyPost_ret (results_cell_slot rfl _ _ p4 [.int .i64 0, .slice none 0 0, .slice none 0 0, .slice none 0 0, .slice none 0 0, .int .i64 (-1), .bool false] _ rfl LZ.range Try.underlying45 rfl (by kernel_rfl)) rfl ?_
      have bl := (((((((HB2.out.2.2.setCell (p := ⟨p4, 0, none⟩) HPB.out (.int .i64 0)).setCell (p := ⟨p4, 1, none⟩) HPB.out (.slice none 0 0)).setCell (p := ⟨p4, 2, none⟩) HPB.out (.slice none 0 0)).setCell (p := ⟨p4, 3, none⟩) HPB.out (.slice none 0 0)).setCell (p := ⟨p4, 4, none⟩) HPB.out (.slice none 0 0)).setCell (p := ⟨p4, 5, none⟩) HPB.out (.int .i64 (-1))).setCell (p := ⟨p4, 6, none⟩) HPB.out (.bool false))
      exact ⟨_, _, rfl, ⟨_, _, _, _, _, _, _, _, _, _, _, _, _, _, _, rfl⟩, HE.out, fun e => absurd e (by decide), bl⟩
    · have x0 : (q < 0) = False := eq_false hq0
      have x1 : (4194304 < q) = True := eq_true (by omega)
      clear hq hq0
      go_wp2_with fail
      have LZ := (((((((HM.out.1.set 0 (.int .i64 0)).set 1 (.slice none 0 0)).set 2 (.slice none 0 0)).set 3 (.slice none 0 0)).set 4 (.slice none 0 0)).set 5 (.int .i64 (-1))).set 6 (.bool false))
      refine bodyPost_ret (results_cell_slot rfl _ _ p4 [.int .i64 0, .slice none 0 0, .slice none 0 0, .slice none 0 0, .slice none 0 0, .int .i64 (-1), .bool false] _ rfl LZ.range Try.underlying45 rfl (by kernel_rfl)) rfl ?_
      have bl := (((((((HB2.out.2.2.setCell (p := ⟨p4, 0, none⟩) HPB.out (.int .i64 0)).setCell (p := ⟨p4, 1, none⟩) HPB.out (.slice none 0 0)).setCell (p := ⟨p4, 2, none⟩) HPB.out (.slice none 0 0)).setCell (p := ⟨p4, 3, none⟩) HPB.out (.slice none 0 0)).setCell (p := ⟨p4, 4, none⟩) HPB.out (.slice none 0 0)).setCell (p := ⟨p4, 5, none⟩) HPB.out (.int .i64 (-1))).setCell (p := ⟨p4, 6, none⟩) HPB.out (.bool false))
      exact ⟨_, _, rfl, ⟨_, _, _, _, _, _, _, _, _, _, _, _, _, _, _, rfl⟩, HE.out, fun e => absurd e (by decide), bl⟩
  · have x0 : (q < 0) = False := eq_false (by omega)
    have x1 : (4194304 < q) = False := eq_false (by omega)
    have HR2 : Hid (rldE q fs = if scn [] fs ≠ 0 then scn [] fs else if (Dk.flen fs : Int) > q then 64 else 0) := by rw [HRE.out, if_neg hq]; rfl
    have HQ : Hid (0 ≤ q ∧ q ≤ 4194304) := by
      show 0 ≤ q ∧ q ≤ 4194304
      omega
    clear hq HRE
    go_wp2_with fail
    go_loopw [7, 8] (fun s i wr => ∃ k : Nat, k ≤ fs.length ∧ i = .int .i64 (k : Int) ∧ s = .int .i64 (Dk.flen (fs.take k) : Int) ∧ scn [] fs = scn ((fs.take k).map (·.1)) (fs.drop k) ∧ Below W2.heap.size W2 wr) (fun _ i _ => fs.length - (intOf i).toNat)
    case atStart => exact ⟨0, Nat.zero_le _, rfl, rfl, rfl, Below.refl _ _⟩
    case round =>
      obtain ⟨k, hk, rfl, rfl, hsc, hb⟩ := hrel
      have HS : Hid (scn [] fs = scn ((fs.take k).map (·.1)) (fs.drop k) ∧ Below W2.heap.size W2 wr) := ⟨hsc, hb⟩
      clear hsc hb
      by_cases hlt : k < fs.length
      · have HSA : Hid (scn [] fs = if Dk.isNm fs[k].1 = false then 61 else if fs[k].1 ∈ (fs.take k).map (·.1) then 62 else scn ((fs.take (k + 1)).map (·.1)) (fs.drop (k + 1))) := HS.out.1.trans (scn_at fs k hlt)
        have HFL : Hid (Dk.flen (fs.take (k + 1)) = Dk.flen (fs.take k) + fs[k].2.length ∧ Dk.flen (fs.take (k + 1)) ≤ 1000000000000) := ⟨by rw [List.take_succ_eq_append_getElem hlt, Dk.flen_snoc], Nat.le_trans (Dk.flen_take fs (k + 1)) HLL.out.2.2⟩
        obtain ⟨fb, fo, hfa⟩ : ∃ b o, fa = some ⟨b, o, none⟩ := by
          obtain ⟨a7, c7, e7, -, -, h7⟩ := (HV.out w (Below.refl _ _)).sh
          obtain ⟨b7, o7, e6, -⟩ := h7 (List.ne_nil_of_length_pos (by omega))
          simp only [Value.slice.injEq] at e7
          exact ⟨b7, o7, e7.1.trans e6⟩
        subst hfa
        have HCF : Hid (∀ W, Below W2.heap.size W2 W → ∀ j (h : j < fs.length), W.cell? ⟨fb, fo + j * 2, none⟩ = some (.string ⟨fs[j].1.toArray⟩) ∧ ∃ da dc, W.cell? ⟨fb, fo + j * 2 + 1, none⟩ = some (.slice da fs[j].2.length dc)) := fun W hW j hj => by
          obtain ⟨a7, c7, e7, -, -, h7⟩ := (HV.out W (andThen HB2.out.2.2 hW)).sh
          obtain ⟨b7, o7, e6, -, h6⟩ := h7 (List.ne_nil_of_length_pos (by omega))
          simp only [Value.slice.injEq] at e7
          rw [← e7.1] at e6
          simp only [Option.some.injEq, Addr.mk.injEq] at e6
          obtain ⟨g6, dv, g7, g8, -⟩ := h6 j hj
          obtain ⟨da, dc, e9, -⟩ := g8.shape
          rw [← e6.1, ← e6.2.1] at g6 g7
          exact ⟨g6, da, dc, by rw [g7, e9]⟩
        have HPA : Hid (Calls Try.prog 24 #[.string ⟨fs[k].1.toArray⟩] wr fun e w' => e = .returned (.bool (Dk.isNm fs[k].1)) ∧ wr = w') := (rkpath_any ⟨fs[k].1.toArray⟩ wr (by have h9 := HLL.out.2.1 _ (List.getElem_mem hlt); show fs[k].1.toArray.size ≤ _; simpa using h9)).mono fun e w' ⟨h1, h2⟩ => ⟨h1, h2.symm⟩
        obtain ⟨c0, -⟩ := HCF.out wr HS.out.2 k hlt
        have HLN : Hid (∀ j (h : j < fs.length), fs[j].1 = fs[k].1 → j < k → fs[k].1 ∈ (fs.take k).map (·.1)) := fun j hj e hjk => by
          rw [← e]
          refine List.mem_map.2 ⟨fs[j], ?_, rfl⟩
          rw [List.mem_take_iff_getElem]
          exact ⟨j, by omega, rfl⟩
        have HNM : Hid ((∀ j (_ : j < k) (h : j < fs.length), fs[j].1 ≠ fs[k].1) → fs[k].1 ∉ (fs.take k).map (·.1)) := fun hne hm => by
          obtain ⟨x, hx, e⟩ := List.mem_map.1 hm
          obtain ⟨j, hj, e2⟩ := List.mem_take_iff_getElem.1 hx
          rw [← e2] at e
          exact hne j (by omega) (by omega) e
        generalize hfn : fs[k].1 = fn at *
        cases hna : Dk.isNm fn with
        | false =>
          have HE : Hid (rldE q fs = 61) := by
            show rldE q fs = 61
            have h9 : scn [] fs = 61 := by rw [HSA.out, if_pos hna]
            rw [HR2.out, h9]
            rfl
          rw [hna] at HPA
          have HM : Hid (LB wr p4 45 [.int .i64 0, .slice none 0 0, .slice none 0 0, .slice none 0 0, .slice none 0 0, .int .i64 0, .bool false] ∧ LB wr p6 45 [.int .i64 0, .slice none 0 0, .slice none 0 0, .slice none 0 0, .slice none 0 0, .int .i64 (-1), .bool false]) := ⟨HB2.out.1.kept HS.out.2, HB2.out.2.1.kept HS.out.2⟩
          have z0 := HM.out.1.cell 0 _ rfl
          have g0 := HM.out.1.free 0
          have y0 := HM.out.2.cell 0 _ rfl
          have z1 := HM.out.1.cell 1 _ rfl
          have g1 := HM.out.1.free 1
          have y1 := HM.out.2.cell 1 _ rfl
          have z2 := HM.out.1.cell 2 _ rfl
          have g2 := HM.out.1.free 2
          have y2 := HM.out.2.cell 2 _ rfl
          have z3 := HM.out.1.cell 3 _ rfl
          have g3 := HM.out.1.free 3
          have y3 := HM.out.2.cell 3 _ rfl
          have z4 := HM.out.1.cell 4 _ rfl
          have g4 := HM.out.1.free 4
          have y4 := HM.out.2.cell 4 _ rfl
          have z5 := HM.out.1.cell 5 _ rfl
          have g5 := HM.out.1.free 5
          have y5 := HM.out.2.cell 5 _ rfl
          have z6 := HM.out.1.cell 6 _ rfl
          have g6 := HM.out.1.free 6
          have y6 := HM.out.2.cell 6 _ rfl
          clear hna hfn
          go_wp2_with fail
          refine HPA.out.mono ?_
          rintro e Wf ⟨rfl, rfl⟩
          go_wp2_with fail
          have LZ := (((((((HM.out.1.set 0 (.int .i64 0)).set 1 (.slice none 0 0)).set 2 (.slice none 0 0)).set 3 (.slice none 0 0)).set 4 (.slice none 0 0)).set 5 (.int .i64 (-1))).set 6 (.bool false))
          refine bodyPost_ret (results_cell_slot rfl _ _ p4 [.int .i64 0, .slice none 0 0, .slice none 0 0, .slice none 0 0, .slice none 0 0, .int .i64 (-1), .bool false] _ rfl LZ.range Try.underlying45 rfl (by kernel_rfl)) rfl ?_
          have bl := ((((((((andThen HB2.out.2.2 HS.out.2).setCell (p := ⟨p4, 0, none⟩) HPB.out (.int .i64 0)).setCell (p := ⟨p4, 1, none⟩) HPB.out (.slice none 0 0)).setCell (p := ⟨p4, 2, none⟩) HPB.out (.slice none 0 0)).setCell (p := ⟨p4, 3, none⟩) HPB.out (.slice none 0 0)).setCell (p := ⟨p4, 4, none⟩) HPB.out (.slice none 0 0)).setCell (p := ⟨p4, 5, none⟩) HPB.out (.int .i64 (-1))).setCell (p := ⟨p4, 6, none⟩) HPB.out (.bool false))
          exact ⟨_, _, rfl, ⟨_, _, _, _, _, _, _, _, _, _, _, _, _, _, _, rfl⟩, HE.out, fun e => absurd e (by decide), bl⟩
        | true =>
          rw [hna] at HPA
          have HSB : Hid (scn [] fs = if fn ∈ (fs.take k).map (·.1) then 62 else scn ((fs.take (k + 1)).map (·.1)) (fs.drop (k + 1))) := by rw [HSA.out, if_neg (by rw [hna]; simp)]; rfl
          have HFE : Hid (∀ W, Below W2.heap.size W2 W → W.cell? ⟨fb, fo + k * 2, none⟩ = some (.string ⟨fn.toArray⟩)) := fun W hW => by
            have h9 := (HCF.out W hW k hlt).1
            rw [hfn] at h9
            exact h9
          clear hna HSA
          go_wp2_with fail
          refine HPA.out.mono ?_
          rintro e Wf ⟨rfl, rfl⟩
          clear HPA c0
          obtain ⟨Wo, hWo⟩ : ∃ x, x = wr := ⟨_, rfl⟩
          subst hWo
          go_wp2_with fail
          go_loopw [10] (fun i wr => ∃ j : Nat, j ≤ k ∧ i = .int .i64 (j : Int) ∧ (∀ l (_ : l < j) (h : l < fs.length), fs[l].1 ≠ fn) ∧ Below W2.heap.size W2 wr) (fun i _ => k - (intOf i).toNat)
          case atStart => exact ⟨0, Nat.zero_le _, rfl, (fun l hl => by omega), HS.out.2⟩
          case round =>
            obtain ⟨j, hj, rfl, hne, hb⟩ := hrel
            have HJ : Hid ((∀ l (_ : l < j) (h : l < fs.length), fs[l].1 ≠ fn) ∧ Below W2.heap.size W2 wr) := ⟨hne, hb⟩
            clear hne hb
            by_cases hjt : j < k
            · have hjl : j < fs.length := by omega
              obtain ⟨c1, -⟩ := HCF.out wr HJ.out.2 j hjl
              have c2 := HFE.out wr HJ.out.2
              by_cases e : fs[j].1 = fn
              · have hqe : (fs[j].1 == fn) = true := str_beq e
                have HE : Hid (rldE q fs = 62) := by
                  show rldE q fs = 62
                  have h9 : scn [] fs = 62 := by rw [HSB.out, if_pos (HLN.out j hjl e hjt)]
                  rw [HR2.out, h9]
                  rfl
                have HMT : Hid (∀ t, LB (wr.drewN t) p4 45 [.int .i64 0, .slice none 0 0, .slice none 0 0, .slice none 0 0, .slice none 0 0, .int .i64 0, .bool false] ∧ LB (wr.drewN t) p6 45 [.int .i64 0, .slice none 0 0, .slice none 0 0, .slice none 0 0, .slice none 0 0, .int .i64 (-1), .bool false] ∧ Below w.heap.size w (wr.drewN t)) := fun t => by
                  have b9 := bel_drewN HJ.out.2 t
                  exact ⟨HB2.out.1.kept b9, HB2.out.2.1.kept b9, andThen HB2.out.2.2 b9⟩
                clear e
                generalize fs[j].1 = n1 at *
                go_wp2_with fail
                go_quiet (fail)
                obtain ⟨Wd, hWd⟩ : ∃ W, W = wr.drewN nq := ⟨_, rfl⟩
                rw [← hWd]
                have HMD := HMT.out nq
                rw [← hWd] at HMD
                have HM : Hid (LB Wd p4 45 [.int .i64 0, .slice none 0 0, .slice none 0 0, .slice none 0 0, .slice none 0 0, .int .i64 0, .bool false] ∧ LB Wd p6 45 [.int .i64 0, .slice none 0 0, .slice none 0 0, .slice none 0 0, .slice none 0 0, .int .i64 (-1), .bool false]) := ⟨HMD.1, HMD.2.1⟩
                have HBD : Hid (Below w.heap.size w Wd) := HMD.2.2
                clear hWd HMD HMT c1 c2
                have z0 := HM.out.1.cell 0 _ rfl
                have g0 := HM.out.1.free 0
                have y0 := HM.out.2.cell 0 _ rfl
                have z1 := HM.out.1.cell 1 _ rfl
                have g1 := HM.out.1.free 1
                have y1 := HM.out.2.cell 1 _ rfl
                have z2 := HM.out.1.cell 2 _ rfl
                have g2 := HM.out.1.free 2
                have y2 := HM.out.2.cell 2 _ rfl
                have z3 := HM.out.1.cell 3 _ rfl
                have g3 := HM.out.1.free 3
                have y3 := HM.out.2.cell 3 _ rfl
                have z4 := HM.out.1.cell 4 _ rfl
                have g4 := HM.out.1.free 4
                have y4 := HM.out.2.cell 4 _ rfl
                have z5 := HM.out.1.cell 5 _ rfl
                have g5 := HM.out.1.free 5
                have y5 := HM.out.2.cell 5 _ rfl
                have z6 := HM.out.1.cell 6 _ rfl
                have g6 := HM.out.1.free 6
                have y6 := HM.out.2.cell 6 _ rfl
                go_wp2_with fail
                have LZ := (((((((HM.out.1.set 0 (.int .i64 0)).set 1 (.slice none 0 0)).set 2 (.slice none 0 0)).set 3 (.slice none 0 0)).set 4 (.slice none 0 0)).set 5 (.int .i64 (-1))).set 6 (.bool false))
                refine bodyPost_ret (results_cell_slot rfl _ _ p4 [.int .i64 0, .slice none 0 0, .slice none 0 0, .slice none 0 0, .slice none 0 0, .int .i64 (-1), .bool false] _ rfl LZ.range Try.underlying45 rfl (by kernel_rfl)) rfl ?_
                have bl := (((((((HBD.out.setCell (p := ⟨p4, 0, none⟩) HPB.out (.int .i64 0)).setCell (p := ⟨p4, 1, none⟩) HPB.out (.slice none 0 0)).setCell (p := ⟨p4, 2, none⟩) HPB.out (.slice none 0 0)).setCell (p := ⟨p4, 3, none⟩) HPB.out (.slice none 0 0)).setCell (p := ⟨p4, 4, none⟩) HPB.out (.slice none 0 0)).setCell (p := ⟨p4, 5, none⟩) HPB.out (.int .i64 (-1))).setCell (p := ⟨p4, 6, none⟩) HPB.out (.bool false))
                exact ⟨_, _, rfl, ⟨_, _, _, _, _, _, _, _, _, _, _, _, _, _, _, rfl⟩, HE.out, fun e => absurd e (by decide), bl⟩
              · have hqe : (fs[j].1 == fn) = false := str_bne e
                have HX : Hid (∀ l (_ : l < j + 1) (h : l < fs.length), fs[l].1 ≠ fn) := fun l hl h => by
                  by_cases e2 : l = j
                  · subst e2
                    exact e
                  · exact HJ.out.1 l (by omega) h
                clear e
                generalize fs[j].1 = n1 at *
                go_wp2_with fail
                go_quiet (fail)
                go_wp2_with fail
                go_roundw
                case rel => exact ⟨j + 1, by omega, by go_num, HX.out, bel_drewN HJ.out.2 _⟩
                case measure => simp [intOf]; omega
            · have HSC : Hid (scn [] fs = scn ((fs.take (k + 1)).map (·.1)) (fs.drop (k + 1))) := by
                rw [HSB.out, if_neg (HNM.out fun l hl h => HJ.out.1 l (by omega) h)]
                rfl
              obtain ⟨-, da, dc, c2⟩ := HCF.out wr HJ.out.2 k hlt
              have hfl := HFL.out
              have hw : IntKind.i64.wrap ((Dk.flen (fs.take k) : Int) + (fs[k].2.length : Int)) = (Dk.flen (fs.take (k + 1)) : Int) := by
                rw [show (Dk.flen (fs.take k) : Int) + (fs[k].2.length : Int) = (Dk.flen (fs.take (k + 1)) : Int) by omega]
                exact IntWalk.i64_in _ (by omega)
              clear hfl
              generalize fs[k].2.length = fl at *
              go_wp2_with fail
              go_roundw
              case rel => exact ⟨k + 1, by omega, by go_num, by first | rfl | (rw [hw]), HSC.out, HJ.out.2⟩
              case measure => simp [intOf]; omega
      · have HF : Hid (fs.take k = fs ∧ scn [] fs = 0) := by
          have e1 : fs.take k = fs := List.take_of_length_le (by omega)
          refine ⟨e1, ?_⟩
          have h9 := HS.out.1
          rw [List.drop_of_length_le (by omega)] at h9
          exact h9
        have HR3 : Hid (rldE q fs = if (Dk.flen fs : Int) > q then 64 else 0) := by
          have h9 := HF.out.2
          rw [HR2.out, if_neg (fun e => e h9)]
          rfl
        have hsl := HLL.out.2.2
        by_cases hfu : (Dk.flen fs : Int) > q
        · have HE : Hid (rldE q fs = 64) := by rw [HR3.out, if_pos hfu]; rfl
          have xf : (q < (Dk.flen (fs.take k) : Int)) = True := by rw [HF.out.1]; exact eq_true hfu
          have HM : Hid (LB wr p4 45 [.int .i64 0, .slice none 0 0, .slice none 0 0, .slice none 0 0, .slice none 0 0, .int .i64 0, .bool false] ∧ LB wr p6 45 [.int .i64 0, .slice none 0 0, .slice none 0 0, .slice none 0 0, .slice none 0 0, .int .i64 (-1), .bool false]) := ⟨HB2.out.1.kept HS.out.2, HB2.out.2.1.kept HS.out.2⟩
          have z0 := HM.out.1.cell 0 _ rfl
          have g0 := HM.out.1.free 0
          have y0 := HM.out.2.cell 0 _ rfl
          have z1 := HM.out.1.cell 1 _ rfl
          have g1 := HM.out.1.free 1
          have y1 := HM.out.2.cell 1 _ rfl
          have z2 := HM.out.1.cell 2 _ rfl
          have g2 := HM.out.1.free 2
          have y2 := HM.out.2.cell 2 _ rfl
          have z3 := HM.out.1.cell 3 _ rfl
          have g3 := HM.out.1.free 3
          have y3 := HM.out.2.cell 3 _ rfl
          have z4 := HM.out.1.cell 4 _ rfl
          have g4 := HM.out.1.free 4
          have y4 := HM.out.2.cell 4 _ rfl
          have z5 := HM.out.1.cell 5 _ rfl
          have g5 := HM.out.1.free 5
          have y5 := HM.out.2.cell 5 _ rfl
          have z6 := HM.out.1.cell 6 _ rfl
          have g6 := HM.out.1.free 6
          have y6 := HM.out.2.cell 6 _ rfl
          clear hfu
          go_wp2_with fail
          have LZ := (((((((HM.out.1.set 0 (.int .i64 0)).set 1 (.slice none 0 0)).set 2 (.slice none 0 0)).set 3 (.slice none 0 0)).set 4 (.slice none 0 0)).set 5 (.int .i64 (-1))).set 6 (.bool false))
          refine bodyPost_ret (results_cell_slot rfl _ _ p4 [.int .i64 0, .slice none 0 0, .slice none 0 0, .slice none 0 0, .slice none 0 0, .int .i64 (-1), .bool false] _ rfl LZ.range Try.underlying45 rfl (by kernel_rfl)) rfl ?_
          have bl := ((((((((andThen HB2.out.2.2 HS.out.2).setCell (p := ⟨p4, 0, none⟩) HPB.out (.int .i64 0)).setCell (p := ⟨p4, 1, none⟩) HPB.out (.slice none 0 0)).setCell (p := ⟨p4, 2, none⟩) HPB.out (.slice none 0 0)).setCell (p := ⟨p4, 3, none⟩) HPB.out (.slice none 0 0)).setCell (p := ⟨p4, 4, none⟩) HPB.out (.slice none 0 0)).setCell (p := ⟨p4, 5, none⟩) HPB.out (.int .i64 (-1))).setCell (p := ⟨p4, 6, none⟩) HPB.out (.bool false))
          exact ⟨_, _, rfl, ⟨_, _, _, _, _, _, _, _, _, _, _, _, _, _, _, rfl⟩, HE.out, fun e => absurd e (by decide), bl⟩
        · have HE : Hid (rldE q fs = 0) := by rw [HR3.out, if_neg hfu]; rfl
          have xf : (q < (Dk.flen (fs.take k) : Int)) = False := by rw [HF.out.1]; exact eq_false hfu
          clear hfu
          go_wp2_with fail
          refine (HBG.out wr (andThen HB2.out.2.2 HS.out.2)).mono ?_
          rintro e W5 ⟨xs, ta, X1, tc, na, X2, nc, rfl, hxs, hS, b5⟩
          have b6 := up0 W5 (.cells #[.slice ta X1 tc, .slice na X2 nc, .slice na X2 nc, .slice none 0 0] 43)
          have l6 := lb_new W5 [.slice ta X1 tc, .slice na X2 nc, .slice na X2 nc, .slice none 0 0] 43
          have HS8 : Hid (xs.map (·.2) = bth fs ∧ (∀ W, Below W5.heap.size W5 W → SM (wr.heap.size ≤ ·) W xs (bnm fs fs.length) (bnm fs fs.length) [] (.slice ta X1 tc) (.slice na X2 nc) (.slice na X2 nc) (.slice none 0 0)) ∧ Below wr.heap.size wr W5) := ⟨hxs, fun W hW => hS.kept hW, b5⟩
          clear hxs hS b5
          go_upto_region 20 with fail
          obtain ⟨W8, hW8⟩ : ∃ W, W = W5.alloc (.cells #[.slice ta X1 tc, .slice na X2 nc, .slice na X2 nc, .slice none 0 0] 43) := ⟨_, rfl⟩
          obtain ⟨p8, hp8⟩ : ∃ p, p = W5.heap.size := ⟨_, rfl⟩
          rw [← hW8, ← hp8]
          rw [← hW8, ← hp8] at l6
          rw [← hW8] at b6
          have HB8 : Hid (Below W2.heap.size W2 W8) := andThen HS.out.2 (andThen HS8.out.2.2 b6)
          have HSM : Hid (SM (wr.heap.size ≤ ·) W8 xs (bnm fs fs.length) (bnm fs fs.length) [] (.slice ta X1 tc) (.slice na X2 nc) (.slice na X2 nc) (.slice none 0 0)) := HS8.out.2.1 W8 b6
          have HM : Hid (LB W8 p4 45 [.int .i64 0, .slice none 0 0, .slice none 0 0, .slice none 0 0, .slice none 0 0, .int .i64 0, .bool false] ∧ LB W8 p6 45 [.int .i64 0, .slice none 0 0, .slice none 0 0, .slice none 0 0, .slice none 0 0, .int .i64 (-1), .bool false]) := ⟨HB2.out.1.kept HB8.out, HB2.out.2.1.kept HB8.out⟩
          have t0 := l6.cell 0 _ rfl
          have t1 := l6.cell 1 _ rfl
          have t2 := l6.cell 2 _ rfl
          have t3 := l6.cell 3 _ rfl
          clear hW8 hp8 l6 b6
          have z0 := HM.out.1.cell 0 _ rfl
          have g0 := HM.out.1.free 0
          have y0 := HM.out.2.cell 0 _ rfl
          have z1 := HM.out.1.cell 1 _ rfl
          have g1 := HM.out.1.free 1
          have y1 := HM.out.2.cell 1 _ rfl
          have z2 := HM.out.1.cell 2 _ rfl
          have g2 := HM.out.1.free 2
          have y2 := HM.out.2.cell 2 _ rfl
          have z3 := HM.out.1.cell 3 _ rfl
          have g3 := HM.out.1.free 3
          have y3 := HM.out.2.cell 3 _ rfl
          have z4 := HM.out.1.cell 4 _ rfl
          have g4 := HM.out.1.free 4
          have y4 := HM.out.2.cell 4 _ rfl
          have z5 := HM.out.1.cell 5 _ rfl
          have g5 := HM.out.1.free 5
          have y5 := HM.out.2.cell 5 _ rfl
          have z6 := HM.out.1.cell 6 _ rfl
          have g6 := HM.out.1.free 6
          have y6 := HM.out.2.cell 6 _ rfl
          go_wp2_with fail
          have L4 := HM.out.1
          have bz := andThen HB2.out.2.2 HB8.out
          have LZ := (((((((L4.set 0 (.int .i64 q)).set 1 (.slice ta X1 tc)).set 2 (.slice na X2 nc)).set 3 (.slice na X2 nc)).set 4 (.slice none 0 0)).set 5 (.int .i64 (-1))).set 6 (.bool false))
          refine bodyPost_ret (results_cell_slot rfl _ _ p4 [.int .i64 q, .slice ta X1 tc, .slice na X2 nc, .slice na X2 nc, .slice none 0 0, .int .i64 (-1), .bool false] _ rfl LZ.range Try.underlying45 rfl (by kernel_rfl)) rfl ?_
          have bl := (((((((bz.setCell (p := ⟨p4, 0, none⟩) HPB.out (.int .i64 q)).setCell (p := ⟨p4, 1, none⟩) HPB.out (.slice ta X1 tc)).setCell (p := ⟨p4, 2, none⟩) HPB.out (.slice na X2 nc)).setCell (p := ⟨p4, 3, none⟩) HPB.out (.slice na X2 nc)).setCell (p := ⟨p4, 4, none⟩) HPB.out (.slice none 0 0)).setCell (p := ⟨p4, 5, none⟩) HPB.out (.int .i64 (-1))).setCell (p := ⟨p4, 6, none⟩) HPB.out (.bool false))
          have HBL : Hid (Below w.heap.size w (((((((W8.setCell ⟨p4, 0, none⟩ (.int .i64 q)).setCell ⟨p4, 1, none⟩ (.slice ta X1 tc)).setCell ⟨p4, 2, none⟩ (.slice na X2 nc)).setCell ⟨p4, 3, none⟩ (.slice na X2 nc)).setCell ⟨p4, 4, none⟩ (.slice none 0 0)).setCell ⟨p4, 5, none⟩ (.int .i64 (-1))).setCell ⟨p4, 6, none⟩ (.bool false))) := bl
          have HFAR : Hid (∀ x, x ≠ p4 → (((((((W8.setCell ⟨p4, 0, none⟩ (.int .i64 q)).setCell ⟨p4, 1, none⟩ (.slice ta X1 tc)).setCell ⟨p4, 2, none⟩ (.slice na X2 nc)).setCell ⟨p4, 3, none⟩ (.slice na X2 nc)).setCell ⟨p4, 4, none⟩ (.slice none 0 0)).setCell ⟨p4, 5, none⟩ (.int .i64 (-1))).setCell ⟨p4, 6, none⟩ (.bool false)).heap[x]? = W8.heap[x]?) := fun x h4 => by
            rw [set_other _ _ _ _ h4, set_other _ _ _ _ h4, set_other _ _ _ _ h4, set_other _ _ _ _ h4, set_other _ _ _ _ h4, set_other _ _ _ _ h4, set_other _ _ _ _ h4]
          have hlt4 : p4 < wr.heap.size := Nat.lt_of_lt_of_le HB2.out.1.lt HS.out.2.size
          have hsz := (andThen HB2.out.2.2 HS.out.2).size
          clear bl LZ
          generalize (((((((W8.setCell ⟨p4, 0, none⟩ (.int .i64 q)).setCell ⟨p4, 1, none⟩ (.slice ta X1 tc)).setCell ⟨p4, 2, none⟩ (.slice na X2 nc)).setCell ⟨p4, 3, none⟩ (.slice na X2 nc)).setCell ⟨p4, 4, none⟩ (.slice none 0 0)).setCell ⟨p4, 5, none⟩ (.int .i64 (-1))).setCell ⟨p4, 6, none⟩ (.bool false)) = Wz at HBL HFAR ⊢
          exact ld_fin HE.out HSM.out HFAR.out (fun x hx => Nat.ne_of_gt (Nat.lt_of_lt_of_le hlt4 hx)) (fun x hx => Nat.le_trans hsz hx) HS8.out.1 HBL.out
end Go.Proofs.Ytgdfnlbiminblaa

/-
  The laws' own functions: copied, copies, namesAlike.
-/
namespace Go.Proofs.Ytgdfnlbiminblaa
open Go Go.RowKit Go.ChangeShapes
open Wb
open Rd
set_option maxRecDepth 100000 in
set_option maxHeartbeats 8000000 in
theorem dlcopied_any (v : Value) (l : List Nat) (w : World) (h : Bs w v l) (hl : l.length ≤ 1000000000) :
    Calls Try.prog 6 #[v] w fun e w' => ∃ v', e = .returned v' ∧ Own w.heap.size w' v' l ∧ Below w.heap.size w w' := by
  obtain ⟨v', w', hr, ho, hg, hv⟩ := run_appB w 23 w.heap.size (.slice none 0 0) [] (Own.nil _ _) v l h (by show 0 + l.length ≤ _; omega) (Nat.le_refl _)
  rw [List.nil_append] at ho
  have HO : Hid (Own w.heap.size w' v' l ∧ Below w.heap.size w w') := ⟨ho, (Below.refl _ _).grown hg (Nat.le_refl _) fun q e => by cases e⟩
  obtain ⟨a, c, e, h1, h2, -⟩ := h.shape
  subst e
  clear ho hg hv h
  go_enter Try.func6, Try.ntmps6
  go_wp2_with (at_builtin; refine wpList_appRun rfl (.tmp 4) (.tmp 5) 23 rfl rfl rfl hr ?_)
  go_returns
  exact ⟨_, rfl, HO.out.1, HO.out.2⟩
set_option maxRecDepth 100000 in
set_option maxHeartbeats 8000000 in
theorem dlcopies_any (ok1 : Nat → Prop) (v : Value) (fs : List (List UInt8 × List Nat)) (w : World) (h : Fls ok1 w v fs) (hn : fs.length ≤ 300000000) (hl : ∀ x ∈ fs, x.2.length ≤ 1000000000) :
    Calls Try.prog 5 #[v] w fun e w' => ∃ v' ys, e = .returned v' ∧ FO w.heap.size w' v' ys ∧ (ys.map fun x => (x.1, x.2.2)) = fs ∧ Below w.heap.size w w' := by
  have HV : Hid (∀ W, Below w.heap.size w W → Fls ok1 W v fs) := fun W hW => h.kept hW
  have HLL : Hid (∀ x ∈ fs, x.2.length ≤ 1000000000) := hl
  obtain ⟨fa, fc, e, h1, h2, h3⟩ := h.sh
  subst e
  unfold maxLen at h2
  clear h h3 hl
  go_enter Try.func5, Try.ntmps5
  go_wp2_with fail
  go_loopw [3, 4] (fun o i wr => ∃ (k : Nat) (ys : List (List UInt8 × Value × List Nat)), k ≤ fs.length ∧ i = .int .i64 (k : Int) ∧ FO w.heap.size wr o ys ∧ (ys.map fun x => (x.1, x.2.2)) = fs.take k ∧ Below w.heap.size w wr) (fun _ i _ => fs.length - (intOf i).toNat)
  case atStart => exact ⟨0, [], Nat.zero_le _, rfl, FO.nil _ _, rfl, Below.refl _ _⟩
  case round =>
    obtain ⟨k, ys, hk, rfl, hfo, hys, hb⟩ := hrel
    have HO : Hid (FO w.heap.size wr u3 ys ∧ (ys.map fun x => (x.1, x.2.2)) = fs.take k ∧ Below w.heap.size w wr) := ⟨hfo, hys, hb⟩
    have hyl : ys.length ≤ 300000000 := by
      have h9 := congrArg List.length hys
      rw [List.length_map, List.length_take] at h9
      omega
    clear hfo hys hb
    by_cases hlt : k < fs.length
    · obtain ⟨fa', fc', e, -, -, hc⟩ := (HV.out w (Below.refl _ _)).sh
      simp only [Value.slice.injEq] at e
      obtain ⟨rfl, -, -⟩ := e
      obtain ⟨b, off, e2, -, hcell⟩ := hc (List.ne_nil_of_length_pos (by omega))
      subst e2
      obtain ⟨y0, dv, y1, hbs, -⟩ := hcell k hlt
      have hl9 := HLL.out _ (List.getElem_mem hlt)
      have HTK : Hid (fs.take (k + 1) = fs.take k ++ [fs[k]]) := List.take_succ_eq_append_getElem hlt
      obtain ⟨p, hp⟩ : ∃ p, p = fs[k] := ⟨_, rfl⟩
      rw [← hp] at y0 hbs hl9 HTK
      obtain ⟨n9, td⟩ := p
      simp only at y0 hbs hl9
      obtain ⟨da, dc, rfl, -⟩ := hbs.shape
      have y2 : w.cell? ⟨b, off + k * 2, none⟩ = some (.string ⟨n9.toArray⟩) := y0
      have HPT : Hid (∀ W, Below wr.heap.size wr W → Calls Try.prog 6 #[.slice da td.length dc] W fun e w' => ∃ b9 n9 c9, e = .returned (.slice b9 n9 c9) ∧ Own W.heap.size w' (.slice b9 n9 c9) td ∧ Below W.heap.size W w') := fun W hW => (dlcopied_any _ td W (hbs.kept (andThen HO.out.2.2 hW)) hl9).mono fun e w' ⟨v', h1, h2, h3⟩ => by
        obtain ⟨b9, c9, rfl, -⟩ := Mg.row_shape h2.row
        exact ⟨b9, _, c9, h1, h2, h3⟩
      have HAP : Hid (∀ (W W2 : World) (b9 : Option Addr) (n8 c9 : Nat), Below wr.heap.size wr W → Below W.heap.size W W2 → Own W.heap.size W2 (.slice b9 n8 c9) td → ∃ o4 W4, (Builtin.append_ #[22, 22] 22 #[u3, .slice (some ⟨W2.heap.size, 0, none⟩) 1 1]).run Try.prog (W2.alloc (.cells #[.string ⟨n9.toArray⟩, .slice b9 n8 c9] 30)) = .ok o4 W4 ∧ FO w.heap.size W4 o4 (ys ++ [(n9, .slice b9 n8 c9, td)]) ∧ Below w.heap.size w W4) := fun W W2 b9 n8 c9 h1 h2 h3 => by
        have b3 := up0 W2 (.cells #[.string ⟨n9.toArray⟩, .slice b9 n8 c9] 30)
        have L3 : LB (W2.alloc (.cells #[.string ⟨n9.toArray⟩, .slice b9 n8 c9] 30)) W2.heap.size 30 (enF (n9, .slice b9 n8 c9, td)) := lb_new W2 [.string ⟨n9.toArray⟩, .slice b9 n8 c9] 30
        have h4 := andThen h1 h2
        have f3 := (HO.out.1.kept h4).kept b3
        obtain ⟨o4, W4, hr4, f4, b4⟩ := f3.app 22 (n9, .slice b9 n8 c9, td) ((h3.mono (Nat.le_trans HO.out.2.2.size h1.size)).kept b3) W2.heap.size 1 L3 (by omega) (Nat.le_trans HO.out.2.2.size (Nat.le_trans h4.size b3.size))
        exact ⟨o4, W4, hr4, f4, (andThen (andThen HO.out.2.2 h4) b3).trans b4⟩
      have HCK : Hid (∀ W, Below w.heap.size w W → W.cell? ⟨b, off + k * 2, none⟩ = some (.string ⟨n9.toArray⟩) ∧ W.cell? ⟨b, off + k * 2 + 1, none⟩ = some (.slice da td.length dc)) := fun W hW => ⟨(hW.cell (World.block_lt_of_cell? _ _ y2)).trans y2, (hW.cell (World.block_lt_of_cell? _ _ y1)).trans y1⟩
      clear hp y0 hbs hcell hc
      clear y1 y2
      obtain ⟨y2, y1⟩ := HCK.out wr HO.out.2.2
      go_wp2_with fail
      go_region_held3 (fun w' => w'.cell? ⟨b, off + k * 2, none⟩ = some (.string ⟨n9.toArray⟩) ∧ w'.cell? ⟨b, off + k * 2 + 1, none⟩ = some (.slice da td.length dc)) (first | go_keep | (exact HCK.out _ (andThen HO.out.2.2 (andThen (Below.drew (Below.refl _ _)) hb'))) | (exact HCK.out _ b4))
        (first | (go_at_call 6; refine (HPT.out _ ?_).mono ?_; (exact Below.drew (Below.refl _ _)); rintro e w' ⟨b9, n8, c9, rfl, o9, hb'⟩; (obtain ⟨o4, W4, hr4, f4, b4⟩ := HAP.out _ w' b9 n8 c9 (Below.drew (Below.refl _ _)) hb' o9)) | (refine step_appRun rfl (.tmp 11) (.tmp 24) 22 rfl rfl rfl hr4 ?_))
      have H4 : Hid (FO w.heap.size W4 o4 (ys ++ [(n9, .slice b9 n8 c9, td)]) ∧ Below w.heap.size w W4) := ⟨f4, b4⟩
      clear hr4 f4 b4 o9 hb' y1 y2
      go_wp2_with fail
      go_roundw
      case rel =>
        refine ⟨k + 1, _, by omega, by go_num, H4.out.1, ?_, H4.out.2⟩
        rw [List.map_append, HO.out.2.1, HTK.out]
        rfl
      case measure => simp [intOf]; omega
    · have HE : Hid ((ys.map fun x => (x.1, x.2.2)) = fs) := by
        have h9 := HO.out.2.1
        rw [List.take_of_length_le (by omega)] at h9
        exact h9
      go_wp2_with fail
      go_returns
      exact ⟨_, _, rfl, HO.out.1, HE.out, HO.out.2.2⟩
theorem map_enS (l : List (List UInt8)) : l.map enS = l.flatMap enN := by
  induction l with
  | nil => rfl
  | cons x l ih => rw [List.map_cons, List.flatMap_cons, ih]; rfl
end Go.Proofs.Ytgdfnlbiminblaa
