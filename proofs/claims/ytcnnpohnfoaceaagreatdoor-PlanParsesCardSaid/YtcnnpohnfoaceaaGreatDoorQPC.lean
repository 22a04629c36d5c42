import Derived.Test.YtcnnpohnfoaceaaGreatDoorQP5
/-
  Package plan: Parse.
-/
namespace Go.Proofs.YtcnnpohnfoaceaaGreatDoor
open Go Go.RowKit
open Wb
open Text.Tx (Wd wdc wds wordP wdA)

/-- what Parse hands out -/
def PsPost (B : Nat) (w : World) (A : Pln × Int × Int) (e : Ending) (w' : World) : Prop := ∃ v, e = .returned (.tuple #[plv A.1 v, .int .i64 A.2.1, .int .i64 A.2.2]) ∧ w'.ownsRow B 60 3 v A.1.ss.length (A.1.ss.flatMap stl) ∧ Below w.heap.size w w'
theorem sts_of {B : Nat} {w : World} {v : Value} {ss : List Stp} (h : w.ownsRow B 60 3 v ss.length (ss.flatMap stl)) : StsAt w v ss := by
  have h0 := h
  rcases h.2 with ⟨rfl, h1⟩ | ⟨g, cap, cur, rfl, _, hh, h1, h2, h3, h4⟩
  · obtain rfl : ss = [] := List.eq_nil_of_length_eq_zero h1
    exact ⟨none, 0, rfl, Nat.le_refl _, Nat.zero_le _, fun k s hs => by simp at hs⟩
  · refine ⟨some ⟨g, 0, none⟩, cap, rfl, h1, h2, fun k s hs => ⟨g, 0, rfl, fun j u hj => ?_⟩⟩
    have hk := (List.getElem?_eq_some_iff.1 hs).1
    have hj3 : j < 3 := (List.getElem?_eq_some_iff.1 hj).1
    have h9 := World.ownsRow.cellAt h0 (k * 3 + j) (by omega)
    rw [Nat.zero_add, h9]
    have hf : ∀ (l : List Stp) (k : Nat), l[k]? = some s → (l.flatMap stl)[k * 3 + j]? = some u := by
      intro l
      induction l with
      | nil => intro k h; simp at h
      | cons x r ih =>
        intro k h
        cases k with
        | zero =>
          simp at h
          subst h
          rw [List.flatMap_cons, Nat.zero_mul, Nat.zero_add, List.getElem?_append_left (by show j < 3; omega)]
          exact hj
        | succ k =>
          rw [List.flatMap_cons, List.getElem?_append_right (by show 3 ≤ _; omega)]
          show (r.flatMap stl)[(k + 1) * 3 + j - 3]? = _
          rw [show (k + 1) * 3 + j - 3 = k * 3 + j by omega]
          exact ih k (by simpa using h)
    exact hf ss k hs
theorem ownsRow_weak {B B2 : Nat} {w : World} {e : TypeId} {sz : Nat} {v : Value} {n : Nat} {xs : List Value} (h : w.ownsRow B2 e sz v n xs) (hB : B ≤ B2) : w.ownsRow B e sz v n xs := by
  refine ⟨h.1, ?_⟩
  rcases h.2 with h1 | ⟨g, cap, cur, e, hb, rest⟩
  · exact .inl h1
  · exact .inr ⟨g, cap, cur, e, Nat.le_trans hB hb, rest⟩
theorem psZ (B : Nat) {w w' : World} (a b : Int) (h : Below w.heap.size w w') : PsPost B w (plnZ, a, b) (.returned (.tuple #[.agg #[.string ⟨#[]⟩, .int .i64 0, .slice none 0 0], .int .i64 a, .int .i64 b])) w' := ⟨_, rfl, World.ownsRow_nil _ _ _ _, h⟩
theorem printP_size {p : Pln} (h : (fErr p).1 = 0) : (printP p).size ≤ 100000 := by
  have HG := fErr_good h
  have hx : ∀ x ∈ txF p 0 p.ss, x.size ≤ 500 := fun x hx => by
    obtain ⟨k, hk⟩ := List.mem_iff_getElem?.1 hx
    rw [txF_get] at hk
    cases hs : p.ss[k]? with
    | none => rw [hs] at hk; cases hk
    | some s =>
      rw [hs] at hk
      injection hk with hk
      subst hk
      have e := stepErr_small (HG.2.2.2.2.2 k s hs)
      have := stxt_size p (0 + k) s (by omega) (by omega)
      omega
  have := joinP_size (txF p 0 p.ss) (by rw [txF_len]; omega) hx
  unfold printP joinP
  rw [ByteArray.size_append, ByteArray.size_append]
  show p.nm.size + 2 + (List.toArray _).size ≤ 100000
  rw [List.size_toArray]
  omega
/-- the result's cell is written -/
theorem set3 {w w1 : World} {g : Nat} {Z : List Value} (L : LB w1 g 25 Z) (hz : Z.length = 3) (hg : w.heap.size ≤ g) (b1 : Below w.heap.size w w1) (x y z : Value) : ∃ W, W = ((w1.setCell ⟨g, 0, none⟩ x).setCell ⟨g, 1, none⟩ y).setCell ⟨g, 2, none⟩ z ∧ LB W g 25 [x, y, z] ∧ Below w.heap.size w W ∧ ∀ k, k ≠ g → W.heap[k]? = w1.heap[k]? := by
  refine ⟨_, rfl, ?_, Below.setCell (p := ⟨g, 2, none⟩) (Below.setCell (p := ⟨g, 1, none⟩) (Below.setCell (p := ⟨g, 0, none⟩) b1 hg _) hg _) hg _, fun k hk => ?_⟩
  · have e := ((L.set 0 x).set 1 y).set 2 z
    match Z, hz with
    | [_, _, _], _ => exact e
  · rw [set_other _ _ _ _ (by exact hk), set_other _ _ _ _ (by exact hk), set_other _ _ _ _ (by exact hk)]
theorem rdm_new {B : Nat} {w1 : World} {v : Value} {ws : List Wd} (h : Text.WdR B w1 v ws) (en : Int) : RdM w1.heap.size (w1.alloc (.cells #[v, .int .i64 en, .string ⟨#[]⟩, .int .i64 0, .slice none 0 0, .slice none 0 0] 43)) ws en ⟨#[]⟩ ⟨0, [], []⟩ := by
  refine ⟨_, _, ⟨v, lb_new w1 [v, .int .i64 en, .string ⟨#[]⟩, .int .i64 0, .slice none 0 0, .slice none 0 0] 43, (wdb_of h).same fun g hg => (up0 w1 _).block g hg⟩, World.ownsRow_nil _ _ _ _, World.ownsRow_nil _ _ _ _⟩
theorem wdA_size {line : ByteArray} (h : (wdA line).2.1 = 0) : line.size ≤ 65536 ∧ (wdA line).1.length ≤ 65536 ∧ Ft 65536 (wdA line).1 := by
  unfold wdA at h ⊢
  split at h
  · cases h
  · rename_i h1
    rw [if_neg h1]
    have := wds_len line line.size 0 (by omega)
    refine ⟨by omega, by omega, fun d hd hk => ?_⟩
    have := wds_fit line line.size 0 (by omega) d hd hk
    omega
theorem RdM.cells {b : Nat} {w : World} {ws : List Wd} {en : Int} {nm : ByteArray} {R : RdP} (h : RdM b w ws en nm R) : ∃ vs va, w.cell? ⟨b, 2, none⟩ = some (.string nm) ∧ w.cell? ⟨b, 3, none⟩ = some (.int .i64 R.piv) ∧ w.cell? ⟨b, 4, none⟩ = some vs ∧ w.cell? ⟨b, 5, none⟩ = some va ∧ StR b w vs R.ss ∧ AtR b w va R.ats := by
  obtain ⟨vs, va, ⟨vw, L, -⟩, h2, h3⟩ := h
  exact ⟨vs, va, L.cell 2 _ rfl, L.cell 3 _ rfl, L.cell 4 _ rfl, L.cell 5 _ rfl, h2, h3⟩
/-- a place of a step -/
theorem atR_cell {b : Nat} {w : World} {va : Value} {l : List Int} (h : AtR b w va l) (j : Nat) (hj : j < l.length) : ∃ g, ∃ c : Nat, va = .slice (some ⟨g, 0, none⟩) l.length c ∧ l.length ≤ c ∧ c ≤ maxLen ∧ w.cell? ⟨g, j, none⟩ = some (.int .i64 (l.getD j 0)) ∧ b < g := by
  have h0 := h
  rcases h.2 with ⟨_, h1⟩ | ⟨g, cap, cur, rfl, hbg, hh, h1, h2, h3, h4⟩
  · omega
  · refine ⟨g, cap, rfl, h1, h2, ?_, hbg⟩
    have h9 := World.ownsRow.cellAt h0 j (by omega)
    rw [h9, List.getElem?_map, List.getElem?_eq_getElem hj, List.getD_eq_getElem?_getD, List.getElem?_eq_getElem hj]
    rfl
set_option maxRecDepth 100000 in
set_option maxHeartbeats 8000000 in
theorem parse_any (line : ByteArray) (w : World) (hT : Text.WTab w) :
    Calls Tryz.prog 5 #[.string line] w fun e w' => PsPost w.heap.size w (parseP line) e w' := by
  have HWD : Hid (∀ w', Below w.heap.size w w' → Calls Tryz.prog 13 #[.string line] w' fun e w'' => ∃ v, e = .returned (.tuple #[v, .int .i64 (wdA line).2.1, .int .i64 (wdA line).2.2]) ∧ Text.WdR w'.heap.size w'' v (wdA line).1 ∧ Below w'.heap.size w' w'') := fun w' hb => Text.words_any line w' (hT.kept hb)
  have HTT : Hid (∀ w', Below w.heap.size w w' → Text.WTab w') := fun w' hb => hT.kept hb
  obtain ⟨A, hA⟩ : ∃ A, parseP line = A := ⟨_, rfl⟩
  rw [hA]
  unfold parseP at hA
  have L0 := lb_new w [.string ⟨#[]⟩, .int .i64 0, .slice none 0 0] 25
  have HL0 : Hid (∀ w', Below (w.alloc (.cells #[.string ⟨#[]⟩, .int .i64 0, .slice none 0 0] 25)).heap.size (w.alloc (.cells #[.string ⟨#[]⟩, .int .i64 0, .slice none 0 0] 25)) w' → LB w' w.heap.size 25 [.string ⟨#[]⟩, .int .i64 0, .slice none 0 0] ∧ Below w.heap.size w w') := fun w' hb => ⟨L0.kept hb, andThen (up0 w _) hb⟩
  have HB0 : Hid (Below w.heap.size w (w.alloc (.cells #[.string ⟨#[]⟩, .int .i64 0, .slice none 0 0] 25))) := up0 _ _
  clear L0 hT
  by_cases h1 : (wdA line).2.1 ≠ 0
  · rw [if_pos h1] at hA
    have h2 : ((wdA line).2.1 != 0) = true := by simpa using h1
    generalize wdA line = X at *
    obtain ⟨x1, x2, x3⟩ := X
    simp only at HWD h2 hA h1
    subst hA
    clear h1
    go_enter Tryz.func5, Tryz.ntmps5
    go_wp2_with fail
    refine (HWD.out _ HB0.out).mono ?_
    rintro e w1 ⟨v1, rfl, -, b1⟩
    have H1 : Hid (LB w1 w.heap.size 25 [.string ⟨#[]⟩, .int .i64 0, .slice none 0 0] ∧ Below w.heap.size w w1) := HL0.out _ b1
    have c0 := H1.out.1.cell 0 _ rfl
    have c1 := H1.out.1.cell 1 _ rfl
    have c2 := H1.out.1.cell 2 _ rfl
    have f0 := H1.out.1.free 0
    have f1 := H1.out.1.free 1
    have f2 := H1.out.1.free 2
    clear b1 HWD
    go_wp2_with fail
    obtain ⟨W9, e9, l9, b9, -⟩ := set3 H1.out.1 rfl (Nat.le_refl _) H1.out.2 (.string ⟨#[]⟩) (.int .i64 0) (.slice none 0 0)
    rw [← e9]
    have y0 := l9.cell 0 _ rfl
    have y1 := l9.cell 1 _ rfl
    have y2 := l9.cell 2 _ rfl
    refine bodyPost_ret (by simp [results, Tryz.results5, go_sem, y0, y1, y2]; try rfl) rfl ?_
    exact psZ _ _ _ b9
  · rw [if_neg h1] at hA
    have h2 : (wdA line).2.1 = 0 := by simpa using h1
    obtain ⟨hsz, hwl, hft⟩ := wdA_size h2
    have HFT : Hid (Ft 65536 (wdA line).1) := hft
    clear hft h1
    generalize wdA line = X at *
    obtain ⟨ws, x2, x3⟩ := X
    simp only at HWD h2 hA hwl HFT
    subst h2
    have HWH : Hid (∀ b w', RdM b w' ws (line.size : Int) ⟨#[]⟩ ⟨0, [], []⟩ → Calls Tryz.prog 14 #[.pointer (some ⟨b, 0, none⟩)] w' fun e w'' => WhPost b (line.size : Int) w' (wholeP ws) e w'') := fun b w' k => whole_any b ws _ _ w' k (by omega)
    cases hw : wholeP ws with
    | error r =>
      rw [hw] at hA HWH
      simp only at hA
      subst hA
      have HPL : Hid (∀ b w' nm pv vs va, RdW b w' r (line.size : Int) nm pv vs va → Calls Tryz.prog 15 #[.pointer (some ⟨b, 0, none⟩)] w' fun e w'' => e = .returned (.int .i64 (placeP r line.size)) ∧ Below w'.heap.size w' w'') := fun b w' nm pv vs va k => place_any b r line.size nm pv vs va w' k
      generalize placeP r line.size = P at *
      clear hw HFT
      go_enter Tryz.func5, Tryz.ntmps5
      go_wp2_with fail
      refine (HWD.out _ HB0.out).mono ?_
      rintro e w1 ⟨v1, rfl, k1, b1⟩
      obtain ⟨a1, c1, rfl⟩ := k1.shape
      have H1 : Hid (LB w1 w.heap.size 25 [.string ⟨#[]⟩, .int .i64 0, .slice none 0 0] ∧ Below w.heap.size w w1) := HL0.out _ b1
      have HM : Hid (RdM w1.heap.size (w1.alloc (.cells #[.slice a1 ws.length c1, .int .i64 (line.size : Int), .string ⟨#[]⟩, .int .i64 0, .slice none 0 0, .slice none 0 0] 43)) ws (line.size : Int) ⟨#[]⟩ ⟨0, [], []⟩) := rdm_new k1 _
      clear b1 HWD k1
      go_wp2_with fail
      refine (HWH.out _ _ HM.out).mono ?_
      rintro e w2 ⟨rfl, ⟨nm2, pv2, vs2, va2, k2⟩, b2⟩
      have H2 : Hid (LB w2 w.heap.size 25 [.string ⟨#[]⟩, .int .i64 0, .slice none 0 0] ∧ Below w.heap.size w w2 ∧ RdW w1.heap.size w2 r (line.size : Int) nm2 pv2 vs2 va2) := ⟨(b2.block _ H1.out.1.lt).trans (H1.out.1.kept (up0 _ _)), (up H1.out.2 _).trans (b2.mono H1.out.2.size), k2⟩
      clear k2 b2 H1 HM HWH
      go_wp2_with fail
      refine (HPL.out _ _ _ _ _ _ H2.out.2.2).mono ?_
      rintro e w3 ⟨rfl, b3⟩
      have H3 : Hid (LB w3 w.heap.size 25 [.string ⟨#[]⟩, .int .i64 0, .slice none 0 0] ∧ Below w.heap.size w w3) := ⟨H2.out.1.kept b3, andThen H2.out.2.1 b3⟩
      have c0 := H3.out.1.cell 0 _ rfl
      have c1 := H3.out.1.cell 1 _ rfl
      have c2 := H3.out.1.cell 2 _ rfl
      have f0 := H3.out.1.free 0
      have f1 := H3.out.1.free 1
      have f2 := H3.out.1.free 2
      clear b3 HPL H2
      go_wp2_with fail
      obtain ⟨W9, e9, l9, b9, -⟩ := set3 H3.out.1 rfl (Nat.le_refl _) H3.out.2 (.string ⟨#[]⟩) (.int .i64 0) (.slice none 0 0)
      rw [← e9]
      have y0 := l9.cell 0 _ rfl
      have y1 := l9.cell 1 _ rfl
      have y2 := l9.cell 2 _ rfl
      refine bodyPost_ret (by simp [results, Tryz.results5, go_sem, y0, y1, y2]; try rfl) rfl ?_
      exact psZ _ _ _ b9
    | ok q =>
      obtain ⟨nm, R⟩ := q
      rw [hw] at hA HWH
      simp only at hA
      obtain ⟨ft1, ft2, ft3, ft4⟩ := whole_fit HFT.out hw
      have HPF : Hid (PFit ⟨nm, R.piv, R.ss⟩) := ⟨by show nm.size ≤ _; omega, fun s hs => by have := (ft2 s hs).1; omega, fun s hs => by have := (ft2 s hs).2; omega⟩
      have HAL : Hid (R.ats.length = R.ss.length ∧ 1 ≤ R.ss.length) := ⟨ft3, ft4⟩
      clear hw HFT ft1 ft2 ft3 ft4
      have HFA : Hid (∀ w' v, Below w.heap.size w w' → StsAt w' v R.ss → Calls Tryz.prog 16 #[.agg #[.string nm, .int .i64 R.piv, v]] w' fun e w'' => e = .returned (.tuple #[.int .i64 (fErr ⟨nm, R.piv, R.ss⟩).1, .int .i64 (fErr ⟨nm, R.piv, R.ss⟩).2]) ∧ Below w'.heap.size w' w'') := fun w' v hb hs => pfault_any ⟨nm, R.piv, R.ss⟩ v w' hs (HTT.out _ hb).lets HPF.out
      have HPR : Hid (∀ w' v, Below w.heap.size w w' → StsAt w' v R.ss → Calls Tryz.prog 9 #[.agg #[.string nm, .int .i64 R.piv, v]] w' fun e w'' => e = .returned (.tuple #[.string (printA ⟨nm, R.piv, R.ss⟩).1, .int .i64 (printA ⟨nm, R.piv, R.ss⟩).2]) ∧ Below w'.heap.size w' w'') := fun w' v hb hs => pprint_any ⟨nm, R.piv, R.ss⟩ v w' hs (HTT.out _ hb).lets (HTT.out _ hb).nt HPF.out
      unfold parseW at hA
      go_enter Tryz.func5, Tryz.ntmps5
      go_wp2_with fail
      refine (HWD.out _ HB0.out).mono ?_
      rintro e w1 ⟨v1, rfl, k1, b1⟩
      obtain ⟨a1, c1, rfl⟩ := k1.shape
      have H1 : Hid (LB w1 w.heap.size 25 [.string ⟨#[]⟩, .int .i64 0, .slice none 0 0] ∧ Below w.heap.size w w1) := HL0.out _ b1
      have HM : Hid (RdM w1.heap.size (w1.alloc (.cells #[.slice a1 ws.length c1, .int .i64 (line.size : Int), .string ⟨#[]⟩, .int .i64 0, .slice none 0 0, .slice none 0 0] 43)) ws (line.size : Int) ⟨#[]⟩ ⟨0, [], []⟩) := rdm_new k1 _
      clear b1 HWD k1
      go_wp2_with fail
      refine (HWH.out _ _ HM.out).mono ?_
      rintro e w2 ⟨rfl, k2, b2⟩
      have hbb : w.heap.size < w1.heap.size := H1.out.1.lt
      have H2 : Hid (LB w2 w.heap.size 25 [.string ⟨#[]⟩, .int .i64 0, .slice none 0 0] ∧ Below w.heap.size w w2 ∧ RdM w1.heap.size w2 [] (line.size : Int) nm R) := ⟨(b2.block _ H1.out.1.lt).trans (H1.out.1.kept (up0 _ _)), (up H1.out.2 _).trans (b2.mono H1.out.2.size), k2⟩
      clear k2 b2 H1 HM HWH HL0 HB0
      generalize w1.heap.size = b at *
      obtain ⟨vs, va, r2, r3, r4, r5, qs, qa⟩ := H2.out.2.2.cells
      obtain ⟨av, cs, rfl⟩ := ownsRow_shape qs
      have HV : Hid (StR b w2 (.slice av R.ss.length cs) R.ss ∧ AtR b w2 va R.ats) := ⟨qs, qa⟩
      clear qs qa
      go_wp2_with fail
      refine (HFA.out _ _ H2.out.2.1 (sts_of HV.out.1)).mono ?_
      rintro e w3 ⟨rfl, b3⟩
      have H3 : Hid (LB w3 w.heap.size 25 [.string ⟨#[]⟩, .int .i64 0, .slice none 0 0] ∧ Below w.heap.size w w3 ∧ RdM b w3 [] (line.size : Int) nm R ∧ (StR b w3 (.slice av R.ss.length cs) R.ss ∧ AtR b w3 va R.ats)) := ⟨H2.out.1.kept b3, andThen H2.out.2.1 b3, H2.out.2.2.kept b3, rows_chg HV.out fun k _ hk => b3.block k hk⟩
      have r2' : w3.cell? ⟨b, 2, none⟩ = some (.string nm) := (b3.cell (p := ⟨b, 2, none⟩) H2.out.2.2.lt).trans r2
      have r3' : w3.cell? ⟨b, 3, none⟩ = some (.int .i64 R.piv) := (b3.cell (p := ⟨b, 3, none⟩) H2.out.2.2.lt).trans r3
      have r4' : w3.cell? ⟨b, 4, none⟩ = some (.slice av R.ss.length cs) := (b3.cell (p := ⟨b, 4, none⟩) H2.out.2.2.lt).trans r4
      have r5' : w3.cell? ⟨b, 5, none⟩ = some va := (b3.cell (p := ⟨b, 5, none⟩) H2.out.2.2.lt).trans r5
      clear b3 H2 HFA r2 r3 r4 r5 HV
      by_cases hE : (fErr ⟨nm, R.piv, R.ss⟩).1 ≠ 0
      · rw [if_pos hE] at hA
        have hJ := fErr_at (p := ⟨nm, R.piv, R.ss⟩) HAL.out.2 hE
        have hE2 : ((fErr ⟨nm, R.piv, R.ss⟩).1 != 0) = true := by simpa using hE
        clear hE HPR HPF
        generalize fErr ⟨nm, R.piv, R.ss⟩ = F at *
        obtain ⟨E, J⟩ := F
        simp only at hA hJ hE2
        obtain ⟨j, rfl⟩ : ∃ j : Nat, J = (j : Int) := ⟨J.toNat, by omega⟩
        rw [Int.toNat_natCast] at hA
        have hj : j < R.ats.length := by rw [HAL.out.1]; omega
        obtain ⟨g, ca, rfl, hc1, hc2, x5, hbg⟩ := atR_cell H3.out.2.2.2.2 j hj
        unfold maxLen at hc2
        have hgw : g ≠ w.heap.size := by omega
        have hgw2 : w.heap.size ≠ g := by omega
        have hgb : b ≠ w.heap.size := by omega
        have hgb2 : w.heap.size ≠ b := by omega
        have hji : (0 : Int) ≤ (j : Int) ∧ (j : Int) < (R.ats.length : Int) := by omega
        obtain ⟨hj1, hj2⟩ := hji
        generalize R.ats.getD j 0 = P at *
        subst hA
        have c0 := H3.out.1.cell 0 _ rfl
        have c1 := H3.out.1.cell 1 _ rfl
        have c2 := H3.out.1.cell 2 _ rfl
        have f0 := H3.out.1.free 0
        have f1 := H3.out.1.free 1
        have f2 := H3.out.1.free 2
        have HC : Hid (LB w3.drew w.heap.size 25 [.string ⟨#[]⟩, .int .i64 0, .slice none 0 0] ∧ Below w.heap.size w w3.drew) := ⟨H3.out.1.kept (Below.drew (Below.refl _ _)), H3.out.2.1.drew⟩
        go_upto_region 9 with fail
        go_region
        go_wp2_with fail
        obtain ⟨W9, e9, l9, b9, -⟩ := set3 H3.out.1 rfl (Nat.le_refl _) H3.out.2.1 (.string ⟨#[]⟩) (.int .i64 0) (.slice none 0 0)
        rw [← e9]
        have y0 := l9.cell 0 _ rfl
        have y1 := l9.cell 1 _ rfl
        have y2 := l9.cell 2 _ rfl
        refine bodyPost_ret (by simp [results, Tryz.results5, go_sem, y0, y1, y2]; try rfl) rfl ?_
        exact psZ _ _ _ b9.drew
      · rw [if_neg hE] at hA
        have hE2 : (fErr ⟨nm, R.piv, R.ss⟩).1 = 0 := by simpa using hE
        have hPA : printA ⟨nm, R.piv, R.ss⟩ = (printP ⟨nm, R.piv, R.ss⟩, 0) := by unfold printA; rw [if_pos hE2]
        rw [hPA] at HPR
        simp only at HPR
        clear hE hPA
        have HTS : Hid ((printP ⟨nm, R.piv, R.ss⟩).size ≤ 100000) := printP_size hE2
        have HPT : Hid (∀ w', Calls Tryz.prog 17 #[.string line, .string (printP ⟨nm, R.piv, R.ss⟩)] w' fun e w'' => e = .returned (.int .i64 (partF line.data.toList (printP ⟨nm, R.piv, R.ss⟩).data.toList : Int)) ∧ Below w'.heap.size w' w'') := fun w' => parting_any line _ w' (by omega) HTS.out
        generalize fErr ⟨nm, R.piv, R.ss⟩ = F at *
        obtain ⟨E, J⟩ := F
        simp only at hE2
        subst hE2
        generalize partF line.data.toList (printP ⟨nm, R.piv, R.ss⟩).data.toList = PT at *
        generalize printP ⟨nm, R.piv, R.ss⟩ = T at *
        go_wp2_with fail
        refine (HPR.out _ _ H3.out.2.1 (sts_of H3.out.2.2.2.1)).mono ?_
        rintro e w4 ⟨rfl, b4⟩
        have H4 : Hid (LB w4 w.heap.size 25 [.string ⟨#[]⟩, .int .i64 0, .slice none 0 0] ∧ Below w.heap.size w w4 ∧ StR b w4 (.slice av R.ss.length cs) R.ss) := ⟨H3.out.1.kept b4, andThen H3.out.2.1 b4, (rows_chg H3.out.2.2.2 fun k _ hk => b4.block k hk).1⟩
        have s2 : w4.cell? ⟨b, 2, none⟩ = some (.string nm) := (b4.cell (p := ⟨b, 2, none⟩) H3.out.2.2.1.lt).trans r2'
        have s3 : w4.cell? ⟨b, 3, none⟩ = some (.int .i64 R.piv) := (b4.cell (p := ⟨b, 3, none⟩) H3.out.2.2.1.lt).trans r3'
        have s4 : w4.cell? ⟨b, 4, none⟩ = some (.slice av R.ss.length cs) := (b4.cell (p := ⟨b, 4, none⟩) H3.out.2.2.1.lt).trans r4'
        clear b4 H3 HPR r2' r3' r4' r5' HTS HPF
        cases hq : (line.toList == T.toList) with
        | false =>
          rw [hq] at hA
          rw [if_pos rfl] at hA
          subst hA
          go_wp2_with fail
          refine (HPT.out _).mono ?_
          rintro e w5 ⟨rfl, b5⟩
          have H5 : Hid (LB w5 w.heap.size 25 [.string ⟨#[]⟩, .int .i64 0, .slice none 0 0] ∧ Below w.heap.size w w5) := ⟨H4.out.1.kept b5, andThen H4.out.2.1 b5⟩
          have c0 := H5.out.1.cell 0 _ rfl
          have c1 := H5.out.1.cell 1 _ rfl
          have c2 := H5.out.1.cell 2 _ rfl
          have f0 := H5.out.1.free 0
          have f1 := H5.out.1.free 1
          have f2 := H5.out.1.free 2
          clear b5 HPT s2 s3 s4
          go_wp2_with fail
          obtain ⟨W9, e9, l9, b9, -⟩ := set3 H5.out.1 rfl (Nat.le_refl _) H5.out.2 (.string ⟨#[]⟩) (.int .i64 0) (.slice none 0 0)
          rw [← e9]
          have y0 := l9.cell 0 _ rfl
          have y1 := l9.cell 1 _ rfl
          have y2 := l9.cell 2 _ rfl
          refine bodyPost_ret (by simp [results, Tryz.results5, go_sem, y0, y1, y2]; try rfl) rfl ?_
          exact psZ _ _ _ b9
        | true =>
          rw [hq] at hA
          rw [if_neg (by decide)] at hA
          subst hA
          have c0 := H4.out.1.cell 0 _ rfl
          have c1 := H4.out.1.cell 1 _ rfl
          have c2 := H4.out.1.cell 2 _ rfl
          have f0 := H4.out.1.free 0
          have f1 := H4.out.1.free 1
          have f2 := H4.out.1.free 2
          go_wp2_with fail
          obtain ⟨W9, e9, l9, b9, o9⟩ := set3 H4.out.1 rfl (Nat.le_refl _) H4.out.2.1 (.string nm) (.int .i64 R.piv) (.slice av R.ss.length cs)
          rw [← e9]
          have y0 := l9.cell 0 _ rfl
          have y1 := l9.cell 1 _ rfl
          have y2 := l9.cell 2 _ rfl
          refine bodyPost_ret (by simp [results, Tryz.results5, go_sem, y0, y1, y2]; try rfl) rfl ?_
          have hrow : W9.ownsRow (b + 1) 60 3 (.slice av R.ss.length cs) R.ss.length (R.ss.flatMap stl) := ownsRow_same H4.out.2.2 fun k hk => o9 k (by have := (World.ownsRow.lt H4.out.2.2 k hk).1; omega)
          exact ⟨_, rfl, ownsRow_weak hrow (by omega), b9⟩
end Go.Proofs.YtcnnpohnfoaceaaGreatDoor
