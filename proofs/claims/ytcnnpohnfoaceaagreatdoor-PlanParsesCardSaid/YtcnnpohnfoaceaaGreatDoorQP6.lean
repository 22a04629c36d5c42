import Derived.Test.YtcnnpohnfoaceaaGreatDoorQP4
import Derived.Test.YtcnnpohnfoaceaaGreatDoorQT7
/-
  The reference of plan: label, ahead, behind, used.
-/
namespace Go.Proofs.YtcnnpohnfoaceaaGreatDoor
open Go Go.RowKit
open Wb

theorem rplabel_any (s : ByteArray) (w : World) (hs : s.size ≤ 2000000) (hT : Text.TabP 1 .i64 Text.Tx.lets w) : Calls Tryz.prog 44 #[.string s] w fun e w' => e = .returned (.bool (nmd s)) ∧ Below w.heap.size w w' := by
  have HN : Hid (Calls Tryz.prog 70 #[.string s] w fun e w' => e = .returned (.tuple #[.int .i64 (Text.Tx.nmA s).1, .int .i64 (Text.Tx.nmA s).2]) ∧ Below w.heap.size w w') := Text.rname_any s w hs hT
  have HR : Hid (nmd s = ((Text.Tx.nmA s).1 == 0)) := rfl
  generalize Text.Tx.nmA s = R at *
  obtain ⟨r1, r2⟩ := R
  simp only at HN HR
  clear hT hs
  go_enter Tryz.func44, Tryz.ntmps44
  go_wp2_with fail
  refine HN.out.mono ?_
  rintro e w1 ⟨rfl, b1⟩
  have H1 : Hid (Below w.heap.size w w1) := b1
  clear b1 HN
  go_wp2_with fail
  go_ret
  exact ⟨by rw [HR.out]; rfl, H1.out⟩
theorem rpahead_any (p : Pln) (v : Value) (i : Int) (w : World) (h1 : -1 ≤ i) (h2 : i ≤ 1000000) : Calls Tryz.prog 71 #[plv p v, .int .i64 i] w fun e w' => e = .returned (.bool (p.ahead i)) ∧ Below w.heap.size w w' := by
  have HB : Hid (∀ o, Below w.heap.size w (w.alloc o)) := fun o => up0 w o
  unfold plv
  by_cases h3 : p.piv = 0
  · have HR : Hid (p.ahead i = true) := by show _ = _; simp [Pln.ahead, h3]
    have e1 : (p.piv == 0) = true := by rw [h3]; rfl
    clear h3
    go_enter Tryz.func71, Tryz.ntmps71
    go_wp2
    go_ret
    exact ⟨by rw [HR.out]; rfl, HB.out _⟩
  · have HR : Hid (p.ahead i = decide (i + 1 < p.piv)) := by show _ = _; simp [Pln.ahead, h3]
    have e1 : (p.piv == 0) = false := by rw [beq_eq_false_iff_ne]; exact h3
    clear h3
    go_enter Tryz.func71, Tryz.ntmps71
    go_wp2
    go_ret
    exact ⟨by rw [HR.out]; rfl, HB.out _⟩
theorem rpbehind_any (p : Pln) (v : Value) (i : Int) (w : World) (h1 : -1 ≤ i) (h2 : i ≤ 1000000) : Calls Tryz.prog 72 #[plv p v, .int .i64 i] w fun e w' => e = .returned (.bool (p.behind i)) ∧ Below w.heap.size w w' := by
  have HB : Hid (∀ o, Below w.heap.size w (w.alloc o)) := fun o => up0 w o
  unfold plv
  by_cases h3 : p.piv = 0
  · have HR : Hid (p.behind i = false) := by show _ = _; simp [Pln.behind, Pln.ahead, h3]
    have e1 : (p.piv != 0) = false := by rw [h3]; rfl
    clear h3
    go_enter Tryz.func72, Tryz.ntmps72
    go_wp2
    go_ret
    exact ⟨by rw [HR.out]; rfl, HB.out _⟩
  · have HR : Hid (p.behind i = decide (i + 1 > p.piv)) := by
      show _ = _
      unfold Pln.behind Pln.ahead Pln.isPiv
      have e : (p.piv == 0) = false := beq_eq_false_iff_ne.2 h3
      rw [e, Bool.false_or]
      by_cases h4 : i + 1 < p.piv
      · rw [decide_eq_true h4, decide_eq_false (by omega)]; rfl
      · by_cases h5 : i + 1 = p.piv
        · rw [decide_eq_false h4, decide_eq_false (by omega), h5]; simp
        · rw [decide_eq_false h4, decide_eq_true (by omega), beq_eq_false_iff_ne.2 h5]; rfl
    have e1 : (p.piv != 0) = true := by simp [h3]
    clear h3
    go_enter Tryz.func72, Tryz.ntmps72
    go_wp2
    go_ret
    exact ⟨by rw [HR.out]; rfl, HB.out _⟩
/-- used: not of the empty name -/
def usedP (ss : List Stp) (n : ByteArray) : Bool := !n.toList.isEmpty && usesP ss n
theorem usesP_succ (ss : List Stp) (n : ByteArray) (k : Nat) (h : k < ss.length) : usesP (ss.take (k + 1)) n = (usesP (ss.take k) n || (ss[k].d.toList == n.toList || ss[k].u.toList == n.toList)) := by
  unfold usesP
  rw [List.take_add_one, List.getElem?_eq_getElem h, List.any_append]
  simp
set_option maxRecDepth 100000 in
set_option maxHeartbeats 8000000 in
theorem rpused_any (p : Pln) (v : Value) (m : Nat) (n : ByteArray) (w : World) (h : StsAt w v p.ss) (hm : m ≤ p.ss.length) (hm2 : m ≤ 1000) :
    Calls Tryz.prog 73 #[plv p v, .int .i64 (m : Int), .string n] w fun e w' => e = .returned (.bool (usedP (p.ss.take m) n)) ∧ Below w.heap.size w w' := by
  have HS : Hid (∀ w', Below w.heap.size w w' → StsAt w' v p.ss) := fun w' hb => h.kept hb
  obtain ⟨ao, cap, rfl, hl, hmx, -⟩ := h
  unfold maxLen at hmx
  obtain ⟨R, hR⟩ : ∃ R, usedP (p.ss.take m) n = R := ⟨_, rfl⟩
  have HR : Hid (usedP (p.ss.take m) n = R) := hR
  rw [hR]
  clear hR
  have HX : Hid (LB (w.alloc (.cells (plvl p (.slice ao p.ss.length cap)).toArray 25)) w.heap.size 25 (plvl p (.slice ao p.ss.length cap)) ∧ Below w.heap.size w (w.alloc (.cells (plvl p (.slice ao p.ss.length cap)).toArray 25))) := ⟨lb_new w _ _, up0 _ _⟩
  have hpl : plv p (.slice ao p.ss.length cap) = .agg (plvl p (.slice ao p.ss.length cap)).toArray := rfl
  have HDC : Hid (∀ W, LB W w.heap.size 25 (plvl p (.slice ao p.ss.length cap)) → W.cell? ⟨w.heap.size, 2, none⟩ = some (.slice ao p.ss.length cap)) := fun W l => l.cell 2 _ rfl
  rw [hpl]
  clear hpl
  generalize plvl p (.slice ao p.ss.length cap) = D at *
  go_enter Tryz.func73, Tryz.ntmps73
  go_wp2
  go_loopw [7] (fun i wr => ∃ k : Nat, k ≤ m ∧ i = .int .i64 (k : Int) ∧ usedP (p.ss.take k) n = false ∧ LB wr w.heap.size 25 D ∧ Below w.heap.size w wr) (fun i _ => m - (intOf i).toNat)
  case atStart => exact ⟨0, Nat.zero_le _, rfl, by simp [usedP, usesP], HX.out.1, HX.out.2⟩
  case round =>
    obtain ⟨k, hk, rfl, hno, hL, hbl⟩ := hrel
    have HW : Hid (usedP (p.ss.take k) n = false ∧ LB wr w.heap.size 25 D ∧ Below w.heap.size w wr) := ⟨hno, hL, hbl⟩
    clear hno hL hbl HX
    have c2 := HDC.out _ HW.out.2.1
    by_cases hlt : k < m
    · have hks : k < p.ss.length := by omega
      obtain ⟨ao', cap', e, -, -, hc⟩ := HS.out wr HW.out.2.2
      simp only [Value.slice.injEq, true_and] at e
      obtain ⟨rfl, rfl⟩ := e
      obtain ⟨b, off, rfl, hr⟩ := hc k p.ss[k] (List.getElem?_eq_getElem hks)
      have x0 := hr 0 _ rfl
      have x1 := hr 1 _ rfl
      rw [Nat.add_zero] at x0
      have HU : Hid (usesP (p.ss.take (k + 1)) n = (usesP (p.ss.take k) n || (p.ss[k].d.toList == n.toList || p.ss[k].u.toList == n.toList))) := usesP_succ p.ss n k hks
      have HM : Hid (usesP (p.ss.take (k + 1)) n = true → usesP (p.ss.take m) n = true) := fun h => by
        unfold usesP at *
        obtain ⟨x, hx, hx2⟩ := List.any_eq_true.1 h
        exact List.any_eq_true.2 ⟨x, List.mem_of_mem_take (by rw [List.take_take, Nat.min_eq_left (show k + 1 ≤ m by omega)]; exact hx : x ∈ (p.ss.take m).take (k + 1)), hx2⟩
      clear hc hr
      cases hne : n.toList.isEmpty with
      | true =>
        have HN : Hid (usedP (p.ss.take (k + 1)) n = false) := by show _ = _; unfold usedP; rw [hne]; rfl
        go_wp2
        go_roundw
        case rel => exact ⟨k + 1, by omega, by simp, HN.out, HW.out.2.1, HW.out.2.2⟩
        case measure => simp [intOf]; omega
      | false =>
        have hno : usesP (p.ss.take k) n = false := by
          have e := HW.out.1
          unfold usedP at e
          rw [hne] at e
          simpa using e
        have HT : Hid ((p.ss[k].d.toList == n.toList || p.ss[k].u.toList == n.toList) = true → R = true) := fun e => by
          rw [← HR.out]
          unfold usedP
          rw [hne, HM.out (by rw [HU.out, e]; simp)]
          rfl
        have HF : Hid ((p.ss[k].d.toList == n.toList || p.ss[k].u.toList == n.toList) = false → usedP (p.ss.take (k + 1)) n = false) := fun e => by
          unfold usedP
          rw [HU.out, e, hno]
          simp
        clear HU HM hno
        cases hq : (p.ss[k].d.toList == n.toList) with
        | true =>
          have HT2 : Hid (R = true) := HT.out (by rw [hq]; rfl)
          clear HT HF
          go_wp2
          go_ret
          exact ⟨by rw [HT2.out]; rfl, HW.out.2.2⟩
        | false =>
          cases hq2 : (p.ss[k].u.toList == n.toList) with
          | true =>
            have HT2 : Hid (R = true) := HT.out (by rw [hq, hq2]; rfl)
            clear HT HF
            go_wp2
            go_ret
            exact ⟨by rw [HT2.out]; rfl, HW.out.2.2⟩
          | false =>
            have HF2 : Hid (usedP (p.ss.take (k + 1)) n = false) := HF.out (by rw [hq, hq2]; rfl)
            clear HT HF
            go_wp2
            go_roundw
            case rel => exact ⟨k + 1, by omega, by simp, HF2.out, HW.out.2.1, HW.out.2.2⟩
            case measure => simp [intOf]; omega
    · obtain rfl : k = m := by omega
      have HF : Hid (R = false) := by show R = _; rw [← HR.out]; exact HW.out.1
      go_wp2
      go_ret
      exact ⟨by rw [HF.out]; rfl, HW.out.2.2⟩
end Go.Proofs.YtcnnpohnfoaceaaGreatDoor

/-
  The reference of plan: step.
-/
namespace Go.Proofs.YtcnnpohnfoaceaaGreatDoor
open Go Go.RowKit
open Wb

theorem nmd_ne {s : ByteArray} (h : nmd s = true) : s.toList.isEmpty = false := by
  unfold nmd Text.Tx.nmA at h
  split at h
  · cases h
  · rename_i h1
    rw [ByteArray.toList_eq]
    cases hd : s.data.toList with
    | nil =>
      have : s.data.size = 0 := by rw [← Array.length_toList, hd]; rfl
      exact absurd this h1
    | cons a r => rfl
/-- the last question of a step -/
def againP (p : Pln) (i : Nat) (s : Stp) : Bool := usedP (p.ss.take i) s.d || usedP (p.ss.take i) s.u || (s.d.toList == s.u.toList)
theorem stepErr_ref {p : Pln} {i : Nat} {s : Stp} (h : nmd s.d = true) : stepErr p i s = if (s.und && !nmd s.u) = true then 35 else if (p.ahead i != s.und) = true then 152 else if winP s.t (if p.behind i then 0 else 1) (if p.behind i then 0 else 1000) = false then 34 else if againP p i s = true then 151 else 0 := by
  unfold stepErr
  rw [if_neg (by rw [h]; decide)]
  have hd := nmd_ne h
  have e1 : usedP (p.ss.take i) s.d = usesP (p.ss.take i) s.d := by unfold usedP; rw [hd]; rfl
  have e2 : usedP (p.ss.take i) s.u = (s.und && usesP (p.ss.take i) s.u) := rfl
  have e3 : (s.d.toList == s.u.toList) = (s.und && (s.u.toList == s.d.toList)) := by
    cases hu : s.und with
    | true => rw [Bool.true_and, Bool.beq_comm]
    | false =>
      unfold Stp.und at hu
      have : s.u.toList = [] := by simpa using hu
      rw [this]
      cases hq : s.d.toList with
      | nil => rw [hq] at hd; cases hd
      | cons a r => rfl
  unfold againP
  rw [e1, e2, e3]
  congr 1
  congr 1
  congr 1
  cases usesP (p.ss.take i) s.d <;> cases s.und <;> cases (s.u.toList == s.d.toList) <;> cases usesP (p.ss.take i) s.u <;> rfl
set_option maxRecDepth 100000 in
set_option maxHeartbeats 16000000 in
theorem rpstep_any (p : Pln) (v : Value) (i : Nat) (s : Stp) (w : World) (hs : p.ss[i]? = some s) (h : StsAt w v p.ss) (hT : Text.TabP 1 .i64 Text.Tx.lets w) (hd : s.d.size ≤ 2000000) (hu : s.u.size ≤ 2000000) (hi : i < 1000) :
    Calls Tryz.prog 45 #[plv p v, .int .i64 (i : Int)] w fun e w' => e = .returned (.int .i64 (stepErr p i s)) ∧ Below w.heap.size w w' := by
  have hlt : i < p.ss.length := (List.getElem?_eq_some_iff.1 hs).1
  have HSA : Hid (∀ w', Below w.heap.size w w' → StsAt w' v p.ss) := fun w' hb => h.kept hb
  obtain ⟨ao, cap, rfl, h1, h2, h3⟩ := h
  obtain ⟨b, off, rfl, hr⟩ := h3 i s hs
  have HN1 : Hid (∀ w', Below w.heap.size w w' → Calls Tryz.prog 44 #[.string s.d] w' fun e w'' => e = .returned (.bool (nmd s.d)) ∧ Below w'.heap.size w' w'') := fun w' hb => rplabel_any s.d w' hd (hT.kept hb)
  have HN2 : Hid (∀ w', Below w.heap.size w w' → Calls Tryz.prog 44 #[.string s.u] w' fun e w'' => e = .returned (.bool (nmd s.u)) ∧ Below w'.heap.size w' w'') := fun w' hb => rplabel_any s.u w' hu (hT.kept hb)
  have HAH : Hid (∀ w', Calls Tryz.prog 71 #[.agg (plvl p (.slice (some ⟨b, off, none⟩) p.ss.length cap)).toArray, .int .i64 (i : Int)] w' fun e w'' => e = .returned (.bool (p.ahead i)) ∧ Below w'.heap.size w' w'') := fun w' => rpahead_any p _ i w' (by omega) (by omega)
  have HBH : Hid (∀ w', Calls Tryz.prog 72 #[.agg (plvl p (.slice (some ⟨b, off, none⟩) p.ss.length cap)).toArray, .int .i64 (i : Int)] w' fun e w'' => e = .returned (.bool (p.behind i)) ∧ Below w'.heap.size w' w'') := fun w' => rpbehind_any p _ i w' (by omega) (by omega)
  have HU1 : Hid (∀ w', Below w.heap.size w w' → Calls Tryz.prog 73 #[.agg (plvl p (.slice (some ⟨b, off, none⟩) p.ss.length cap)).toArray, .int .i64 (i : Int), .string s.d] w' fun e w'' => e = .returned (.bool (usedP (p.ss.take i) s.d)) ∧ Below w'.heap.size w' w'') := fun w' hb => rpused_any p _ i s.d w' (HSA.out w' hb) (by omega) (by omega)
  have HU2 : Hid (∀ w', Below w.heap.size w w' → Calls Tryz.prog 73 #[.agg (plvl p (.slice (some ⟨b, off, none⟩) p.ss.length cap)).toArray, .int .i64 (i : Int), .string s.u] w' fun e w'' => e = .returned (.bool (usedP (p.ss.take i) s.u)) ∧ Below w'.heap.size w' w'') := fun w' hb => rpused_any p _ i s.u w' (HSA.out w' hb) (by omega) (by omega)
  unfold maxLen at h2
  have x0 : ∀ o, (w.alloc o).cell? ⟨b, off + i * 3, none⟩ = some (.string s.d) := fun o => (range_kept hr (up0 w o)) 0 _ rfl
  have x1 : ∀ o, (w.alloc o).cell? ⟨b, off + i * 3 + 1, none⟩ = some (.string s.u) := fun o => (range_kept hr (up0 w o)) 1 _ rfl
  have x2 : ∀ o, (w.alloc o).cell? ⟨b, off + i * 3 + 2, none⟩ = some (.int .i64 s.t) := fun o => (range_kept hr (up0 w o)) 2 _ rfl
  have hi0 : (0 : Int) ≤ (i : Int) ∧ (i : Int) < (p.ss.length : Int) := by omega
  obtain ⟨hi1, hi2⟩ := hi0
  have HLI : Hid ((Tryz.prog.info? 25).map (·.size) = some (plvl p (.slice (some ⟨b, off, none⟩) p.ss.length cap)).length) := infoPlan
  have hpl : plv p (.slice (some ⟨b, off, none⟩) p.ss.length cap) = .agg (plvl p (.slice (some ⟨b, off, none⟩) p.ss.length cap)).toArray := rfl
  rw [hpl]
  have p2 : (w.alloc (.cells (plvl p (.slice (some ⟨b, off, none⟩) p.ss.length cap)).toArray 25)).cell? ⟨w.heap.size, 2, none⟩ = some (.slice (some ⟨b, off, none⟩) p.ss.length cap) := (lb_new w (plvl p (.slice (some ⟨b, off, none⟩) p.ss.length cap)) 25).cell 2 _ rfl
  have HN : Hid (∀ o2, o2 = .cells #[.string s.d, .string s.u, .int .i64 s.t] 60 → LB ((w.alloc (.cells (plvl p (.slice (some ⟨b, off, none⟩) p.ss.length cap)).toArray 25)).alloc o2) w.heap.size 25 (plvl p (.slice (some ⟨b, off, none⟩) p.ss.length cap)) ∧ LB ((w.alloc (.cells (plvl p (.slice (some ⟨b, off, none⟩) p.ss.length cap)).toArray 25)).alloc o2) (w.heap.size + 1) 60 (stl s) ∧ Below w.heap.size w ((w.alloc (.cells (plvl p (.slice (some ⟨b, off, none⟩) p.ss.length cap)).toArray 25)).alloc o2)) := fun o2 e => by subst e; exact lb_new2 w (plvl p (.slice (some ⟨b, off, none⟩) p.ss.length cap)) (stl s) 25 60
  have HE0 : Hid (nmd s.d = false → stepErr p i s = 35) := fun e => by unfold stepErr; rw [if_pos e]
  have HE1 : Hid (nmd s.d = true → stepErr p i s = if (s.und && !nmd s.u) = true then 35 else if (p.ahead i != s.und) = true then 152 else if winP s.t (if p.behind i then 0 else 1) (if p.behind i then 0 else 1000) = false then 34 else if (usedP (p.ss.take i) s.d || usedP (p.ss.take i) s.u || (s.d.toList == s.u.toList)) = true then 151 else 0) := fun e => stepErr_ref e
  have HUN : s.u.toList.isEmpty = !s.und := by unfold Stp.und; simp
  clear hpl hr h3 hs hT hd hu HSA
  generalize (plvl p (.slice (some ⟨b, off, none⟩) p.ss.length cap)) = D at *
  generalize stepErr p i s = R at *
  generalize nmd s.d = n1 at *
  generalize nmd s.u = n2 at *
  generalize s.und = un at *
  generalize p.ahead i = ah at *
  generalize p.behind i = bb at *
  generalize usedP (p.ss.take i) s.d = u1 at *
  generalize usedP (p.ss.take i) s.u = u2 at *
  generalize hqq : (s.d.toList == s.u.toList) = qq at *
  have K : Hid (∀ W : World, LB W w.heap.size 25 D ∧ LB W (w.heap.size + 1) 60 (stl s) ∧ Below w.heap.size w W → ∀ W', Below W.heap.size W W' → LB W' w.heap.size 25 D ∧ LB W' (w.heap.size + 1) 60 (stl s) ∧ Below w.heap.size w W') := fun W hh W' hb => ⟨hh.1.kept hb, hh.2.1.kept hb, andThen hh.2.2 hb⟩
  go_enter Tryz.func45, Tryz.ntmps45
  go_wp2_with fail
  refine (HN1.out _ (HN.out _ rfl).2.2).mono ?_
  rintro e w1 ⟨rfl, b1⟩
  have H1 : Hid (LB w1 w.heap.size 25 D ∧ LB w1 (w.heap.size + 1) 60 (stl s) ∧ Below w.heap.size w w1) := K.out _ (HN.out _ rfl) _ b1
  have d0 := H1.out.2.1.cell 0 _ rfl
  have d1 := H1.out.2.1.cell 1 _ rfl
  have d2 := H1.out.2.1.cell 2 _ rfl
  clear b1 HN HN1 x0 x1 x2 p2
  cases n1
  case false =>
    have HR : Hid (R = 35) := HE0.out rfl
    clear HE0 HE1
    go_wp2_with fail
    go_ret
    exact ⟨by rw [HR.out]; rfl, H1.out.2.2⟩
  have HE : Hid (R = if (un && !n2) = true then 35 else if (ah != un) = true then 152 else if winP s.t (if bb then 0 else 1) (if bb then 0 else 1000) = false then 34 else if (u1 || u2 || qq) = true then 151 else 0) := HE1.out rfl
  clear HE0 HE1
  cases un
  case false =>
    have hue : s.u.toList.isEmpty = true := HUN
    clear HUN
    have H2 : Hid (LB w1 w.heap.size 25 D ∧ LB w1 (w.heap.size + 1) 60 (stl s) ∧ Below w.heap.size w w1) := H1.out
    go_upto_region 4 with fail
    refine wp_region_held_drew (S := fun w' : World => w'.cell? ⟨w.heap.size + 1, 1, none⟩ = some (.string s.u) ∧ w'.rangeAt w.heap.size 0 D) (by kernel_rfl) ⟨H2.out.2.1.cell 1 _ rfl, H2.out.1.range⟩ (fun hH => ?_)
    have H3 : Hid (LB w1.drew w.heap.size 25 D ∧ LB w1.drew (w.heap.size + 1) 60 (stl s) ∧ Below w.heap.size w w1.drew) := K.out _ H2.out _ (Below.drew (Below.refl _ _))
    clear H2
    generalize w1.drew = w3 at *
    refine zql 0 rfl (yieldsIf_load_mid (by rfl) _ _ rfl _ _ rfl D _ (fun w' hSw => hSw.2) Tryz.underlying25 rfl HLI.out) hH ?_
    simp only [Act.put, List.setIfInBounds_toArray, List.set_cons_zero, List.set_cons_succ, List.getElem_toArray, List.getElem_cons_zero]
    refine zqk 1 rfl hH ?_
    simp only [Act.put, List.setIfInBounds_toArray, List.set_cons_zero, List.set_cons_succ, List.getElem_toArray, List.getElem_cons_zero, List.getElem_cons_succ]
    refine zqk 3 rfl hH ?_
    simp only [Act.put, List.setIfInBounds_toArray, List.set_cons_zero, List.set_cons_succ, List.getElem_toArray, List.getElem_cons_zero, List.getElem_cons_succ]
    refine zqk 4 rfl hH ?_
    simp only [Act.put, List.setIfInBounds_toArray, List.set_cons_zero, List.set_cons_succ, List.getElem_toArray, List.getElem_cons_zero, List.getElem_cons_succ]
    refine zqk 5 rfl hH ?_
    simp only [Act.put, List.setIfInBounds_toArray, List.set_cons_zero, List.set_cons_succ, List.getElem_toArray, List.getElem_cons_zero, List.getElem_cons_succ]
    refine zqr 2 rfl (fun K2 hK => ?_)
    go_simp
    refine (HAH.out _).mono ?_
    rintro e w4 ⟨rfl, b4⟩
    have H4 : Hid (LB w4 w.heap.size 25 D ∧ LB w4 (w.heap.size + 1) 60 (stl s) ∧ Below w.heap.size w w4) := K.out _ H3.out _ b4
    clear b4 HAH H3
    refine hK.out _ _ ⟨H4.out.2.1.cell 1 _ rfl, H4.out.1.range⟩ (fun hH2 => ?_)
    clear hK K2 hH
    refine zqk 6 rfl hH2 ?_
    simp only [Act.put, List.setIfInBounds_toArray, List.set_cons_zero, List.set_cons_succ, List.getElem_toArray, List.getElem_cons_zero, List.getElem_cons_succ]
    refine wpAnyH_done (by kernel_rfl) ?_ _
    clear hH2
    cases ah
    case true =>
      go_wp2_with fail
      go_ret
      exact ⟨by rw [HE.out]; rfl, H4.out.2.2⟩
    go_wp2_with (first | (refine wpList_load_mid rfl 25 _ rfl w.heap.size 0 rfl D _ H4.out.1.range Tryz.underlying25 rfl HLI.out ?_) | fail)
    refine (HBH.out _).mono ?_
    rintro e w5 ⟨rfl, b5⟩
    have H5 : Hid (LB w5 w.heap.size 25 D ∧ LB w5 (w.heap.size + 1) 60 (stl s) ∧ Below w.heap.size w w5) := K.out _ H4.out _ b5
    clear b5 HBH H4
    have d0 := H5.out.2.1.cell 0 _ rfl
    have d1 := H5.out.2.1.cell 1 _ rfl
    have d2 := H5.out.2.1.cell 2 _ rfl
    have HWT : Hid (winP s.t 0 0 = decide (s.t = 0)) := by
      show _ = _
      unfold winP
      rw [← Bool.decide_and]
      exact decide_eq_decide.2 (by omega)
    cases bb
    case true =>
      by_cases ht : s.t = 0
      · have ht2 : (s.t != 0) = false := by rw [ht]; rfl
        have HE5 : Hid (R = if (u1 || u2 || qq) = true then 151 else 0) := by
          show R = _
          rw [HE.out]
          simp only [if_true, ht]
          rfl
        clear HE HWT ht
        go_wp2_with (first | (refine wpList_load_mid rfl 25 _ rfl w.heap.size 0 rfl D _ H5.out.1.range Tryz.underlying25 rfl HLI.out ?_) | fail)
        refine (HU1.out _ H5.out.2.2).mono ?_
        rintro e w6 ⟨rfl, b6⟩
        have H6 : Hid (LB w6 w.heap.size 25 D ∧ LB w6 (w.heap.size + 1) 60 (stl s) ∧ Below w.heap.size w w6) := K.out _ H5.out _ b6
        clear b6 HU1 H5 d0 d1 d2
        have d0 := H6.out.2.1.cell 0 _ rfl
        have d1 := H6.out.2.1.cell 1 _ rfl
        cases u1
        case true =>
          go_wp2_with fail
          go_ret
          exact ⟨by rw [HE5.out]; rfl, H6.out.2.2⟩
        go_wp2_with (first | (refine wpList_load_mid rfl 25 _ rfl w.heap.size 0 rfl D _ H6.out.1.range Tryz.underlying25 rfl HLI.out ?_) | (refine wpList_load_midG rfl 25 _ rfl w.heap.size 0 rfl D _ H6.out.1.range Tryz.underlying25 rfl HLI.out ?_) | fail)
        refine (HU2.out _ H6.out.2.2).mono ?_
        rintro e w7 ⟨rfl, b7⟩
        have H7 : Hid (LB w7 w.heap.size 25 D ∧ LB w7 (w.heap.size + 1) 60 (stl s) ∧ Below w.heap.size w w7) := K.out _ H6.out _ b7
        clear b7 HU2 H6 d0 d1
        have d0 := H7.out.2.1.cell 0 _ rfl
        have d1 := H7.out.2.1.cell 1 _ rfl
        cases u2
        case true =>
          go_wp2_with fail
          go_ret
          exact ⟨by rw [HE5.out]; rfl, H7.out.2.2⟩
        cases qq
        all_goals
          go_wp2_with fail
          go_ret
          exact ⟨by rw [HE5.out]; rfl, H7.out.2.2⟩
      · have ht2 : (s.t != 0) = true := by simp [ht]
        have HE5 : Hid (R = 34) := by
          show R = _
          rw [HE.out]
          simp only [if_true, HWT.out, decide_eq_false ht]
          rfl
        clear HE HWT ht
        go_wp2_with fail
        go_ret
        exact ⟨by rw [HE5.out]; rfl, H5.out.2.2⟩
    case false =>
      clear HWT
      by_cases ht : s.t < 1
      · have HE5 : Hid (R = 34) := by
          show R = _
          rw [HE.out]
          have e : winP s.t 1 1000 = false := by unfold winP; rw [decide_eq_false (by omega)]; rfl
          simp only [Bool.false_eq_true, if_false, e]
          rfl
        clear HE
        go_wp2_with fail
        go_ret
        exact ⟨by rw [HE5.out]; rfl, H5.out.2.2⟩
      · by_cases ht3 : s.t > 1000
        · have HE5 : Hid (R = 34) := by
            show R = _
            rw [HE.out]
            have e : winP s.t 1 1000 = false := by unfold winP; rw [decide_eq_false (show ¬ s.t ≤ 1000 by omega), Bool.and_false]
            simp only [Bool.false_eq_true, if_false, e]
            rfl
          clear HE
          go_wp2_with fail
          go_ret
          exact ⟨by rw [HE5.out]; rfl, H5.out.2.2⟩
        · have HE5 : Hid (R = if (u1 || u2 || qq) = true then 151 else 0) := by
            show R = _
            rw [HE.out]
            have e : winP s.t 1 1000 = true := by unfold winP; rw [decide_eq_true (by omega), decide_eq_true (by omega)]; rfl
            simp only [Bool.false_eq_true, if_false, e]
            rfl
          clear HE
          go_wp2_with (first | (refine wpList_load_mid rfl 25 _ rfl w.heap.size 0 rfl D _ H5.out.1.range Tryz.underlying25 rfl HLI.out ?_) | fail)
          refine (HU1.out _ H5.out.2.2).mono ?_
          rintro e w6 ⟨rfl, b6⟩
          have H6 : Hid (LB w6 w.heap.size 25 D ∧ LB w6 (w.heap.size + 1) 60 (stl s) ∧ Below w.heap.size w w6) := K.out _ H5.out _ b6
          clear b6 HU1 H5 d0 d1 d2
          have d0 := H6.out.2.1.cell 0 _ rfl
          have d1 := H6.out.2.1.cell 1 _ rfl
          cases u1
          case true =>
            go_wp2_with fail
            go_ret
            exact ⟨by rw [HE5.out]; rfl, H6.out.2.2⟩
          go_wp2_with (first | (refine wpList_load_mid rfl 25 _ rfl w.heap.size 0 rfl D _ H6.out.1.range Tryz.underlying25 rfl HLI.out ?_) | (refine wpList_load_midG rfl 25 _ rfl w.heap.size 0 rfl D _ H6.out.1.range Tryz.underlying25 rfl HLI.out ?_) | fail)
          refine (HU2.out _ H6.out.2.2).mono ?_
          rintro e w7 ⟨rfl, b7⟩
          have H7 : Hid (LB w7 w.heap.size 25 D ∧ LB w7 (w.heap.size + 1) 60 (stl s) ∧ Below w.heap.size w w7) := K.out _ H6.out _ b7
          clear b7 HU2 H6 d0 d1
          have d0 := H7.out.2.1.cell 0 _ rfl
          have d1 := H7.out.2.1.cell 1 _ rfl
          cases u2
          case true =>
            go_wp2_with fail
            go_ret
            exact ⟨by rw [HE5.out]; rfl, H7.out.2.2⟩
          cases qq
          all_goals
            go_wp2_with fail
            go_ret
            exact ⟨by rw [HE5.out]; rfl, H7.out.2.2⟩
  case true =>
    have hue : s.u.toList.isEmpty = false := HUN
    clear HUN
    go_wp2_with fail
    refine (HN2.out _ H1.out.2.2).mono ?_
    rintro e wb ⟨rfl, bb2⟩
    have H2 : Hid (LB wb w.heap.size 25 D ∧ LB wb (w.heap.size + 1) 60 (stl s) ∧ Below w.heap.size w wb) := K.out _ H1.out _ bb2
    clear bb2 HN2 d0 d1 d2 H1
    cases n2
    case false =>
      go_wp2_with fail
      go_ret
      exact ⟨by rw [HE.out]; rfl, H2.out.2.2⟩
    go_upto_region 4 with fail
    refine wp_region_held_drew (S := fun w' : World => w'.cell? ⟨w.heap.size + 1, 1, none⟩ = some (.string s.u) ∧ w'.rangeAt w.heap.size 0 D) (by kernel_rfl) ⟨H2.out.2.1.cell 1 _ rfl, H2.out.1.range⟩ (fun hH => ?_)
    have H3 : Hid (LB wb.drew w.heap.size 25 D ∧ LB wb.drew (w.heap.size + 1) 60 (stl s) ∧ Below w.heap.size w wb.drew) := K.out _ H2.out _ (Below.drew (Below.refl _ _))
    clear H2
    generalize wb.drew = w3 at *
    refine zql 0 rfl (yieldsIf_load_mid (by rfl) _ _ rfl _ _ rfl D _ (fun w' hSw => hSw.2) Tryz.underlying25 rfl HLI.out) hH ?_
    simp only [Act.put, List.setIfInBounds_toArray, List.set_cons_zero, List.set_cons_succ, List.getElem_toArray, List.getElem_cons_zero]
    refine zqk 1 rfl hH ?_
    simp only [Act.put, List.setIfInBounds_toArray, List.set_cons_zero, List.set_cons_succ, List.getElem_toArray, List.getElem_cons_zero, List.getElem_cons_succ]
    refine zqk 3 rfl hH ?_
    simp only [Act.put, List.setIfInBounds_toArray, List.set_cons_zero, List.set_cons_succ, List.getElem_toArray, List.getElem_cons_zero, List.getElem_cons_succ]
    refine zqk 4 rfl hH ?_
    simp only [Act.put, List.setIfInBounds_toArray, List.set_cons_zero, List.set_cons_succ, List.getElem_toArray, List.getElem_cons_zero, List.getElem_cons_succ]
    refine zqk 5 rfl hH ?_
    simp only [Act.put, List.setIfInBounds_toArray, List.set_cons_zero, List.set_cons_succ, List.getElem_toArray, List.getElem_cons_zero, List.getElem_cons_succ]
    refine zqr 2 rfl (fun K2 hK => ?_)
    go_simp
    refine (HAH.out _).mono ?_
    rintro e w4 ⟨rfl, b4⟩
    have H4 : Hid (LB w4 w.heap.size 25 D ∧ LB w4 (w.heap.size + 1) 60 (stl s) ∧ Below w.heap.size w w4) := K.out _ H3.out _ b4
    clear b4 HAH H3
    refine hK.out _ _ ⟨H4.out.2.1.cell 1 _ rfl, H4.out.1.range⟩ (fun hH2 => ?_)
    clear hK K2 hH
    refine zqk 6 rfl hH2 ?_
    simp only [Act.put, List.setIfInBounds_toArray, List.set_cons_zero, List.set_cons_succ, List.getElem_toArray, List.getElem_cons_zero, List.getElem_cons_succ]
    refine wpAnyH_done (by kernel_rfl) ?_ _
    clear hH2
    cases ah
    case false =>
      go_wp2_with fail
      go_ret
      exact ⟨by rw [HE.out]; rfl, H4.out.2.2⟩
    go_wp2_with (first | (refine wpList_load_mid rfl 25 _ rfl w.heap.size 0 rfl D _ H4.out.1.range Tryz.underlying25 rfl HLI.out ?_) | fail)
    refine (HBH.out _).mono ?_
    rintro e w5 ⟨rfl, b5⟩
    have H5 : Hid (LB w5 w.heap.size 25 D ∧ LB w5 (w.heap.size + 1) 60 (stl s) ∧ Below w.heap.size w w5) := K.out _ H4.out _ b5
    clear b5 HBH H4
    have d0 := H5.out.2.1.cell 0 _ rfl
    have d1 := H5.out.2.1.cell 1 _ rfl
    have d2 := H5.out.2.1.cell 2 _ rfl
    have HWT : Hid (winP s.t 0 0 = decide (s.t = 0)) := by
      show _ = _
      unfold winP
      rw [← Bool.decide_and]
      exact decide_eq_decide.2 (by omega)
    cases bb
    case true =>
      by_cases ht : s.t = 0
      · have ht2 : (s.t != 0) = false := by rw [ht]; rfl
        have HE5 : Hid (R = if (u1 || u2 || qq) = true then 151 else 0) := by
          show R = _
          rw [HE.out]
          simp only [if_true, ht]
          rfl
        clear HE HWT ht
        go_wp2_with (first | (refine wpList_load_mid rfl 25 _ rfl w.heap.size 0 rfl D _ H5.out.1.range Tryz.underlying25 rfl HLI.out ?_) | fail)
        refine (HU1.out _ H5.out.2.2).mono ?_
        rintro e w6 ⟨rfl, b6⟩
        have H6 : Hid (LB w6 w.heap.size 25 D ∧ LB w6 (w.heap.size + 1) 60 (stl s) ∧ Below w.heap.size w w6) := K.out _ H5.out _ b6
        clear b6 HU1 H5 d0 d1 d2
        have d0 := H6.out.2.1.cell 0 _ rfl
        have d1 := H6.out.2.1.cell 1 _ rfl
        cases u1
        case true =>
          go_wp2_with fail
          go_ret
          exact ⟨by rw [HE5.out]; rfl, H6.out.2.2⟩
        go_wp2_with (first | (refine wpList_load_mid rfl 25 _ rfl w.heap.size 0 rfl D _ H6.out.1.range Tryz.underlying25 rfl HLI.out ?_) | (refine wpList_load_midG rfl 25 _ rfl w.heap.size 0 rfl D _ H6.out.1.range Tryz.underlying25 rfl HLI.out ?_) | fail)
        refine (HU2.out _ H6.out.2.2).mono ?_
        rintro e w7 ⟨rfl, b7⟩
        have H7 : Hid (LB w7 w.heap.size 25 D ∧ LB w7 (w.heap.size + 1) 60 (stl s) ∧ Below w.heap.size w w7) := K.out _ H6.out _ b7
        clear b7 HU2 H6 d0 d1
        have d0 := H7.out.2.1.cell 0 _ rfl
        have d1 := H7.out.2.1.cell 1 _ rfl
        cases u2
        case true =>
          go_wp2_with fail
          go_ret
          exact ⟨by rw [HE5.out]; rfl, H7.out.2.2⟩
        cases qq
        all_goals
          go_wp2_with fail
          go_ret
          exact ⟨by rw [HE5.out]; rfl, H7.out.2.2⟩
      · have ht2 : (s.t != 0) = true := by simp [ht]
        have HE5 : Hid (R = 34) := by
          show R = _
          rw [HE.out]
          simp only [if_true, HWT.out, decide_eq_false ht]
          rfl
        clear HE HWT ht
        go_wp2_with fail
        go_ret
        exact ⟨by rw [HE5.out]; rfl, H5.out.2.2⟩
    case false =>
      clear HWT
      by_cases ht : s.t < 1
      · have HE5 : Hid (R = 34) := by
          show R = _
          rw [HE.out]
          have e : winP s.t 1 1000 = false := by unfold winP; rw [decide_eq_false (by omega)]; rfl
          simp only [Bool.false_eq_true, if_false, e]
          rfl
        clear HE
        go_wp2_with fail
        go_ret
        exact ⟨by rw [HE5.out]; rfl, H5.out.2.2⟩
      · by_cases ht3 : s.t > 1000
        · have HE5 : Hid (R = 34) := by
            show R = _
            rw [HE.out]
            have e : winP s.t 1 1000 = false := by unfold winP; rw [decide_eq_false (show ¬ s.t ≤ 1000 by omega), Bool.and_false]
            simp only [Bool.false_eq_true, if_false, e]
            rfl
          clear HE
          go_wp2_with fail
          go_ret
          exact ⟨by rw [HE5.out]; rfl, H5.out.2.2⟩
        · have HE5 : Hid (R = if (u1 || u2 || qq) = true then 151 else 0) := by
            show R = _
            rw [HE.out]
            have e : winP s.t 1 1000 = true := by unfold winP; rw [decide_eq_true (by omega), decide_eq_true (by omega)]; rfl
            simp only [Bool.false_eq_true, if_false, e]
            rfl
          clear HE
          go_wp2_with (first | (refine wpList_load_mid rfl 25 _ rfl w.heap.size 0 rfl D _ H5.out.1.range Tryz.underlying25 rfl HLI.out ?_) | fail)
          refine (HU1.out _ H5.out.2.2).mono ?_
          rintro e w6 ⟨rfl, b6⟩
          have H6 : Hid (LB w6 w.heap.size 25 D ∧ LB w6 (w.heap.size + 1) 60 (stl s) ∧ Below w.heap.size w w6) := K.out _ H5.out _ b6
          clear b6 HU1 H5 d0 d1 d2
          have d0 := H6.out.2.1.cell 0 _ rfl
          have d1 := H6.out.2.1.cell 1 _ rfl
          cases u1
          case true =>
            go_wp2_with fail
            go_ret
            exact ⟨by rw [HE5.out]; rfl, H6.out.2.2⟩
          go_wp2_with (first | (refine wpList_load_mid rfl 25 _ rfl w.heap.size 0 rfl D _ H6.out.1.range Tryz.underlying25 rfl HLI.out ?_) | (refine wpList_load_midG rfl 25 _ rfl w.heap.size 0 rfl D _ H6.out.1.range Tryz.underlying25 rfl HLI.out ?_) | fail)
          refine (HU2.out _ H6.out.2.2).mono ?_
          rintro e w7 ⟨rfl, b7⟩
          have H7 : Hid (LB w7 w.heap.size 25 D ∧ LB w7 (w.heap.size + 1) 60 (stl s) ∧ Below w.heap.size w w7) := K.out _ H6.out _ b7
          clear b7 HU2 H6 d0 d1
          have d0 := H7.out.2.1.cell 0 _ rfl
          have d1 := H7.out.2.1.cell 1 _ rfl
          cases u2
          case true =>
            go_wp2_with fail
            go_ret
            exact ⟨by rw [HE5.out]; rfl, H7.out.2.2⟩
          cases qq
          all_goals
            go_wp2_with fail
            go_ret
            exact ⟨by rw [HE5.out]; rfl, H7.out.2.2⟩
end Go.Proofs.YtcnnpohnfoaceaaGreatDoor

/-
  The reference of plan: wrong, Check, Same.
-/
namespace Go.Proofs.YtcnnpohnfoaceaaGreatDoor
open Go Go.RowKit
open Wb

/-- no text of it is longer than that -/
structure PFt (p : Pln) : Prop where
  nm : p.nm.size ≤ 2000000
  d : ∀ s ∈ p.ss, s.d.size ≤ 2000000
  u : ∀ s ∈ p.ss, s.u.size ≤ 2000000
theorem PFt.fit {p : Pln} (h : PFt p) : PFit p := ⟨Nat.le_trans h.nm (by decide), fun s hs => Nat.le_trans (h.d s hs) (by decide), fun s hs => Nat.le_trans (h.u s hs) (by decide)⟩
/-- the number of the step that has the error, as the reference tells it -/
def rErr2 (p : Pln) : Int := if nmd p.nm = false then -1 else if p.ss.length = 0 then 32 else if 32 < p.ss.length then 32 else if winP p.piv 0 (p.ss.length : Int) = false then -1 else if (firstErr p 0 p.ss).1 ≠ 0 then (firstErr p 0 p.ss).2 else -1
set_option maxRecDepth 100000 in
set_option maxHeartbeats 8000000 in
theorem rpwrong_any (p : Pln) (v : Value) (w : World) (h : StsAt w v p.ss) (hT : Text.TabP 1 .i64 Text.Tx.lets w) (hF : PFt p) :
    Calls Tryz.prog 23 #[plv p v] w fun e w' => e = .returned (.tuple #[.int .i64 (fErr p).1, .int .i64 (rErr2 p)]) ∧ Below w.heap.size w w' := by
  have HNM : Hid (∀ w', Below w.heap.size w w' → Calls Tryz.prog 44 #[.string p.nm] w' fun e w'' => e = .returned (.bool (nmd p.nm)) ∧ Below w'.heap.size w' w'') := fun w' hb => rplabel_any p.nm w' hF.nm (hT.kept hb)
  have HSF : Hid (∀ (i : Nat) (s : Stp) w', Below w.heap.size w w' → p.ss[i]? = some s → i < 1000 → Calls Tryz.prog 45 #[plv p v, .int .i64 (i : Int)] w' fun e w'' => e = .returned (.int .i64 (stepErr p i s)) ∧ Below w'.heap.size w' w'') := fun i s w' hb hs hi => rpstep_any p v i s w' hs (h.kept hb) (hT.kept hb) (hF.d s (List.mem_of_getElem? hs)) (hF.u s (List.mem_of_getElem? hs)) hi
  obtain ⟨ao, cap, rfl, h1, h2, -⟩ := h
  unfold maxLen at h2
  obtain ⟨R, hR⟩ : ∃ R : Int × Int, ((fErr p).1, rErr2 p) = R := ⟨_, rfl⟩
  have HR : Hid (((if nmd p.nm = false then (35, 0) else if p.ss.length = 0 then (153, 0) else if 32 < p.ss.length then (153, 32) else if winP p.piv 0 (p.ss.length : Int) = false then (34, 0) else firstErr p 0 p.ss).1, if nmd p.nm = false then -1 else if p.ss.length = 0 then 32 else if 32 < p.ss.length then 32 else if winP p.piv 0 (p.ss.length : Int) = false then -1 else if (firstErr p 0 p.ss).1 ≠ 0 then (firstErr p 0 p.ss).2 else -1) = R) := hR
  have hR1 : (fErr p).1 = R.1 := by rw [← hR]
  have hR2 : rErr2 p = R.2 := by rw [← hR]
  rw [hR1, hR2]
  clear hR hR1 hR2
  generalize nmd p.nm = n1 at *
  have HWP : Hid (winP p.piv 0 (p.ss.length : Int) = (decide (0 ≤ p.piv) && decide (p.piv ≤ (p.ss.length : Int)))) := rfl
  have HX : Hid (LB (w.alloc (.cells (plvl p (.slice ao p.ss.length cap)).toArray 25)) w.heap.size 25 (plvl p (.slice ao p.ss.length cap)) ∧ Below w.heap.size w (w.alloc (.cells (plvl p (.slice ao p.ss.length cap)).toArray 25))) := ⟨lb_new w _ _, up0 _ _⟩
  have hpl : plv p (.slice ao p.ss.length cap) = .agg (plvl p (.slice ao p.ss.length cap)).toArray := rfl
  have HLI : Hid ((Tryz.prog.info? 25).map (·.size) = some (plvl p (.slice ao p.ss.length cap)).length) := infoPlan
  have HDC : Hid (∀ W, LB W w.heap.size 25 (plvl p (.slice ao p.ss.length cap)) → W.cell? ⟨w.heap.size, 0, none⟩ = some (.string p.nm) ∧ W.cell? ⟨w.heap.size, 1, none⟩ = some (.int .i64 p.piv) ∧ W.cell? ⟨w.heap.size, 2, none⟩ = some (.slice ao p.ss.length cap)) := fun W l => ⟨l.cell 0 _ rfl, l.cell 1 _ rfl, l.cell 2 _ rfl⟩
  rw [hpl]
  rw [hpl] at HSF
  clear hpl hF hT
  generalize plvl p (.slice ao p.ss.length cap) = D at *
  go_enter Tryz.func23, Tryz.ntmps23
  obtain ⟨c0, c1, c2⟩ := HDC.out _ HX.out.1
  go_wp2_with fail
  refine (HNM.out _ HX.out.2).mono ?_
  rintro e w1 ⟨rfl, b1⟩
  have H1 : Hid (LB w1 w.heap.size 25 D ∧ Below w.heap.size w w1) := ⟨HX.out.1.kept b1, andThen HX.out.2 b1⟩
  clear c0 c1 c2 b1 HX HNM
  obtain ⟨c0, c1, c2⟩ := HDC.out _ H1.out.1
  cases n1
  case false =>
    go_wp2
    go_ret2
    exact ⟨by rw [← HR.out]; rfl, H1.out.2⟩
  by_cases hz : p.ss.length = 0
  · have HR2 : Hid (R = (153, 32)) := by show _ = _; rw [← HR.out, hz]; rfl
    rw [hz] at c2
    go_wp2
    go_ret2
    exact ⟨by rw [HR2.out]; rfl, H1.out.2⟩
  have hz2 : ((p.ss.length : Int) == 0) = false := by rw [beq_eq_false_iff_ne]; omega
  by_cases hg : 32 < p.ss.length
  · have HR2 : Hid (R = (153, 32)) := by
      show _ = _
      rw [← HR.out]
      simp only [Bool.true_eq_false, hz, hg, if_true, if_false]
    go_wp2
    go_ret2
    exact ⟨by rw [HR2.out]; rfl, H1.out.2⟩
  have HR2 : Hid (((if winP p.piv 0 (p.ss.length : Int) = false then (34, 0) else firstErr p 0 p.ss).1, if winP p.piv 0 (p.ss.length : Int) = false then -1 else if (firstErr p 0 p.ss).1 ≠ 0 then (firstErr p 0 p.ss).2 else -1) = R) := by
    have e := HR.out
    simp only [Bool.true_eq_false, hz, hg, if_false] at e
    exact e
  clear HR
  by_cases hp1 : p.piv < 0
  · have HR3 : Hid (R = (34, -1)) := by
      show _ = _
      rw [← HR2.out, HWP.out, decide_eq_false (show ¬ 0 ≤ p.piv by omega)]
      rfl
    clear HR2 HWP
    go_wp2
    go_ret2
    exact ⟨by rw [HR3.out]; rfl, H1.out.2⟩
  by_cases hp2 : p.piv > (p.ss.length : Int)
  · have HR3 : Hid (R = (34, -1)) := by
      show _ = _
      rw [← HR2.out, HWP.out, decide_eq_false (show ¬ p.piv ≤ (p.ss.length : Int) by omega), Bool.and_false]
      rfl
    clear HR2 HWP
    go_wp2
    go_ret2
    exact ⟨by rw [HR3.out]; rfl, H1.out.2⟩
  have HR3 : Hid (((firstErr p 0 p.ss).1, if (firstErr p 0 p.ss).1 ≠ 0 then (firstErr p 0 p.ss).2 else -1) = R) := by
    have e := HR2.out
    rw [HWP.out, decide_eq_true (show 0 ≤ p.piv by omega), decide_eq_true (show p.piv ≤ (p.ss.length : Int) by omega)] at e
    exact e
  clear HR2 HWP
  go_wp2_with fail
  go_loopw [4] (fun i wr => ∃ k : Nat, k ≤ p.ss.length ∧ i = .int .i64 (k : Int) ∧ ((firstErr p k (p.ss.drop k)).1, if (firstErr p k (p.ss.drop k)).1 ≠ 0 then (firstErr p k (p.ss.drop k)).2 else -1) = R ∧ LB wr w.heap.size 25 D ∧ Below w.heap.size w wr) (fun i _ => p.ss.length - (intOf i).toNat)
  case atStart => exact ⟨0, Nat.zero_le _, rfl, HR3.out, H1.out.1, H1.out.2⟩
  case round =>
    obtain ⟨k, hk, rfl, hr, hl, hbl⟩ := hrel
    have HW : Hid (((firstErr p k (p.ss.drop k)).1, if (firstErr p k (p.ss.drop k)).1 ≠ 0 then (firstErr p k (p.ss.drop k)).2 else -1) = R ∧ LB wr w.heap.size 25 D ∧ Below w.heap.size w wr) := ⟨hr, hl, hbl⟩
    clear hr hl hbl c0 c1 c2 H1 HR3
    obtain ⟨c0, c1, c2⟩ := HDC.out _ HW.out.2.1
    by_cases hlt : k < p.ss.length
    · have HE : Hid (((if stepErr p k p.ss[k] ≠ 0 then (stepErr p k p.ss[k], (k : Int)) else firstErr p (k + 1) (p.ss.drop (k + 1))).1, if (if stepErr p k p.ss[k] ≠ 0 then (stepErr p k p.ss[k], (k : Int)) else firstErr p (k + 1) (p.ss.drop (k + 1))).1 ≠ 0 then (if stepErr p k p.ss[k] ≠ 0 then (stepErr p k p.ss[k], (k : Int)) else firstErr p (k + 1) (p.ss.drop (k + 1))).2 else -1) = R) := by
        show _ = _
        have e := HW.out.1
        rw [List.drop_eq_getElem_cons hlt, firstErr] at e
        exact e
      have HC : Hid (Calls Tryz.prog 45 #[.agg D.toArray, .int .i64 (k : Int)] wr fun e w'' => e = .returned (.int .i64 (stepErr p k p.ss[k])) ∧ Below wr.heap.size wr w'') := HSF.out k p.ss[k] wr HW.out.2.2 (List.getElem?_eq_getElem hlt) (by omega)
      generalize stepErr p k p.ss[k] = E at *
      go_wp2_with (first | (refine wpList_load_mid rfl 25 _ rfl w.heap.size 0 rfl D _ HW.out.2.1.range Tryz.underlying25 rfl HLI.out ?_) | fail)
      refine HC.out.mono ?_
      rintro e w3 ⟨rfl, b3⟩
      have H3 : Hid (LB w3 w.heap.size 25 D ∧ Below w.heap.size w w3) := ⟨HW.out.2.1.kept b3, andThen HW.out.2.2 b3⟩
      clear b3 c0 c1 c2 HC
      by_cases he : E = 0
      · have he2 : (E != 0) = false := by rw [he]; rfl
        have HE2 : Hid (((firstErr p (k + 1) (p.ss.drop (k + 1))).1, if (firstErr p (k + 1) (p.ss.drop (k + 1))).1 ≠ 0 then (firstErr p (k + 1) (p.ss.drop (k + 1))).2 else -1) = R) := by
          have e := HE.out
          rw [if_neg (show ¬ E ≠ 0 by simpa using he)] at e
          exact e
        clear he HE
        go_wp2_with fail
        go_roundw
        case rel => exact ⟨k + 1, by omega, by simp, HE2.out, H3.out.1, H3.out.2⟩
        case measure => simp [intOf]; omega
      · have he2 : (E != 0) = true := by simpa using he
        have HE2 : Hid (R = (E, (k : Int))) := by
          have e := HE.out
          rw [if_pos he, if_pos he] at e
          exact e.symm
        clear he HE
        go_wp2_with fail
        go_ret2
        exact ⟨by rw [HE2.out]; rfl, H3.out.2⟩
    · obtain rfl : k = p.ss.length := by omega
      have HE2 : Hid (R = (0, -1)) := by show _ = _; rw [← HW.out.1, List.drop_length]; rfl
      go_wp2_with fail
      go_ret2
      exact ⟨by rw [HE2.out]; rfl, HW.out.2.2⟩
theorem rpcheck_any (p : Pln) (v : Value) (w : World) (h : StsAt w v p.ss) (hT : Text.TabP 1 .i64 Text.Tx.lets w) (hF : PFt p) :
    Calls Tryz.prog 28 #[plv p v] w fun e w' => e = .returned (.int .i64 (fErr p).1) ∧ Below w.heap.size w w' := by
  have HFA0 : ∀ w', Below w.heap.size w w' → Calls Tryz.prog 23 #[plv p v] w' fun e w'' => e = .returned (.tuple #[.int .i64 (fErr p).1, .int .i64 (rErr2 p)]) ∧ Below w'.heap.size w' w'' := fun w' hb => rpwrong_any p v w' (h.kept hb) (hT.kept hb) hF
  obtain ⟨D, hD, hL, -⟩ := plv_letter p v
  rw [hD] at HFA0 ⊢
  have HFA : Hid _ := HFA0
  have HL : Hid _ := hL
  have HX : Hid (LB (w.alloc (.cells D.toArray 25)) w.heap.size 25 D ∧ Below w.heap.size w (w.alloc (.cells D.toArray 25))) := ⟨lb_new w D _, up0 _ _⟩
  generalize (fErr p).1 = r1 at *
  generalize rErr2 p = r2 at *
  clear hD hL HFA0 h hT hF
  go_enter Tryz.func28, Tryz.ntmps28
  go_wp2_with (first | (refine wpList_load_mid rfl 25 _ rfl w.heap.size 0 rfl D _ HX.out.1.range Tryz.underlying25 rfl HL.out ?_) | fail)
  refine (HFA.out _ HX.out.2).mono ?_
  rintro e w1 ⟨rfl, b1⟩
  have H1 : Hid (Below w.heap.size w w1) := andThen HX.out.2 b1
  clear b1 HX HFA
  go_wp2_with fail
  go_ret
  exact ⟨rfl, H1.out⟩
set_option maxRecDepth 100000 in
set_option maxHeartbeats 8000000 in
/-- two plans that say the same -/
theorem rpsame_yes (p : Pln) (v v' : Value) (w : World) (h : StsAt w v p.ss) (h' : StsAt w v' p.ss) :
    Calls Tryz.prog 8 #[plv p v, plv p v'] w fun e w' => e = .returned (.bool true) ∧ Below w.heap.size w w' := by
  have HS : Hid (∀ w', Below w.heap.size w w' → StsAt w' v p.ss ∧ StsAt w' v' p.ss) := fun w' hb => ⟨h.kept hb, h'.kept hb⟩
  obtain ⟨ao, cap, rfl, h1, h2, -⟩ := h
  obtain ⟨ao', cap', rfl, h1', h2', -⟩ := h'
  unfold maxLen at h2 h2'
  have HX : Hid (LB ((w.alloc (.cells (plvl p (.slice ao p.ss.length cap)).toArray 25)).alloc (.cells (plvl p (.slice ao' p.ss.length cap')).toArray 25)) w.heap.size 25 (plvl p (.slice ao p.ss.length cap)) ∧ LB ((w.alloc (.cells (plvl p (.slice ao p.ss.length cap)).toArray 25)).alloc (.cells (plvl p (.slice ao' p.ss.length cap')).toArray 25)) (w.heap.size + 1) 25 (plvl p (.slice ao' p.ss.length cap')) ∧ Below w.heap.size w ((w.alloc (.cells (plvl p (.slice ao p.ss.length cap)).toArray 25)).alloc (.cells (plvl p (.slice ao' p.ss.length cap')).toArray 25))) := lb_new2 w _ _ _ _
  have hpl : plv p (.slice ao p.ss.length cap) = .agg (plvl p (.slice ao p.ss.length cap)).toArray := rfl
  have hpl' : plv p (.slice ao' p.ss.length cap') = .agg (plvl p (.slice ao' p.ss.length cap')).toArray := rfl
  rw [hpl, hpl']
  have HD : Hid (∀ W, LB W w.heap.size 25 (plvl p (.slice ao p.ss.length cap)) → W.cell? ⟨w.heap.size, 0, none⟩ = some (.string p.nm) ∧ W.cell? ⟨w.heap.size, 1, none⟩ = some (.int .i64 p.piv) ∧ W.cell? ⟨w.heap.size, 2, none⟩ = some (.slice ao p.ss.length cap)) := fun W l => ⟨l.cell 0 _ rfl, l.cell 1 _ rfl, l.cell 2 _ rfl⟩
  have HD' : Hid (∀ W, LB W (w.heap.size + 1) 25 (plvl p (.slice ao' p.ss.length cap')) → W.cell? ⟨w.heap.size + 1, 0, none⟩ = some (.string p.nm) ∧ W.cell? ⟨w.heap.size + 1, 1, none⟩ = some (.int .i64 p.piv) ∧ W.cell? ⟨w.heap.size + 1, 2, none⟩ = some (.slice ao' p.ss.length cap')) := fun W l => ⟨l.cell 0 _ rfl, l.cell 1 _ rfl, l.cell 2 _ rfl⟩
  clear hpl hpl'
  generalize plvl p (.slice ao p.ss.length cap) = D at *
  generalize plvl p (.slice ao' p.ss.length cap') = D' at *
  have hnm : (p.nm.toList == p.nm.toList) = true := by simp
  have hpv : (p.piv != p.piv) = false := by simp
  go_enter Tryz.func8, Tryz.ntmps8
  obtain ⟨c0, c1, c2⟩ := HD.out _ HX.out.1
  obtain ⟨c0', c1', c2'⟩ := HD'.out _ HX.out.2.1
  go_wp2_with fail
  go_loopw [5] (fun i wr => ∃ k : Nat, k ≤ p.ss.length ∧ i = .int .i64 (k : Int) ∧ LB wr w.heap.size 25 D ∧ LB wr (w.heap.size + 1) 25 D' ∧ Below w.heap.size w wr) (fun i _ => p.ss.length - (intOf i).toNat)
  case atStart => exact ⟨0, Nat.zero_le _, rfl, HX.out.1, HX.out.2.1, HX.out.2.2⟩
  case round =>
    obtain ⟨k, hk, rfl, hl, hl', hbl⟩ := hrel
    have HW : Hid (LB wr w.heap.size 25 D ∧ LB wr (w.heap.size + 1) 25 D' ∧ Below w.heap.size w wr) := ⟨hl, hl', hbl⟩
    clear hl hl' hbl c0 c1 c2 c0' c1' c2' HX
    obtain ⟨-, -, c2⟩ := HD.out _ HW.out.1
    obtain ⟨-, -, c2'⟩ := HD'.out _ HW.out.2.1
    by_cases hlt : k < p.ss.length
    · obtain ⟨⟨a, q, e, -, -, hc⟩, ⟨a', q', e', -, -, hc'⟩⟩ := HS.out wr HW.out.2.2
      simp only [Value.slice.injEq, true_and] at e e'
      obtain ⟨rfl, rfl⟩ := e
      obtain ⟨rfl, rfl⟩ := e'
      obtain ⟨b, off, rfl, hr⟩ := hc k p.ss[k] (List.getElem?_eq_getElem hlt)
      obtain ⟨b', off', rfl, hr'⟩ := hc' k p.ss[k] (List.getElem?_eq_getElem hlt)
      have x0 := hr 0 _ rfl
      have x1 := hr 1 _ rfl
      have x2 := hr 2 _ rfl
      have y0 := hr' 0 _ rfl
      have y1 := hr' 1 _ rfl
      have y2 := hr' 2 _ rfl
      rw [Nat.add_zero] at x0 y0
      have hkk : (0 : Int) ≤ (k : Int) ∧ (k : Int) < (p.ss.length : Int) := by omega
      obtain ⟨hk1, hk2⟩ := hkk
      clear hc hc' hr hr'
      go_upto_region 6 with fail
      go_region
      go_wp2_with fail
      refine ⟨⟨k + 1, by omega, by simp, HW.out.1.kept (Below.drew (Below.refl _ _)), HW.out.2.1.kept (Below.drew (Below.refl _ _)), HW.out.2.2.drew⟩, ?_⟩
      simp [intOf]
      omega
    · obtain rfl : k = p.ss.length := by omega
      go_wp2_with fail
      go_ret
      exact ⟨rfl, HW.out.2.2⟩
end Go.Proofs.YtcnnpohnfoaceaaGreatDoor
