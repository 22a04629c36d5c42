import Derived.Test.YtlippoipjipcbaaGreatDoorQP7
/-
  PlanOneWay.
-/
namespace Go.Proofs.YtlippoipjipcbaaGreatDoor
open Go Go.RowKit
open Wb
open Text.Tx (Wd wdc wds wordP wdA)

set_option maxRecDepth 100000 in
set_option maxHeartbeats 8000000 in
/-- two plans that say the same -/
theorem plequal_yes (p : Pln) (v v' : Value) (w : World) (h : StsAt w v p.ss) (h' : StsAt w v' p.ss) :
    Calls Tryz.prog 12 #[plv p v, plv p v'] w fun e w' => e = .returned (.bool true) ∧ Below w.heap.size w w' := by
  have HS : Hid (∀ w', Below w.heap.size w w' → StsAt w' v p.ss ∧ StsAt w' v' p.ss) := fun w' hb => ⟨h.kept hb, h'.kept hb⟩
  obtain ⟨ao, cap, rfl, h1, h2, -⟩ := h
  obtain ⟨ao', cap', rfl, h1', h2', -⟩ := h'
  unfold maxLen at h2 h2'
  have HX : Hid (LB ((w.alloc (.cells (plvl p (.slice ao p.ss.length cap)).toArray 24)).alloc (.cells (plvl p (.slice ao' p.ss.length cap')).toArray 24)) w.heap.size 24 (plvl p (.slice ao p.ss.length cap)) ∧ LB ((w.alloc (.cells (plvl p (.slice ao p.ss.length cap)).toArray 24)).alloc (.cells (plvl p (.slice ao' p.ss.length cap')).toArray 24)) (w.heap.size + 1) 24 (plvl p (.slice ao' p.ss.length cap')) ∧ Below w.heap.size w ((w.alloc (.cells (plvl p (.slice ao p.ss.length cap)).toArray 24)).alloc (.cells (plvl p (.slice ao' p.ss.length cap')).toArray 24))) := lb_new2 w _ _ _ _
  have hpl : plv p (.slice ao p.ss.length cap) = .agg (plvl p (.slice ao p.ss.length cap)).toArray := rfl
  have hpl' : plv p (.slice ao' p.ss.length cap') = .agg (plvl p (.slice ao' p.ss.length cap')).toArray := rfl
  rw [hpl, hpl']
  have HD : Hid (∀ W, LB W w.heap.size 24 (plvl p (.slice ao p.ss.length cap)) → W.cell? ⟨w.heap.size, 0, none⟩ = some (.string p.nm) ∧ W.cell? ⟨w.heap.size, 1, none⟩ = some (.int .i64 p.piv) ∧ W.cell? ⟨w.heap.size, 2, none⟩ = some (.slice ao p.ss.length cap)) := fun W l => ⟨l.cell 0 _ rfl, l.cell 1 _ rfl, l.cell 2 _ rfl⟩
  have HD' : Hid (∀ W, LB W (w.heap.size + 1) 24 (plvl p (.slice ao' p.ss.length cap')) → W.cell? ⟨w.heap.size + 1, 0, none⟩ = some (.string p.nm) ∧ W.cell? ⟨w.heap.size + 1, 1, none⟩ = some (.int .i64 p.piv) ∧ W.cell? ⟨w.heap.size + 1, 2, none⟩ = some (.slice ao' p.ss.length cap')) := fun W l => ⟨l.cell 0 _ rfl, l.cell 1 _ rfl, l.cell 2 _ rfl⟩
  clear hpl hpl'
  generalize plvl p (.slice ao p.ss.length cap) = D at *
  generalize plvl p (.slice ao' p.ss.length cap') = D' at *
  have hnm : (p.nm.toList == p.nm.toList) = true := by simp
  have hpv : (p.piv != p.piv) = false := by simp
  go_enter Tryz.func12, Tryz.ntmps12
  obtain ⟨c0, c1, c2⟩ := HD.out _ HX.out.1
  obtain ⟨c0', c1', c2'⟩ := HD'.out _ HX.out.2.1
  go_wp2_with fail
  go_loopw [5] (fun i wr => ∃ k : Nat, k ≤ p.ss.length ∧ i = .int .i64 (k : Int) ∧ LB wr w.heap.size 24 D ∧ LB wr (w.heap.size + 1) 24 D' ∧ Below w.heap.size w wr) (fun i _ => p.ss.length - (intOf i).toNat)
  case atStart => exact ⟨0, Nat.zero_le _, rfl, HX.out.1, HX.out.2.1, HX.out.2.2⟩
  case round =>
    obtain ⟨k, hk, rfl, hl, hl', hbl⟩ := hrel
    have HW : Hid (LB wr w.heap.size 24 D ∧ LB wr (w.heap.size + 1) 24 D' ∧ Below w.heap.size w wr) := ⟨hl, hl', hbl⟩
    clear hl hl' hbl c0 c1 c2 c0' c1' c2' HX
    obtain ⟨-, -, c2⟩ := HD.out _ HW.out.1
    obtain ⟨-, -, c2'⟩ := HD'.out _ HW.out.2.1
    by_cases hlt : k < p.ss.length
    · obtain ⟨⟨a, q, e, -, -, hc⟩, ⟨a', q', e', -, -, hc'⟩⟩ := HS.out wr HW.out.2.2
      simp only [Value.slice.injEq, true_and] at e e'
      obtain ⟨rfl, rfl⟩ := e
      obtain ⟨rfl, rfl⟩ := e'
      obtain ⟨b, off, rfl, hr⟩ := hc k p.ss[k] (List.getElem?_eq_getElem hlt)
      obtain ⟨b', off', rfl, hr'⟩ := hc' k p.ss[k] (List.getElem?_eq_getElem hlt)
      have x0 := hr 0 _ rfl
      have x1 := hr 1 _ rfl
      have x2 := hr 2 _ rfl
      have y0 := hr' 0 _ rfl
      have y1 := hr' 1 _ rfl
      have y2 := hr' 2 _ rfl
      rw [Nat.add_zero] at x0 y0
      have hkk : (0 : Int) ≤ (k : Int) ∧ (k : Int) < (p.ss.length : Int) := by omega
      obtain ⟨hk1, hk2⟩ := hkk
      clear hc hc' hr hr'
      go_upto_region 6 with fail
      go_region
      go_wp2_with fail
      refine ⟨⟨k + 1, by omega, by simp, HW.out.1.kept (Below.drew (Below.refl _ _)), HW.out.2.1.kept (Below.drew (Below.refl _ _)), HW.out.2.2.drew⟩, ?_⟩
      simp [intOf]
      omega
    · obtain rfl : k = p.ss.length := by omega
      go_wp2_with fail
      go_ret
      exact ⟨rfl, HW.out.2.2⟩
/-- the words' places lie in the line -/
def At (M : Nat) (ws : List Wd) : Prop := ∀ d ∈ ws, 0 ≤ d.at_ ∧ d.at_ ≤ (M : Int)
def RAt (M : Nat) (R : RdP) : Prop := ∀ a ∈ R.ats, 0 ≤ a ∧ a ≤ (M : Int)
theorem wordP_in (s : ByteArray) (i : Nat) (h : i < s.size) : (∀ d e, wordP s i = .inl (d, e) → d.at_ = (i : Int)) ∧ ∀ ep, wordP s i = .inr ep → 0 ≤ ep.2 ∧ ep.2 ≤ (s.size : Int) := by
  have hn : ∀ m, 0 ≤ (Text.Tx.nmA (s.extract i m)).2 ∧ (i : Int) + (Text.Tx.nmA (s.extract i m)).2 ≤ (s.size : Int) := fun m => by
    have q := Text.nmA_place (s.extract i m)
    have q2 : ((s.extract i m).size : Int) ≤ (s.size : Int) - i := by
      rw [ByteArray.size_extract]
      omega
    omega
  unfold wordP
  refine ⟨fun d e hw => ?_, fun ep hw => ?_⟩
  · split at hw
    · split at hw
      · cases hw
      · injection hw with hw; injection hw with hw _; subst hw; rfl
    split at hw
    · split at hw
      · cases hw
      split at hw
      · cases hw
      · injection hw with hw; injection hw with hw _; subst hw; rfl
    split at hw
    · split at hw
      · cases hw
      · injection hw with hw; injection hw with hw _; subst hw; rfl
    split at hw
    · injection hw with hw; injection hw with hw _; subst hw; rfl
    · cases hw
  · split at hw
    · split at hw
      · injection hw with hw; subst hw
        have := hn (Text.Tx.nEnd s i)
        simp only
        omega
      · cases hw
    split at hw
    · split at hw
      · injection hw with hw; subst hw; simp only; omega
      split at hw
      · injection hw with hw; subst hw; simp only; omega
      · cases hw
    split at hw
    · split at hw
      · injection hw with hw; subst hw; simp only; omega
      · cases hw
    split at hw
    · cases hw
    · injection hw with hw; subst hw; simp only; omega
theorem wds_at (s : ByteArray) : ∀ (n i : Nat), s.size - i ≤ n → At s.size (wds s i).1 ∧ 0 ≤ (wds s i).2.2 ∧ (wds s i).2.2 ≤ (s.size : Int) := by
  intro n
  induction n with
  | zero => intro i hi; rw [Text.Tx.wds_out s i (by omega)]; exact ⟨fun d hd => (by cases hd), by simp, by simp⟩
  | succ n ih =>
    intro i hi
    by_cases h : i < s.size
    · have hw := wordP_in s i h
      rw [wds, dif_pos h]
      split
      · exact ⟨fun d hd => (by cases hd), by simp, by simp⟩
      split
      · exact ih (i + 1) (by omega)
      split
      · rename_i ep he
        have := hw.2 ep he
        exact ⟨fun d hd => (by cases hd), this.1, this.2⟩
      · rename_i d e he
        have hd0 := hw.1 d e he
        have h1 : i + 1 ≤ max e (i + 1) := Nat.le_max_right _ _
        generalize max e (i + 1) = m at *
        have q := ih m (by omega)
        split
        · rename_i h2
          refine ⟨fun d hd => (by cases hd), ?_, ?_⟩
          · simp only; omega
          · simp only; omega
        split
        · refine ⟨fun x hx => ?_, by simp, by simp⟩
          rcases List.mem_cons.1 hx with rfl | hx
          · rw [hd0]; omega
          · exact q.1 x hx
        · exact ⟨fun d hd => (by cases hd), q.2.1, q.2.2⟩
    · rw [Text.Tx.wds_out s i h]; exact ⟨fun d hd => (by cases hd), by simp, by simp⟩
theorem At.take {M : Nat} {k : Int} {ws r : List Wd} {d : Wd} (h : At M ws) (e : takeP k ws = some (d, r)) : At M r ∧ 0 ≤ d.at_ ∧ d.at_ ≤ (M : Int) := by
  obtain ⟨rfl, hd⟩ := takeP_len e
  exact ⟨fun x hx => h x (List.mem_cons_of_mem _ hx), h d (List.mem_cons_self ..)⟩
theorem At.sign {M : Nat} {t : ByteArray} {ws r : List Wd} (h : At M ws) (e : signP t ws = some r) : At M r := by
  obtain ⟨d, rfl, -⟩ := signP_len e
  exact fun x hx => h x (List.mem_cons_of_mem _ hx)
theorem At.tries {M : Nat} {t : Int} {ws : List Wd} (h : At M ws) : (∀ t' r, triesP t ws = .ok (t', r) → At M r) ∧ ∀ r, triesP t ws = .error r → At M r := by
  unfold triesP
  refine ⟨fun t' r e => ?_, fun r e => ?_⟩
  · split at e
    · injection e with e; injection e with _ e; subst e; exact h
    · rename_i w2 h1
      split at e
      · cases e
      · rename_i d w3 h2
        injection e with e; injection e with _ e; subst e
        exact ((h.sign h1).take h2).1
  · split at e
    · cases e
    · rename_i w2 h1
      split at e
      · injection e with e; subst e; exact h.sign h1
      · cases e
theorem At.ending {M : Nat} {pv : Int} {n : Nat} {ws : List Wd} (h : At M ws) : (∀ x, endP pv n ws = .ok x → At M x.2.2) ∧ ∀ r, endP pv n ws = .error r → At M r := by
  unfold endP
  refine ⟨fun x e => ?_, fun r e => ?_⟩
  · split at e
    · rename_i w2 h1
      injection e with e; subst e
      split at h1
      · exact h.sign h1
      · cases h1
    · split at e
      · injection e with e; subst e; exact h
      · rename_i w2 h1
        split at e
        · cases e
        · rename_i d w3 h2
          injection e with e; subst e
          exact ((h.sign h1).take h2).1
  · split at e
    · cases e
    · split at e
      · cases e
      · rename_i w2 h1
        split at e
        · injection e with e; subst e; exact h.sign h1
        · cases e
theorem At.step {M : Nat} {R : RdP} {ws : List Wd} (h : At M ws) (hR : RAt M R) : (∀ x, stepP R ws = .ok x → At M x.2 ∧ RAt M x.1) ∧ ∀ r, stepP R ws = .error r → At M r := by
  unfold stepP
  refine ⟨fun x e => ?_, fun r e => ?_⟩
  · split at e
    · cases e
    · rename_i d w1 h1
      split at e
      · cases e
      · rename_i t w2 h2
        split at e
        · cases e
        · rename_i u pv w3 h3
          injection e with e; subst e
          have q1 := h.take h1
          have q2 := q1.1.tries.1 _ _ h2
          have q3 := q2.ending.1 _ h3
          refine ⟨q3, fun a ha => ?_⟩
          rcases List.mem_append.1 ha with ha | ha
          · exact hR a ha
          · rw [List.mem_singleton.1 ha]
            exact q1.2
  · split at e
    · injection e with e; subst e; exact h
    · rename_i d w1 h1
      have q1 := h.take h1
      split at e
      · rename_i e2 h2
        injection e with e; subst e
        exact q1.1.tries.2 _ h2
      · rename_i t w2 h2
        have q2 := q1.1.tries.1 _ _ h2
        split at e
        · rename_i e3 h3
          injection e with e; subst e
          exact q2.ending.2 _ h3
        · cases e
theorem At.steps {M : Nat} : ∀ (f : Nat) (R : RdP) (ws : List Wd), At M ws → RAt M R → (∀ R', stepsP f R ws = .ok R' → RAt M R') ∧ ∀ r, stepsP f R ws = .error r → At M r
  | 0, _, ws, h, _ => ⟨fun _ e => (by cases e), fun r e => by rw [stepsP] at e; injection e with e; subst e; exact h⟩
  | f + 1, R, [], _, hR => ⟨fun R2 e => (by rw [stepsP] at e; injection e with e; subst e; exact hR), fun r e => by rw [stepsP] at e; cases e⟩
  | f + 1, R, d :: r, h, hR => by
    refine ⟨fun R' e => ?_, fun r2 e => ?_⟩
    · rw [stepsP] at e
      split at e
      · cases e
      · rename_i w1 h1
        split at e
        · cases e
        · rename_i R2 w2 h2
          have q := (h.sign h1).step hR |>.1 _ h2
          exact (At.steps f R2 w2 q.1 q.2).1 _ e
    · rw [stepsP] at e
      split at e
      · injection e with e; subst e; exact h
      · rename_i w1 h1
        split at e
        · rename_i e2 h2
          injection e with e; subst e
          exact ((h.sign h1).step hR).2 _ h2
        · rename_i R2 w2 h2
          have q := (h.sign h1).step hR |>.1 _ h2
          exact (At.steps f R2 w2 q.1 q.2).2 _ e
theorem whole_at {M : Nat} {ws : List Wd} (h : At M ws) : (∀ x, wholeP ws = .ok x → RAt M x.2) ∧ ∀ r, wholeP ws = .error r → At M r := by
  have h0 : RAt M ⟨0, [], []⟩ := fun a ha => by cases ha
  unfold wholeP
  refine ⟨fun x e => ?_, fun r e => ?_⟩
  · split at e
    · cases e
    · rename_i d w1 h1
      split at e
      · cases e
      · rename_i w2 h2
        split at e
        · cases e
        · rename_i R w3 h3
          split at e
          · cases e
          · rename_i R2 h4
            injection e with e; subst e
            have q := (((h.take h1).1.sign h2).step h0).1 _ h3
            exact (At.steps _ _ _ q.1 q.2).1 _ h4
  · split at e
    · injection e with e; subst e; exact h
    · rename_i d w1 h1
      split at e
      · injection e with e; subst e; exact (h.take h1).1
      · rename_i w2 h2
        split at e
        · rename_i e3 h3
          injection e with e; subst e
          exact (((h.take h1).1.sign h2).step h0).2 _ h3
        · rename_i R w3 h3
          have q := (((h.take h1).1.sign h2).step h0).1 _ h3
          split at e
          · rename_i e4 h4
            injection e with e; subst e
            exact (At.steps _ _ _ q.1 q.2).2 _ h4
          · cases e
theorem wdA_at (s : ByteArray) : At s.size (wdA s).1 ∧ 0 ≤ (wdA s).2.2 ∧ (wdA s).2.2 ≤ (s.size : Int) := by
  unfold wdA
  split
  · exact ⟨fun d hd => (by cases hd), by simp, by simp only; omega⟩
  · exact wds_at s s.size 0 (by omega)
/-- what Parse answers: an error's place lies in the line; a plan is one, and prints as the line -/
theorem parseP_ok (line : ByteArray) : ((parseP line).2.1 ≠ 0 → (parseP line).1 = plnZ ∧ 0 ≤ (parseP line).2.2 ∧ (parseP line).2.2 ≤ (line.size : Int)) ∧ ((parseP line).2.1 = 0 → (fErr (parseP line).1).1 = 0 ∧ (line.toList == (printP (parseP line).1).toList) = true ∧ PFit (parseP line).1) := by
  have hw := wdA_at line
  unfold parseP
  by_cases h1 : (wdA line).2.1 ≠ 0
  · rw [if_pos h1]
    exact ⟨fun _ => ⟨rfl, hw.2.1, hw.2.2⟩, fun e => absurd e h1⟩
  · rw [if_neg h1]
    have h2 : (wdA line).2.1 = 0 := by simpa using h1
    have hft := (wdA_size h2).2.2
    cases hwh : wholeP (wdA line).1 with
    | error r =>
      have q := (whole_at hw.1).2 r hwh
      refine ⟨fun _ => ⟨rfl, ?_⟩, fun e => by cases e⟩
      cases r with
      | nil => simp only [placeP]; omega
      | cons d t => exact q d (List.mem_cons_self ..)
    | ok x =>
      obtain ⟨nm, R⟩ := x
      have q := (whole_at hw.1).1 _ hwh
      have ft := whole_fit hft hwh
      have hPF : PFit ⟨nm, R.piv, R.ss⟩ := ⟨by show nm.size ≤ _; omega, fun s hs => by have := (ft.2.1 s hs).1; omega, fun s hs => by have := (ft.2.1 s hs).2; omega⟩
      simp only
      unfold parseW
      by_cases hE : (fErr ⟨nm, R.piv, R.ss⟩).1 ≠ 0
      · rw [if_pos hE]
        refine ⟨fun _ => ⟨rfl, ?_⟩, fun e => absurd e hE⟩
        have hj := fErr_at (p := ⟨nm, R.piv, R.ss⟩) ft.2.2.2 hE
        have hl : (fErr ⟨nm, R.piv, R.ss⟩).2.toNat < R.ats.length := by rw [ft.2.2.1]; have := hj.2; simp only at this; omega
        simp only
        rw [List.getD_eq_getElem?_getD, List.getElem?_eq_getElem hl]
        exact q _ (List.getElem_mem hl)
      · rw [if_neg hE]
        by_cases hq : (line.toList == (printP ⟨nm, R.piv, R.ss⟩).toList) = false
        · rw [if_pos hq]
          refine ⟨fun _ => ⟨rfl, by simp only; omega, ?_⟩, fun e => by cases e⟩
          have := (partF_le line.data.toList (printP ⟨nm, R.piv, R.ss⟩).data.toList).1
          rw [Array.length_toList] at this
          have e : line.data.size = line.size := rfl
          simp only
          omega
        · rw [if_neg hq]
          exact ⟨fun e => absurd rfl e, fun _ => ⟨by simpa using hE, by simpa using hq, hPF⟩⟩
theorem sts_zero {w : World} {a : Option Addr} {c : Nat} {v : Value} {ss : List Stp} (h : StsAt w v ss) (e : ss = []) (hv : v = .slice a 0 c) : StsAt w (.slice a 0 c) plnZ.ss := by
  subst e
  subst hv
  exact h
set_option maxRecDepth 100000 in
set_option maxHeartbeats 16000000 in
theorem planOneWay_walk (line : ByteArray) (w : World) (hT : QTab w) (hs : line.size ≤ 9223372036854775807) :
    Calls Tryz.prog 4 #[.string line] w fun e w' => e = .returned (.bool true) ∧ Below w.heap.size w w' := by
  have hok := parseP_ok line
  have HST : Hid (Calls Tryz.prog 7 #[] w fun e w'' => e = .returned (.bool true) ∧ Below w.heap.size w w'') := plstarted_any w hT
  have HPA : Hid (∀ w', Below w.heap.size w w' → Calls Tryz.prog 11 #[.string line] w' fun e w'' => ∃ a c, e = .returned (.tuple #[.agg #[.string (parseP line).1.nm, .int .i64 (parseP line).1.piv, .slice a (parseP line).1.ss.length c], .int .i64 (parseP line).2.1, .int .i64 (parseP line).2.2]) ∧ StsAt w'' (.slice a (parseP line).1.ss.length c) (parseP line).1.ss ∧ Below w'.heap.size w' w'') := fun w' hb => (parse_any line w' (hT.kept hb).wt).mono fun e w'' ⟨v, e1, hr, hb'⟩ => by
    obtain ⟨a, c, ev⟩ := ownsRow_shape hr
    have hs := sts_of hr
    subst ev
    exact ⟨a, c, e1, hs, hb'⟩
  have HTT : Hid (∀ w', Below w.heap.size w w' → QTab w') := fun w' hb => hT.kept hb
  clear hT
  generalize parseP line = A at *
  obtain ⟨p, E, at_⟩ := A
  simp only at hok HPA
  by_cases hE : E = 0
  · subst hE
    obtain ⟨h1, h2, h3⟩ := hok.2 rfl
    have HPR : Hid (∀ v w', StsAt w' v p.ss → Below w.heap.size w w' → Calls Tryz.prog 8 #[.agg #[.string p.nm, .int .i64 p.piv, v]] w' fun e w'' => e = .returned (.tuple #[.string (printP p), .int .i64 0]) ∧ Below w'.heap.size w' w'') := fun v w' h hb => by
      have e := pprint_any p v w' h (HTT.out _ hb).wt.lets (HTT.out _ hb).wt.nt h3
      rw [show printA p = (printP p, 0) by unfold printA; rw [if_pos h1]] at e
      exact e
    have HCK : Hid (∀ v w', StsAt w' v p.ss → Below w.heap.size w w' → Calls Tryz.prog 10 #[.agg #[.string p.nm, .int .i64 p.piv, v]] w' fun e w'' => e = .returned (.int .i64 0) ∧ Below w'.heap.size w' w'') := fun v w' h hb => by
      have e := pcheck_any p v w' h (HTT.out _ hb).wt.lets h3
      rw [h1] at e
      exact e
    have HNU : Hid (∀ w', Calls Tryz.prog 9 #[.int .i64 0] w' fun e w'' => e = .returned (.int .i64 0) ∧ w'' = w') := fun w' => plnum_any 0 w' (by decide) (by decide)
    have hq : ((printP p).toList == line.toList) = true := by rw [Bool.beq_comm]; exact h2
    clear hok h1 h2 h3
    generalize printP p = T at *
    go_enter Tryz.func4, Tryz.ntmps4
    go_wp2_with fail
    refine HST.out.mono ?_
    rintro e w1 ⟨rfl, b1⟩
    have H1 : Hid (Below w.heap.size w w1) := b1
    clear b1 HST
    go_wp2_with fail
    refine (HPA.out _ H1.out).mono ?_
    rintro e w2 ⟨a, c, rfl, s2, b2⟩
    have H2 : Hid (∀ o, o = .cells #[.string p.nm, .int .i64 p.piv, .slice a p.ss.length c] 24 → StsAt (w2.alloc o) (.slice a p.ss.length c) p.ss ∧ LB (w2.alloc o) w2.heap.size 24 (plvl p (.slice a p.ss.length c)) ∧ Below w.heap.size w (w2.alloc o)) := fun o ho => by subst ho; exact ⟨s2.kept (up0 _ _), lb_new w2 (plvl p (.slice a p.ss.length c)) 24, up (andThen H1.out b2) _⟩
    have K : Hid (∀ W W' : World, (StsAt W (.slice a p.ss.length c) p.ss ∧ LB W w2.heap.size 24 (plvl p (.slice a p.ss.length c)) ∧ Below w.heap.size w W) → Below W.heap.size W W' → (StsAt W' (.slice a p.ss.length c) p.ss ∧ LB W' w2.heap.size 24 (plvl p (.slice a p.ss.length c)) ∧ Below w.heap.size w W')) := fun W W' h hb => ⟨h.1.kept hb, h.2.1.kept hb, andThen h.2.2 hb⟩
    clear s2 b2 H1 HPA
    go_wp2_with (go_at_call 9; refine (HNU.out _).mono ?_; rintro e w' ⟨rfl, rfl⟩)
    refine (HPR.out _ _ (H2.out _ rfl).1 (H2.out _ rfl).2.2).mono ?_
    rintro e w3 ⟨rfl, b3⟩
    have H3 : Hid (StsAt w3 (.slice a p.ss.length c) p.ss ∧ LB w3 w2.heap.size 24 (plvl p (.slice a p.ss.length c)) ∧ Below w.heap.size w w3) := K.out _ _ (H2.out _ rfl) b3
    have c0 := H3.out.2.1.cell 0 _ rfl
    have c1 := H3.out.2.1.cell 1 _ rfl
    have c2 := H3.out.2.1.cell 2 _ rfl
    clear b3 H2 HPR
    go_wp2_with (go_at_call 9; refine (HNU.out _).mono ?_; rintro e w' ⟨rfl, rfl⟩)
    refine (HCK.out _ _ H3.out.1 H3.out.2.2).mono ?_
    rintro e w4 ⟨rfl, b4⟩
    have H4 : Hid (Below w.heap.size w w4) := andThen H3.out.2.2 b4
    clear b4 H3 HCK c0 c1 c2
    go_wp2_with (go_at_call 9; refine (HNU.out _).mono ?_; rintro e w' ⟨rfl, rfl⟩)
    go_ret
    exact ⟨rfl, H4.out⟩
  · obtain ⟨h1, h2, h3⟩ := hok.1 hE
    subst h1
    have HNU : Hid (∀ w', Calls Tryz.prog 9 #[.int .i64 E] w' fun e w'' => e = .returned (.int .i64 E) ∧ w'' = w') := fun w' => by
      go_enter Tryz.func9, Tryz.ntmps9
      go_wp2
      go_ret
      exact ⟨rfl, rfl⟩
    have HEQ : Hid (∀ a c w', StsAt w' (.slice a 0 c) plnZ.ss → Calls Tryz.prog 12 #[.agg #[.string ⟨#[]⟩, .int .i64 0, .slice a 0 c], .agg #[.string ⟨#[]⟩, .int .i64 0, .slice none 0 0]] w' fun e w'' => e = .returned (.bool true) ∧ Below w'.heap.size w' w'') := fun a c w' h => plequal_yes plnZ _ _ w' h (sts_z w')
    have HPB : Hid (∀ w', Below w.heap.size w w' → Calls Tryz.prog 11 #[.string line] w' fun e w'' => ∃ a c, e = .returned (.tuple #[.agg #[.string ⟨#[]⟩, .int .i64 0, .slice a 0 c], .int .i64 E, .int .i64 at_]) ∧ StsAt w'' (.slice a 0 c) plnZ.ss ∧ Below w'.heap.size w' w'') := fun w' hb => (HPA.out w' hb).mono fun e w'' ⟨a, c, e1, e2, e3⟩ => ⟨a, c, e1, e2, e3⟩
    have hE2 : (E != 0) = true := by simp [hE]
    have hz : (0 : Int) ≤ (line.size : Int) := by omega
    clear hok hE HPA
    go_enter Tryz.func4, Tryz.ntmps4
    go_wp2_with fail
    refine HST.out.mono ?_
    rintro e w1 ⟨rfl, b1⟩
    have H1 : Hid (Below w.heap.size w w1) := b1
    clear b1 HST
    go_wp2_with fail
    refine (HPB.out _ H1.out).mono ?_
    rintro e w2 ⟨a, c, rfl, s2, b2⟩
    have H2 : Hid (∀ o, StsAt (w2.alloc o) (.slice a 0 c) plnZ.ss ∧ Below w.heap.size w (w2.alloc o)) := fun o => ⟨s2.kept (up0 _ _), up (andThen H1.out b2) _⟩
    clear s2 b2 H1 HPB
    go_wp2_with (go_at_call 9; refine (HNU.out _).mono ?_; rintro e w' ⟨rfl, rfl⟩)
    refine (HEQ.out _ _ _ (H2.out _).1).mono ?_
    rintro e w3 ⟨rfl, b3⟩
    have H3 : Hid (Below w.heap.size w w3) := andThen (H2.out _).2 b3
    clear b3 H2 HEQ
    go_wp2_with fail
    go_ret
    exact ⟨rfl, H3.out⟩
end Go.Proofs.YtlippoipjipcbaaGreatDoor
