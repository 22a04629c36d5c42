import Derived.BigQuiet
import Derived.Test.YtcnnpohnfoaceaaGreatDoorQP5
import Derived.Test.YtcnnpohnfoaceaaGreatDoorQP2
/-
  annalsref15: what its Parse answers, as a plain function; it is what the program's answers.
-/
namespace Go.Proofs.YtcnnpohnfoaceaaGreatDoor
open Go Go.RowKit
open Wb
open Text.Tx (Wd wdc wds wordP wdA)

/-- a step as it is said -/
structure Sd where
  s : Stp
  nb : Bool
  pv : Bool
  at_ : Int
def rtriesP (ws : List Wd) : Except (List Wd) ((Int × Bool) × List Wd) :=
  match signP ⟨#[42]⟩ ws with
  | none => .ok ((0, false), ws)
  | some w2 => match takeP 2 w2 with
    | none => .error w2
    | some (d, w3) => .ok ((d.n, true), w3)
def rendP (pv : Bool) (ws : List Wd) : Except (List Wd) ((ByteArray × Bool) × List Wd) :=
  match signP ⟨#[126]⟩ ws with
  | some w2 => match takeP 1 w2 with
    | none => .error w2
    | some (d, w3) => .ok ((d.t, false), w3)
  | none => match (if pv = true then none else signP ⟨#[33]⟩ ws) with
    | some w2 => .ok ((⟨#[]⟩, true), w2)
    | none => .ok ((⟨#[]⟩, false), ws)
def rstepP (pv : Bool) (ws : List Wd) : Except (List Wd) (Sd × List Wd) :=
  match takeP 1 ws with
  | none => .error ws
  | some (d, w1) => match rtriesP w1 with
    | .error e => .error e
    | .ok (t, w2) => match rendP pv w2 with
      | .error e => .error e
      | .ok (u, w3) => .ok (⟨⟨d.t, u.1, t.1⟩, t.2, u.2, d.at_⟩, w3)
def rsaidP : Nat → Bool → List Sd → List Wd → Except (List Wd) (List Sd)
  | 0, _, _, ws => .error ws
  | f + 1, pv, l, ws => match rstepP pv ws with
    | .error e => .error e
    | .ok (s, []) => .ok (l ++ [s])
    | .ok (s, d :: r) => match signP ⟨#[44]⟩ (d :: r) with
      | none => .error (d :: r)
      | some w2 => rsaidP f (pv || s.pv) (l ++ [s]) w2
/-- the step that is meant, the pivot being read or not -/
def fixS (pv : Int) (s : Sd) : Stp := if s.nb = false ∧ pv = 0 then ⟨s.s.d, s.s.u, 1⟩ else s.s
def addS (R : RdP) (s : Sd) : RdP := ⟨if s.pv = true then (R.ss.length : Int) + 1 else R.piv, R.ss ++ [fixS R.piv s], R.ats ++ [s.at_]⟩
def addAll (l : List Sd) : RdP := l.foldl addS ⟨0, [], []⟩
theorem addAll_snoc (l : List Sd) (s : Sd) : addAll (l ++ [s]) = addS (addAll l) s := by unfold addAll; rw [List.foldl_append]; rfl
theorem addS_ss (R : RdP) (s : Sd) : (addS R s).ss.length = R.ss.length + 1 ∧ (addS R s).ats.length = R.ats.length + 1 := by unfold addS; simp
theorem addAll_len : ∀ (l : List Sd) (R : RdP), (l.foldl addS R).ss.length = R.ss.length + l.length ∧ (l.foldl addS R).ats.length = R.ats.length + l.length
  | [], R => ⟨rfl, rfl⟩
  | s :: r, R => by
    have h := addAll_len r (addS R s)
    have h1 := addS_ss R s
    rw [List.foldl_cons, List.length_cons]
    omega
/-- both read the same steps -/
def exA {α β ε : Type} (f : α → β) : Except ε α → Except ε β
  | .error e => .error e
  | .ok a => .ok (f a)
theorem tries_r (R : RdP) (ws : List Wd) : triesP (if R.piv = 0 then 1 else 0) ws = exA (fun x => (if x.1.2 = false ∧ R.piv = 0 then 1 else x.1.1, x.2)) (rtriesP ws) := by
  unfold triesP rtriesP
  cases h1 : signP ⟨#[42]⟩ ws with
  | none =>
    simp only [exA, true_and]
  | some w2 =>
    simp only
    cases h2 : takeP 2 w2 with
    | none => rfl
    | some x => simp [exA]
theorem sign_two {ws w2 : List Wd} (h : signP ⟨#[33]⟩ ws = some w2) : signP ⟨#[126]⟩ ws = none := by
  obtain ⟨d, rfl, h1, h2⟩ := signP_len h
  rw [signP, if_neg]
  rintro ⟨h3, -⟩
  rw [ByteArray.toList_eq, ByteArray.toList_eq] at h2 h3
  simp only [beq_iff_eq] at h2 h3
  rw [h2] at h3
  exact absurd h3 (by decide)
theorem end_r (R : RdP) (ws : List Wd) : endP R.piv R.ss.length ws = exA (fun x => (x.1.1, (if x.1.2 = true then (R.ss.length : Int) + 1 else R.piv), x.2)) (rendP (decide (R.piv ≠ 0)) ws) := by
  unfold endP rendP
  by_cases h0 : R.piv = 0
  · rw [if_pos h0, if_neg (by simp [h0])]
    cases h1 : signP ⟨#[33]⟩ ws with
    | some w2 =>
      rw [sign_two h1]
      simp [exA]
    | none =>
      simp only
      cases h2 : signP ⟨#[126]⟩ ws with
      | none => simp [exA]
      | some w2 =>
        simp only
        cases h3 : takeP 1 w2 with
        | none => rfl
        | some x => simp [exA]
  · rw [if_neg h0, if_pos (by simp [h0])]
    simp only
    cases h2 : signP ⟨#[126]⟩ ws with
    | none => simp [exA]
    | some w2 =>
      simp only
      cases h3 : takeP 1 w2 with
      | none => rfl
      | some x => simp [exA]
theorem step_r (R : RdP) (ws : List Wd) : stepP R ws = exA (fun x => (addS R x.1, x.2)) (rstepP (decide (R.piv ≠ 0)) ws) := by
  unfold stepP rstepP
  cases h1 : takeP 1 ws with
  | none => rfl
  | some x =>
    obtain ⟨d, w1⟩ := x
    simp only
    rw [tries_r]
    cases h2 : rtriesP w1 with
    | error e => rfl
    | ok y =>
      simp only [exA]
      rw [end_r]
      cases h3 : rendP (decide (R.piv ≠ 0)) y.2 with
      | error e => rfl
      | ok z =>
        simp only [exA, addS, fixS]
        by_cases h4 : y.1.2 = false ∧ R.piv = 0
        · rw [if_pos h4, if_pos h4]
        · rw [if_neg h4, if_neg h4]
theorem stepsP_fuel : ∀ (n f g : Nat) (R : RdP) (ws : List Wd), ws.length ≤ n → ws.length < f → ws.length < g → stepsP f R ws = stepsP g R ws
  | _, f, g, R, [], _, h1, h2 => by
    obtain ⟨f, rfl⟩ : ∃ x, f = x + 1 := ⟨f - 1, by omega⟩
    obtain ⟨g, rfl⟩ : ∃ x, g = x + 1 := ⟨g - 1, by omega⟩
    rw [stepsP, stepsP]
  | 0, _, _, _, d :: r, h, _, _ => by simp at h
  | n + 1, f, g, R, d :: r, h, h1, h2 => by
    obtain ⟨f, rfl⟩ : ∃ x, f = x + 1 := ⟨f - 1, by omega⟩
    obtain ⟨g, rfl⟩ : ∃ x, g = x + 1 := ⟨g - 1, by omega⟩
    rw [stepsP, stepsP]
    cases h3 : signP ⟨#[44]⟩ (d :: r) with
    | none => rfl
    | some w1 =>
      simp only
      obtain ⟨d2, e, -⟩ := signP_len h3
      injection e with _ e
      subst e
      cases h4 : stepP R r with
      | error e => rfl
      | ok x =>
        obtain ⟨R', w2⟩ := x
        have l := (stepP_len h4).1
        simp only [List.length_cons] at h h1 h2
        exact stepsP_fuel n f g R' w2 (by omega) (by omega) (by omega)
def restP (f : Nat) (R : RdP) (ws : List Wd) : Except (List Wd) RdP :=
  match stepP R ws with
  | .error e => .error e
  | .ok (R', w3) => stepsP f R' w3
theorem addS_piv (R : RdP) (s : Sd) : decide ((addS R s).piv ≠ 0) = (decide (R.piv ≠ 0) || s.pv) := by
  unfold addS
  cases s.pv with
  | true => simp; omega
  | false => simp
theorem said_r : ∀ (f : Nat) (l : List Sd) (ws : List Wd), ws.length ≤ f → restP f (addAll l) ws = exA addAll (rsaidP f (decide ((addAll l).piv ≠ 0)) l ws)
  | 0, l, ws, h => by
    obtain rfl : ws = [] := List.eq_nil_of_length_eq_zero (by omega)
    rfl
  | f + 1, l, ws, h => by
    unfold restP
    rw [step_r, rsaidP]
    cases h1 : rstepP (decide ((addAll l).piv ≠ 0)) ws with
    | error e => rfl
    | ok x =>
      obtain ⟨s, w3⟩ := x
      simp only [exA]
      have hst := step_r (addAll l) ws
      rw [h1] at hst
      have hl := (stepP_len hst).1
      cases w3 with
      | nil => simp only [stepsP, addAll_snoc]
      | cons d r =>
        simp only
        rw [stepsP]
        cases h2 : signP ⟨#[44]⟩ (d :: r) with
        | none => rfl
        | some w2 =>
          simp only
          obtain ⟨d2, e, -⟩ := signP_len h2
          injection e with _ e
          subst e
          simp only [List.length_cons] at hl
          have ih := said_r f (l ++ [s]) r (by omega)
          rw [addAll_snoc, addS_piv] at ih
          exact ih
/-- what the reference reads: the name, the steps as they are said -/
def rwholeP (ws : List Wd) : Except (List Wd) (ByteArray × List Sd) :=
  match takeP 1 ws with
  | none => .error ws
  | some (d, w1) => match signP ⟨#[58]⟩ w1 with
    | none => .error w1
    | some w2 => match rsaidP w2.length false [] w2 with
      | .error e => .error e
      | .ok l => .ok (d.t, l)
theorem whole_r (ws : List Wd) : wholeP ws = exA (fun x => (x.1, addAll x.2)) (rwholeP ws) := by
  unfold wholeP rwholeP
  cases h1 : takeP 1 ws with
  | none => rfl
  | some x =>
    obtain ⟨d, w1⟩ := x
    simp only
    cases h2 : signP ⟨#[58]⟩ w1 with
    | none => rfl
    | some w2 =>
      simp only
      have h := said_r w2.length [] w2 (Nat.le_refl _)
      have e0 : decide ((addAll []).piv ≠ 0) = false := rfl
      rw [e0] at h
      unfold restP at h
      have ea : addAll [] = ⟨0, [], []⟩ := rfl
      rw [ea] at h
      cases h3 : stepP ⟨0, [], []⟩ w2 with
      | error e =>
        rw [h3] at h
        simp only at h
        cases h4 : rsaidP w2.length false [] w2 with
        | error e' =>
          rw [h4] at h
          injection h with h
          rw [h]
          rfl
        | ok y => rw [h4] at h; cases h
      | ok y =>
        obtain ⟨R, w3⟩ := y
        rw [h3] at h
        simp only at h ⊢
        have l := (stepP_len h3).1
        rw [stepsP_fuel w3.length (w3.length + 1) w2.length R w3 (Nat.le_refl _) (by omega) l, h]
        cases h4 : rsaidP w2.length false [] w2 with
        | error e' => rfl
        | ok y => rfl
/-- any greater number of turns serves -/
theorem rsaidP_fuel : ∀ (f g : Nat) (pv : Bool) (l : List Sd) (ws : List Wd), ws.length ≤ f → ws.length ≤ g → rsaidP f pv l ws = rsaidP g pv l ws
  | 0, g, pv, l, ws, h1, h2 => by
    obtain rfl : ws = [] := List.eq_nil_of_length_eq_zero (by omega)
    cases g <;> rfl
  | f + 1, 0, pv, l, ws, h1, h2 => by
    obtain rfl : ws = [] := List.eq_nil_of_length_eq_zero (by omega)
    rfl
  | f + 1, g + 1, pv, l, ws, h1, h2 => by
    rw [rsaidP, rsaidP]
    cases h3 : rstepP pv ws with
    | error e => rfl
    | ok x =>
      obtain ⟨s, w3⟩ := x
      cases w3 with
      | nil => rfl
      | cons d r =>
        simp only
        cases h4 : signP ⟨#[44]⟩ (d :: r) with
        | none => rfl
        | some w2 =>
          simp only
          obtain ⟨d2, e, -⟩ := signP_len h4
          injection e with _ e
          subst e
          have hst := step_r ⟨if pv = true then 1 else 0, [], []⟩ ws
          have e9 : decide ((⟨if pv = true then 1 else 0, [], []⟩ : RdP).piv ≠ 0) = pv := by cases pv <;> rfl
          rw [e9, h3] at hst
          have hl := (stepP_len hst).1
          simp only [List.length_cons] at hl
          exact rsaidP_fuel f g _ _ _ (by omega) (by omega)
theorem parse_r (line : ByteArray) : parseP line = if (wdA line).2.1 ≠ 0 then (plnZ, (wdA line).2.1, (wdA line).2.2) else match rwholeP (wdA line).1 with
    | .error ws => (plnZ, 150, placeP ws line.size)
    | .ok (nm, l) => parseW line nm (addAll l) := by
  unfold parseP
  rw [whole_r]
  cases rwholeP (wdA line).1 with
  | error e => rfl
  | ok x => rfl
theorem partF_comm : ∀ (a b : List UInt8), partF a b = partF b a
  | [], [] => rfl
  | [], _ :: _ => rfl
  | _ :: _, [] => rfl
  | x :: r, y :: t => by
    rw [partF, partF, partF_comm r t]
    by_cases h : x = y
    · rw [if_pos h, if_pos h.symm]
    · rw [if_neg h, if_neg fun e => h e.symm]
end Go.Proofs.YtcnnpohnfoaceaaGreatDoor

/-
  annalsref15: the reader in memory; sign, kind, at.
-/
namespace Go.Proofs.YtcnnpohnfoaceaaGreatDoor
open Go Go.RowKit
open Wb
open Text.Tx (Wd wdc wds wordP wdA)

/-- the reference's reader: all the words, the place of the next, the line's length -/
def RR (b : Nat) (w : World) (vw : Value) (A : List Wd) (i : Nat) (en : Nat) : Prop := LB w b 52 [vw, .int .i64 (i : Int), .int .i64 (en : Int)] ∧ WdB b w vw A ∧ A.length ≤ 65536 ∧ i ≤ A.length
theorem RR.lt {b : Nat} {w : World} {vw : Value} {A : List Wd} {i en : Nat} (h : RR b w vw A i en) : b < w.heap.size := h.1.lt
theorem RR.kept {b : Nat} {w w' : World} {vw : Value} {A : List Wd} {i en : Nat} (h : RR b w vw A i en) (hb : Below w.heap.size w w') : RR b w' vw A i en :=
  ⟨h.1.kept hb, h.2.1.same fun g hg => hb.block g (Nat.lt_trans hg h.1.lt), h.2.2⟩
theorem RR.next {b : Nat} {w : World} {vw : Value} {A : List Wd} {i en : Nat} (h : RR b w vw A i en) (j : Nat) (hj : j ≤ A.length) : RR b (w.setCell ⟨b, 1, none⟩ (.int .i64 (j : Int))) vw A j en :=
  ⟨h.1.set 1 _, h.2.1.same fun _g hg => set_other _ _ _ _ (Nat.ne_of_lt hg), h.2.2.1, hj⟩
/-- what is told of the word that is next -/
theorem RR.word {b : Nat} {w : World} {vw : Value} {A : List Wd} {i en : Nat} {d : Wd} {r : List Wd} (h : RR b w vw A i en) (e : A.drop i = d :: r) :
    ∃ (g off cap : Nat), g < b ∧ i < A.length ∧ A.length ≤ cap ∧ cap ≤ maxLen ∧ vw = .slice (some ⟨g, off, none⟩) A.length cap ∧ w.rangeAt g (off + i * 4) (wdc d) ∧ A.drop (i + 1) = r := by
  obtain ⟨h0, ⟨ao, cap, rfl, h1, h2, h3⟩, h4, h5⟩ := h
  have hi : i < A.length := by
    rcases Nat.lt_or_ge i A.length with h9 | h9
    · exact h9
    · rw [List.drop_eq_nil_of_le h9] at e; cases e
  rw [List.drop_eq_getElem_cons hi] at e
  injection e with e1 e2
  obtain ⟨g, off, rfl, hg, hr⟩ := h3 i d (by rw [List.getElem?_eq_getElem hi, e1])
  exact ⟨g, off, cap, hg, hi, h1, h2, rfl, hr, e2⟩
theorem RR.none {b : Nat} {w : World} {vw : Value} {A : List Wd} {i en : Nat} (h : RR b w vw A i en) (e : A.drop i = []) : i = A.length ∧ ∃ ao, ∃ cap : Nat, vw = .slice ao A.length cap := by
  obtain ⟨h0, ⟨ao, cap, rfl, h1, h2, h3⟩, h4, h5⟩ := h
  refine ⟨?_, ao, cap, rfl⟩
  have := List.drop_eq_nil_iff.1 e
  omega
set_option maxRecDepth 100000 in
set_option maxHeartbeats 4000000 in
theorem rrkind_any (b : Nat) (k : Int) (vw : Value) (A : List Wd) (i en : Nat) (w : World) (h : RR b w vw A i en) :
    Calls Tryz.prog 19 #[.pointer (some ⟨b, 0, none⟩), .int .i64 k] w fun e w' => e = .returned (.bool (takeP k (A.drop i)).isSome) ∧ Below w.heap.size w w' := by
  have HB : Hid (Below w.heap.size w w) := Below.refl _ _
  cases e : A.drop i with
  | nil =>
    obtain ⟨rfl, ao, cap, rfl⟩ := h.none e
    have c0 := h.1.cell 0 _ rfl
    have c1 := h.1.cell 1 _ rfl
    clear h e
    go_enter Tryz.func19, Tryz.ntmps19
    go_wp2
    go_quiet (fail)
    go_wp2
    go_ret
    exact ⟨rfl, below_drewN HB.out _⟩
  | cons d r =>
    obtain ⟨g, off, cap, hg, hi, h1, h2, rfl, hr, -⟩ := h.word e
    have c0 := h.1.cell 0 _ rfl
    have c1 := h.1.cell 1 _ rfl
    have x0 : w.cell? ⟨g, off + i * 4, none⟩ = some (.int .i64 d.k) := hr 0 _ rfl
    have hlt : decide (i < A.length) = true := decide_eq_true hi
    have hT : (takeP k (d :: r)).isSome = (d.k == k) := by
      rw [takeP]
      by_cases hk : d.k = k
      · rw [if_pos hk]; simp [hk]
      · rw [if_neg hk]; simp [hk]
    rw [hT]
    unfold maxLen at h2
    clear h e hr hT
    go_enter Tryz.func19, Tryz.ntmps19
    go_wp2
    go_quiet (fail)
    go_wp2
    go_ret
    exact ⟨rfl, below_drewN HB.out _⟩
set_option maxRecDepth 100000 in
set_option maxHeartbeats 4000000 in
theorem rrsign_any (b : Nat) (t : ByteArray) (vw : Value) (A : List Wd) (i en : Nat) (w : World) (h : RR b w vw A i en) :
    Calls Tryz.prog 21 #[.pointer (some ⟨b, 0, none⟩), .string t] w fun e w' => e = .returned (.bool (signP t (A.drop i)).isSome) ∧ Below w.heap.size w w' := by
  have HB : Hid (Below w.heap.size w w) := Below.refl _ _
  cases e : A.drop i with
  | nil =>
    obtain ⟨rfl, ao, cap, rfl⟩ := h.none e
    have c0 := h.1.cell 0 _ rfl
    have c1 := h.1.cell 1 _ rfl
    clear h e
    go_enter Tryz.func21, Tryz.ntmps21
    go_wp2
    go_quiet (fail)
    go_wp2
    go_ret
    exact ⟨rfl, below_drewN HB.out _⟩
  | cons d r =>
    obtain ⟨g, off, cap, hg, hi, h1, h2, rfl, hr, -⟩ := h.word e
    have c0 := h.1.cell 0 _ rfl
    have c1 := h.1.cell 1 _ rfl
    have x0 : w.cell? ⟨g, off + i * 4, none⟩ = some (.int .i64 d.k) := hr 0 _ rfl
    have x2 : w.cell? ⟨g, off + i * 4 + 2, none⟩ = some (.string d.t) := hr 2 _ rfl
    have hlt : decide (i < A.length) = true := decide_eq_true hi
    have hT : (signP t (d :: r)).isSome = ((d.k == 4) && (d.t.toList == t.toList)) := by
      rw [signP]
      by_cases hk : d.k = 4
      · by_cases ht : (d.t.toList == t.toList) = true
        · rw [if_pos ⟨ht, hk⟩, ht]; simp [hk]
        · rw [if_neg fun h9 => ht h9.1]
          simp only [Bool.not_eq_true] at ht
          rw [ht]; simp
      · rw [if_neg fun h9 => hk h9.2]; simp [hk]
    rw [hT]
    unfold maxLen at h2
    clear h e hr hT
    cases hk : (d.k == 4) with
    | true =>
      go_enter Tryz.func21, Tryz.ntmps21
      go_wp2
      go_quiet (fail)
      go_wp2
      go_ret
      exact ⟨rfl, below_drewN HB.out _⟩
    | false =>
      go_enter Tryz.func21, Tryz.ntmps21
      go_wp2
      go_quiet (fail)
      go_wp2
      go_ret
      exact ⟨rfl, below_drewN HB.out _⟩
theorem rrat_any (b : Nat) (vw : Value) (A : List Wd) (i en : Nat) (w : World) (h : RR b w vw A i en) :
    Calls Tryz.prog 20 #[.pointer (some ⟨b, 0, none⟩)] w fun e w' => e = .returned (.int .i64 (placeP (A.drop i) en)) ∧ Below w.heap.size w w' := by
  have HB : Hid (Below w.heap.size w w) := Below.refl _ _
  cases e : A.drop i with
  | nil =>
    obtain ⟨rfl, ao, cap, rfl⟩ := h.none e
    have c0 := h.1.cell 0 _ rfl
    have c1 := h.1.cell 1 _ rfl
    have HC : Hid (∀ n, (w.drewN n).cell? ⟨b, 2, none⟩ = some (.int .i64 (en : Int)) ∧ Below w.heap.size w (w.drewN n)) := fun n => ⟨(h.1.kept (below_drewN (Below.refl _ _) n)).cell 2 _ rfl, below_drewN (Below.refl _ _) n⟩
    clear h e
    go_enter Tryz.func20, Tryz.ntmps20
    go_wp2
    go_quiet (fail)
    have H1 := HC.out nq
    generalize w.drewN nq = w5 at *
    obtain ⟨c2, b2⟩ := H1
    go_wp2
    go_ret
    exact ⟨rfl, b2⟩
  | cons d r =>
    obtain ⟨g, off, cap, hg, hi, h1, h2, rfl, hr, -⟩ := h.word e
    have c0 := h.1.cell 0 _ rfl
    have c1 := h.1.cell 1 _ rfl
    have hlt : decide (i < A.length) = true := decide_eq_true hi
    have HC : Hid (∀ n, ((w.drewN n).cell? ⟨b, 0, none⟩ = some (.slice (some ⟨g, off, none⟩) A.length cap) ∧ (w.drewN n).cell? ⟨b, 1, none⟩ = some (.int .i64 (i : Int)) ∧ (w.drewN n).cell? ⟨g, off + i * 4 + 1, none⟩ = some (.int .i64 d.at_)) ∧ Below w.heap.size w (w.drewN n)) := fun n => by
      have q := below_drewN (Below.refl w.heap.size w) n
      exact ⟨⟨(h.1.kept q).cell 0 _ rfl, (h.1.kept q).cell 1 _ rfl, (range_kept hr q) 1 _ rfl⟩, q⟩
    unfold maxLen at h2
    clear h e hr
    go_enter Tryz.func20, Tryz.ntmps20
    go_wp2
    go_quiet (fail)
    have H1 := HC.out nq
    generalize w.drewN nq = w5 at *
    obtain ⟨⟨d0, d1, d2⟩, b2⟩ := H1
    have HB2 : Hid _ := b2
    clear b2 c0 c1
    go_wp2
    go_quiet (fail)
    go_wp2
    go_ret
    exact ⟨rfl, below_drewN HB2.out _⟩
end Go.Proofs.YtcnnpohnfoaceaaGreatDoor
