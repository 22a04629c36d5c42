import Derived.Test.YtcnnpohnfoaceaaGreatDoorQP3
import Derived.Test.YtcnnpohnfoaceaaGreatDoorQP4
/-
  Package plan: parting.
-/
namespace Go.Proofs.YtcnnpohnfoaceaaGreatDoor
open Go Go.RowKit
open Wb

/-- the first place at which two texts part -/
def partF : List UInt8 → List UInt8 → Nat
  | x :: r, y :: t => if x = y then partF r t + 1 else 0
  | _, _ => 0
theorem partF_le : ∀ (a b : List UInt8), partF a b ≤ a.length ∧ partF a b ≤ b.length
  | [], _ => by simp [partF]
  | _ :: _, [] => by simp [partF]
  | x :: r, y :: t => by
    rw [partF]
    have := partF_le r t
    split
    · simp only [List.length_cons]; omega
    · simp
theorem partF_drop (a b : List UInt8) (k : Nat) (h1 : k < a.length) (h2 : k < b.length) : partF (a.drop k) (b.drop k) = if a[k] = b[k] then partF (a.drop (k + 1)) (b.drop (k + 1)) + 1 else 0 := by
  rw [List.drop_eq_getElem_cons h1, List.drop_eq_getElem_cons h2, partF]
set_option maxRecDepth 100000 in
set_option maxHeartbeats 8000000 in
theorem parting_any (a b : ByteArray) (w : World) (ha : a.size ≤ 100000) (_hb : b.size ≤ 100000) :
    Calls Tryz.prog 17 #[.string a, .string b] w fun e w' => e = .returned (.int .i64 (partF a.data.toList b.data.toList : Int)) ∧ Below w.heap.size w w' := by
  obtain ⟨A, hA⟩ : ∃ A, partF a.data.toList b.data.toList = A := ⟨_, rfl⟩
  have HA : Hid (partF (a.data.toList.drop 0) (b.data.toList.drop 0) + 0 = A) := hA
  rw [hA]
  clear hA
  go_enter Tryz.func17, Tryz.ntmps17
  go_wp2
  go_loopw [13] (fun i wr => ∃ k : Nat, k ≤ min a.size b.size ∧ i = .int .i64 (k : Int) ∧ partF (a.data.toList.drop k) (b.data.toList.drop k) + k = A ∧ Below w.heap.size w wr) (fun i _ => min a.size b.size - (intOf i).toNat)
  case atStart => exact ⟨0, Nat.zero_le _, rfl, HA.out, Below.refl _ _⟩
  case round =>
    obtain ⟨k, hk, rfl, he, hbl⟩ := hrel
    have HW : Hid (partF (a.data.toList.drop k) (b.data.toList.drop k) + k = A ∧ Below w.heap.size w wr) := ⟨he, hbl⟩
    clear he hbl HA
    by_cases hlt : k < min a.size b.size
    · have h1 : k < a.data.toList.length := by rw [Array.length_toList]; show k < a.size; omega
      have h2 : k < b.data.toList.length := by rw [Array.length_toList]; show k < b.size; omega
      have hka : k < a.size := by omega
      have hkb : k < b.size := by omega
      have hd : decide (k < min a.size b.size) = true := decide_eq_true hlt
      have HP : Hid (partF (a.data.toList.drop k) (b.data.toList.drop k) = if a.data.toList[k] = b.data.toList[k] then partF (a.data.toList.drop (k + 1)) (b.data.toList.drop (k + 1)) + 1 else 0) := partF_drop _ _ k h1 h2
      have HG : Hid (a.data.toList[k] = a[k] ∧ b.data.toList[k] = b[k]) := ⟨by rw [Array.getElem_toList]; rfl, by rw [Array.getElem_toList]; rfl⟩
      by_cases hq : a[k] = b[k]
      · have hq2 : ((a[k].toNat : Int) != (b[k].toNat : Int)) = false := by rw [hq]; simp
        have HN : Hid (partF (a.data.toList.drop (k + 1)) (b.data.toList.drop (k + 1)) + (k + 1) = A) := by
          have e := HP.out
          rw [HG.out.1, HG.out.2, if_pos hq] at e
          have := HW.out.1
          show _ = _
          omega
        clear hq HP HG
        go_upto_region 5 with fail
        go_region
        go_wp2
        go_roundw
        case rel => exact ⟨k + 1, by omega, by simp, HN.out, HW.out.2.drew⟩
        case measure => simp [intOf]; omega
      · have hq2 : ((a[k].toNat : Int) != (b[k].toNat : Int)) = true := by
          simp only [bne_iff_ne, ne_eq, Int.natCast_inj]
          exact fun e => hq (UInt8.toNat_inj.1 e)
        have HN : Hid ((k : Int) = (A : Int)) := by
          have e := HP.out
          rw [HG.out.1, HG.out.2, if_neg hq] at e
          have := HW.out.1
          show _ = _
          omega
        clear hq HP HG
        go_upto_region 5 with fail
        go_region
        go_wp2
        go_ret
        exact ⟨congrArg (fun z => Ending.returned (.int .i64 z)) HN.out, HW.out.2.drew⟩
    · have hd : decide (k < min a.size b.size) = false := decide_eq_false hlt
      have HN : Hid (min (a.size : Int) (b.size : Int) = (A : Int)) := by
        have e := HW.out.1
        have h3 : partF (a.data.toList.drop k) (b.data.toList.drop k) = 0 := by
          have h4 := partF_le (a.data.toList.drop k) (b.data.toList.drop k)
          rw [List.length_drop, List.length_drop, Array.length_toList, Array.length_toList] at h4
          have h5 : a.data.size = a.size := rfl
          have h6 : b.data.size = b.size := rfl
          omega
        show _ = _
        omega
      go_wp2
      go_ret
      exact ⟨congrArg (fun z => Ending.returned (.int .i64 z)) HN.out, HW.out.2⟩
end Go.Proofs.YtcnnpohnfoaceaaGreatDoor

/-
  Package plan: what Parse answers, as a plain function.
-/
namespace Go.Proofs.YtcnnpohnfoaceaaGreatDoor
open Go Go.RowKit
open Wb
open Text.Tx (Wd wdc wds wordP wdA)

theorem wds_len (s : ByteArray) : ∀ (n i : Nat), s.size - i ≤ n → (wds s i).1.length ≤ s.size - i := by
  intro n
  induction n with
  | zero => intro i hi; rw [Text.Tx.wds_out s i (by omega)]; simp
  | succ n ih =>
    intro i hi
    by_cases h : i < s.size
    · rw [wds, dif_pos h]
      split
      · simp
      split
      · have := ih (i + 1) (by omega)
        omega
      split
      · simp
      · rename_i d e _
        split
        · simp
        split
        · have h1 : i + 1 ≤ max e (i + 1) := Nat.le_max_right _ _
          generalize max e (i + 1) = m at *
          have := ih m (by omega)
          simp only [List.length_cons]
          omega
        · simp
    · rw [Text.Tx.wds_out s i h]; simp
/-- a name is no longer than its line -/
theorem wds_fit (s : ByteArray) : ∀ (n i : Nat), s.size - i ≤ n → ∀ d ∈ (wds s i).1, d.k = 1 → d.t.size ≤ s.size := by
  intro n
  induction n with
  | zero => intro i hi d hd; rw [Text.Tx.wds_out s i (by omega)] at hd; cases hd
  | succ n ih =>
    intro i hi d hd hk
    by_cases h : i < s.size
    · rw [wds, dif_pos h] at hd
      split at hd
      · cases hd
      split at hd
      · exact ih (i + 1) (by omega) d hd hk
      split at hd
      · cases hd
      · rename_i d2 e hw
        split at hd
        · cases hd
        split at hd
        · have h1 : i + 1 ≤ max e (i + 1) := Nat.le_max_right _ _
          rcases List.mem_cons.1 hd with rfl | hd
          · unfold wordP at hw
            split at hw
            · split at hw
              · cases hw
              · injection hw with hw
                injection hw with hw _
                subst hw
                show (ByteArray.extract _ _ _).size ≤ _
                rw [ByteArray.size_extract]
                omega
            split at hw
            · split at hw
              · cases hw
              split at hw
              · cases hw
              · injection hw with hw
                injection hw with hw _
                subst hw
                simp at hk
            split at hw
            · split at hw
              · cases hw
              · injection hw with hw
                injection hw with hw _
                subst hw
                simp at hk
            split at hw
            · injection hw with hw
              injection hw with hw _
              subst hw
              simp at hk
            · cases hw
          · exact ih _ (by omega) d hd hk
        · cases hd
    · rw [Text.Tx.wds_out s i h] at hd; cases hd
/-- names are no longer than that -/
def Ft (M : Nat) (ws : List Wd) : Prop := ∀ d ∈ ws, d.k = 1 → d.t.size ≤ M
def RFt (M : Nat) (R : RdP) : Prop := ∀ s ∈ R.ss, s.d.size ≤ M ∧ s.u.size ≤ M
theorem Ft.take {M : Nat} {k : Int} {ws r : List Wd} {d : Wd} (h : Ft M ws) (e : takeP k ws = some (d, r)) : Ft M r ∧ (k = 1 → d.t.size ≤ M) := by
  obtain ⟨rfl, hd⟩ := takeP_len e
  exact ⟨fun x hx => h x (List.mem_cons_of_mem _ hx), fun e1 => h d (List.mem_cons_self ..) (by omega)⟩
theorem Ft.sign {M : Nat} {t : ByteArray} {ws r : List Wd} (h : Ft M ws) (e : signP t ws = some r) : Ft M r := by
  obtain ⟨d, rfl, -⟩ := signP_len e
  exact fun x hx => h x (List.mem_cons_of_mem _ hx)
theorem Ft.tries {M : Nat} {t t' : Int} {ws r : List Wd} (h : Ft M ws) (e : triesP t ws = .ok (t', r)) : Ft M r := by
  unfold triesP at e
  split at e
  · injection e with e; injection e with _ e; subst e; exact h
  · rename_i w2 h1
    split at e
    · cases e
    · rename_i d w3 h2
      injection e with e; injection e with _ e; subst e
      exact ((h.sign h1).take h2).1
theorem Ft.ending {M : Nat} {pv pv' : Int} {n : Nat} {u : ByteArray} {ws r : List Wd} (h : Ft M ws) (e : endP pv n ws = .ok (u, pv', r)) : Ft M r ∧ u.size ≤ M := by
  unfold endP at e
  split at e
  · rename_i w2 h1
    injection e with e; injection e with e1 e; injection e with _ e; subst e; subst e1
    split at h1
    · exact ⟨h.sign h1, Nat.zero_le _⟩
    · cases h1
  · split at e
    · injection e with e; injection e with e1 e; injection e with _ e; subst e; subst e1; exact ⟨h, Nat.zero_le _⟩
    · rename_i w2 h1
      split at e
      · cases e
      · rename_i d w3 h2
        injection e with e; injection e with e1 e; injection e with _ e; subst e; subst e1
        have q := (h.sign h1).take h2
        exact ⟨q.1, q.2 rfl⟩
theorem Ft.step {M : Nat} {R R' : RdP} {ws r : List Wd} (h : Ft M ws) (hR : RFt M R) (e : stepP R ws = .ok (R', r)) : Ft M r ∧ RFt M R' := by
  unfold stepP at e
  split at e
  · cases e
  · rename_i d w1 h1
    split at e
    · cases e
    · rename_i t w2 h2
      split at e
      · cases e
      · rename_i u pv w3 h3
        injection e with e; injection e with e1 e2; subst e1; subst e2
        have q1 := h.take h1
        have q2 := q1.1.tries h2
        have q3 := q2.ending h3
        refine ⟨q3.1, fun s hs => ?_⟩
        rcases List.mem_append.1 hs with hs | hs
        · exact hR s hs
        · rw [List.mem_singleton.1 hs]
          exact ⟨q1.2 rfl, q3.2⟩
theorem Ft.steps {M : Nat} : ∀ (f : Nat) (R R' : RdP) (ws : List Wd), Ft M ws → RFt M R → stepsP f R ws = .ok R' → RFt M R' ∧ R'.ats.length + R.ss.length = R'.ss.length + R.ats.length ∧ R.ss.length ≤ R'.ss.length
  | 0, _, _, _, _, _, e => by cases e
  | f + 1, R, R', [], _, hR, e => by
    rw [stepsP] at e
    injection e with e
    subst e
    exact ⟨hR, by omega, Nat.le_refl _⟩
  | f + 1, R, R', d :: r, h, hR, e => by
    rw [stepsP] at e
    split at e
    · cases e
    · rename_i w1 h1
      split at e
      · cases e
      · rename_i R2 w2 h2
        have q := (h.sign h1).step hR h2
        have l := stepP_len h2
        have q2 := Ft.steps f R2 R' w2 q.1 q.2 e
        exact ⟨q2.1, by omega, by omega⟩
theorem whole_fit {M : Nat} {ws : List Wd} {nm : ByteArray} {R : RdP} (h : Ft M ws) (e : wholeP ws = .ok (nm, R)) : nm.size ≤ M ∧ RFt M R ∧ R.ats.length = R.ss.length ∧ 1 ≤ R.ss.length := by
  unfold wholeP at e
  split at e
  · cases e
  · rename_i d w1 h1
    split at e
    · cases e
    · rename_i w2 h2
      split at e
      · cases e
      · rename_i R1 w3 h3
        split at e
        · cases e
        · rename_i R2 h4
          injection e with e; injection e with e1 e2; subst e1; subst e2
          have q1 := h.take h1
          have q2 := (q1.1.sign h2).step (R := ⟨0, [], []⟩) (fun s hs => by cases hs) h3
          have l := stepP_len h3
          have q3 := Ft.steps _ _ _ _ q2.1 q2.2 h4
          simp only [List.length_nil] at l
          exact ⟨q1.2 rfl, q3.1, by omega, by omega⟩
def plnZ : Pln := ⟨⟨#[]⟩, 0, []⟩
/-- what a line is read as: the plan, the error, its place -/
def parseW (line : ByteArray) (nm : ByteArray) (R : RdP) : Pln × Int × Int :=
  if (fErr ⟨nm, R.piv, R.ss⟩).1 ≠ 0 then (plnZ, (fErr ⟨nm, R.piv, R.ss⟩).1, R.ats.getD (fErr ⟨nm, R.piv, R.ss⟩).2.toNat 0)
  else if (line.toList == (printP ⟨nm, R.piv, R.ss⟩).toList) = false then (plnZ, 150, (partF line.data.toList (printP ⟨nm, R.piv, R.ss⟩).data.toList : Int))
  else (⟨nm, R.piv, R.ss⟩, 0, 0)
def parseP (line : ByteArray) : Pln × Int × Int :=
  if (wdA line).2.1 ≠ 0 then (plnZ, (wdA line).2.1, (wdA line).2.2)
  else match wholeP (wdA line).1 with
    | .error ws => (plnZ, 150, placeP ws line.size)
    | .ok (nm, R) => parseW line nm R
theorem firstErr_at {p : Pln} : ∀ (l : List Stp) (i : Nat), (firstErr p i l).1 ≠ 0 → (i : Int) ≤ (firstErr p i l).2 ∧ (firstErr p i l).2 < (i + l.length : Nat)
  | [], i, h => absurd rfl h
  | s :: r, i, h => by
    rw [firstErr] at h ⊢
    split
    · simp only [List.length_cons]
      omega
    · rename_i h1
      rw [if_neg h1] at h
      have := firstErr_at r (i + 1) h
      simp only [List.length_cons]
      omega
theorem fErr_at {p : Pln} (h1 : 1 ≤ p.ss.length) (h : (fErr p).1 ≠ 0) : 0 ≤ (fErr p).2 ∧ (fErr p).2 < (p.ss.length : Int) := by
  unfold fErr at h ⊢
  split
  · simp only; omega
  split
  · omega
  split
  · simp only; omega
  split
  · simp only; omega
  · rename_i h2 h3 h4 h5
    rw [if_neg h2, if_neg h3, if_neg h4, if_neg h5] at h
    have := firstErr_at p.ss 0 h
    omega
end Go.Proofs.YtcnnpohnfoaceaaGreatDoor
