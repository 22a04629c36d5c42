import Derived.Test.YtlippoipjipcbaaGreatDoorQP3
import Derived.Test.YtlippoipjipcbaaGreatDoorQP4
/-
  Package plan: parting.
-/
namespace Go.Proofs.YtlippoipjipcbaaGreatDoor
open Go Go.RowKit
open Wb

/-- the first place at which two texts part -/
def partF : List UInt8 → List UInt8 → Nat
  | x :: r, y :: t => if x = y then partF r t + 1 else 0
  | _, _ => 0
theorem partF_le : ∀ (a b : List UInt8), partF a b ≤ a.length ∧ partF a b ≤ b.length
  | [], _ => by simp [partF]
  | _ :: _, [] => by simp [partF]
  | x :: r, y :: t => by
    rw [partF]
    have := partF_le r t
    split
    · simp only [List.length_cons]; omega
    · simp
theorem partF_drop (a b : List UInt8) (k : Nat) (h1 : k < a.length) (h2 : k < b.length) : partF (a.drop k) (b.drop k) = if a[k] = b[k] then partF (a.drop (k + 1)) (b.drop (k + 1)) + 1 else 0 := by
  rw [List.drop_eq_getElem_cons h1, List.drop_eq_getElem_cons h2, partF]
set_option maxRecDepth 100000 in
set_option maxHeartbeats 8000000 in
theorem parting_any (a b : ByteArray) (w : World) (ha : a.size ≤ 100000) (_hb : b.size ≤ 100000) :
    Calls Tryz.prog 25 #[.string a, .string b] w fun e w' => e = .returned (.int .i64 (partF a.data.toList b.data.toList : Int)) ∧ Below w.heap.size w w' := by
  obtain ⟨A, hA⟩ : ∃ A, partF a.data.toList b.data.toList = A := ⟨_, rfl⟩
  have HA : Hid (partF (a.data.toList.drop 0) (b.data.toList.drop 0) + 0 = A) := hA
  rw [hA]
  clear hA
  go_enter Tryz.func25, Tryz.ntmps25
  go_wp2
  go_loopw [13] (fun i wr => ∃ k : Nat, k ≤ min a.size b.size ∧ i = .int .i64 (k : Int) ∧ partF (a.data.toList.drop k) (b.data.toList.drop k) + k = A ∧ Below w.heap.size w wr) (fun i _ => min a.size b.size - (intOf i).toNat)
  case atStart => exact ⟨0, Nat.zero_le _, rfl, HA.out, Below.refl _ _⟩
  case round =>
    obtain ⟨k, hk, rfl, he, hbl⟩ := hrel
    have HW : Hid (partF (a.data.toList.drop k) (b.data.toList.drop k) + k = A ∧ Below w.heap.size w wr) := ⟨he, hbl⟩
    clear he hbl HA
    by_cases hlt : k < min a.size b.size
    · have h1 : k < a.data.toList.length := by rw [Array.length_toList]; show k < a.size; omega
      have h2 : k < b.data.toList.length := by rw [Array.length_toList]; show k < b.size; omega
      have hka : k < a.size := by omega
      have hkb : k < b.size := by omega
      have hd : decide (k < min a.size b.size) = true := decide_eq_true hlt
      have HP : Hid (partF (a.data.toList.drop k) (b.data.toList.drop k) = if a.data.toList[k] = b.data.toList[k] then partF (a.data.toList.drop (k + 1)) (b.data.toList.drop (k + 1)) + 1 else 0) := partF_drop _ _ k h1 h2
      have HG : Hid (a.data.toList[k] = a[k] ∧ b.data.toList[k] = b[k]) := ⟨by rw [Array.getElem_toList]; rfl, by rw [Array.getElem_toList]; rfl⟩
      by_cases hq : a[k] = b[k]
      · have hq2 : ((a[k].toNat : Int) != (b[k].toNat : Int)) = false := by rw [hq]; simp
        have HN : Hid (partF (a.data.toList.drop (k + 1)) (b.data.toList.drop (k + 1)) + (k + 1) = A) := by
          have e := HP.out
          rw [HG.out.1, HG.out.2, if_pos hq] at e
          have := HW.out.1
          show _ = _
          omega
        clear hq HP HG
        go_upto_region 5 with fail
        go_region
        go_wp2
        go_roundw
        case rel => exact ⟨k + 1, by omega, by simp, HN.out, HW.out.2.drew⟩
        case measure => simp [intOf]; omega
      · have hq2 : ((a[k].toNat : Int) != (b[k].toNat : Int)) = true := by
          simp only [bne_iff_ne, ne_eq, Int.natCast_inj]
          exact fun e => hq (UInt8.toNat_inj.1 e)
        have HN : Hid ((k : Int) = (A : Int)) := by
          have e := HP.out
          rw [HG.out.1, HG.out.2, if_neg hq] at e
          have := HW.out.1
          show _ = _
          omega
        clear hq HP HG
        go_upto_region 5 with fail
        go_region
        go_wp2
        go_ret
        exact ⟨congrArg (fun z => Ending.returned (.int .i64 z)) HN.out, HW.out.2.drew⟩
    · have hd : decide (k < min a.size b.size) = false := decide_eq_false hlt
      have HN : Hid (min (a.size : Int) (b.size : Int) = (A : Int)) := by
        have e := HW.out.1
        have h3 : partF (a.data.toList.drop k) (b.data.toList.drop k) = 0 := by
          have h4 := partF_le (a.data.toList.drop k) (b.data.toList.drop k)
          rw [List.length_drop, List.length_drop, Array.length_toList, Array.length_toList] at h4
          have h5 : a.data.size = a.size := rfl
          have h6 : b.data.size = b.size := rfl
          omega
        show _ = _
        omega
      go_wp2
      go_ret
      exact ⟨congrArg (fun z => Ending.returned (.int .i64 z)) HN.out, HW.out.2⟩
end Go.Proofs.YtlippoipjipcbaaGreatDoor

/-
  Package plan: what Parse answers, as a plain function.
-/
namespace Go.Proofs.YtlippoipjipcbaaGreatDoor
open Go Go.RowKit
open Wb
open Text.Tx (Wd wdc wds wordP wdA)

theorem wds_len (s : ByteArray) : ∀ (n i : Nat), s.size - i ≤ n → (wds s i).1.length ≤ s.size - i := by
  intro n
  induction n with
  | zero => intro i hi; rw [Text.Tx.wds_out s i (by omega)]; simp
  | succ n ih =>
    intro i hi
    by_cases h : i < s.size
    · rw [wds, dif_pos h]
      split
      · simp
      split
      · have := ih (i + 1) (by omega)
        omega
      split
      · simp
      · rename_i d e _
        split
        · simp
        split
        · have h1 : i + 1 ≤ max e (i + 1) := Nat.le_max_right _ _
          generalize max e (i + 1) = m at *
          have := ih m (by omega)
          simp only [List.length_cons]
          omega
        · simp
    · rw [Text.Tx.wds_out s i h]; simp
/-- a name is no longer than its line -/
theorem wds_fit (s : ByteArray) : ∀ (n i : Nat), s.size - i ≤ n → ∀ d ∈ (wds s i).1, d.k = 1 → d.t.size ≤ s.size := by
  intro n
  induction n with
  | zero => intro i hi d hd; rw [Text.Tx.wds_out s i (by omega)] at hd; cases hd
  | succ n ih =>
    intro i hi d hd hk
    by_cases h : i < s.size
    · rw [wds, dif_pos h] at hd
      split at hd
      · cases hd
      split at hd
      · exact ih (i + 1) (by omega) d hd hk
      split at hd
      · cases hd
      · rename_i d2 e hw
        split at hd
        · cases hd
        split at hd
        · have h1 : i + 1 ≤ max e (i + 1) := Nat.le_max_right _ _
          rcases List.mem_cons.1 hd with rfl | hd
          · unfold wordP at hw
            split at hw
            · split at hw
              · cases hw
              · injection hw with hw
                injection hw with hw _
                subst hw
                show (ByteArray.extract _ _ _).size ≤ _
                rw [ByteArray.size_extract]
                omega
            split at hw
            · split at hw
              · cases hw
              split at hw
              · cases hw
              · injection hw with hw
                injection hw with hw _
                subst hw
                simp at hk
            split at hw
            · split at hw
              · cases hw
              · injection hw with hw
                injection hw with hw _
                subst hw
                simp at hk
            split at hw
            · injection hw with hw
              injection hw with hw _
              subst hw
              simp at hk
            · cases hw
          · exact ih _ (by omega) d hd hk
        · cases hd
    · rw [Text.Tx.wds_out s i h] at hd; cases hd
/-- names are no longer than that -/
def Ft (M : Nat) (ws : List Wd) : Prop := ∀ d ∈ ws, d.k = 1 → d.t.size ≤ M
def RFt (M : Nat) (R : RdP) : Prop := ∀ s ∈ R.ss, s.d.size ≤ M ∧ s.u.size ≤ M
theorem Ft.take {M : Nat} {k : Int} {ws r : List Wd} {d : Wd} (h : Ft M ws) (e : takeP k ws = some (d, r)) : Ft M r ∧ (k = 1 → d.t.size ≤ M) := by
  obtain ⟨rfl, hd⟩ := takeP_len e
  exact ⟨fun x hx => h x (List.mem_cons_of_mem _ hx), fun e1 => h d (List.mem_cons_self ..) (by omega)⟩
theorem Ft.sign {M : Nat} {t : ByteArray} {ws r : List Wd} (h : Ft M ws) (e : signP t ws = some r) : Ft M r := by
  obtain ⟨d, rfl, -⟩ := signP_len e
  exact fun x hx => h x (List.mem_cons_of_mem _ hx)
theorem Ft.tries {M : Nat} {t t' : Int} {ws r : List Wd} (h : Ft M ws) (e : triesP t ws = .ok (t', r)) : Ft M r := by
  unfold triesP at e
  split at e
  · injection e with e; injection e with _ e; subst e; exact h
  · rename_i w2 h1
    split at e
    · cases e
    · rename_i d w3 h2
      injection e with e; injection e with _ e; subst e
      exact ((h.sign h1).take h2).1
theorem Ft.ending {M : Nat} {pv pv' : Int} {n : Nat} {u : ByteArray} {ws r : List Wd} (h : Ft M ws) (e : endP pv n ws = .ok (u, pv', r)) : Ft M r ∧ u.size ≤ M := by
  unfold endP at e
  split at e
  · rename_i w2 h1
    injection e with e; injection e with e1 e; injection e with _ e; subst e; subst e1
    split at h1
    · exact ⟨h.sign h1, Nat.zero_le _⟩
    · cases h1
  · split at e
    · injection e with e; injection e with e1 e; injection e with _ e; subst e; subst e1; exact ⟨h, Nat.zero_le _⟩
    · rename_i w2 h1
      split at e
      · cases e
      · rename_i d w3 h2
        injection e with e; injection e with e1 e; injection e with _ e; subst e; subst e1
        have q := (h.sign h1).take h2
        exact ⟨q.1, q.2 rfl⟩
theorem Ft.step {M : Nat} {R R' : RdP} {ws r : List Wd} (h : Ft M ws) (hR : RFt M R) (e : stepP R ws = .ok (R', r)) : Ft M r ∧ RFt M R' := by
  unfold stepP at e
  split at e
  · cases e
  · rename_i d w1 h1
    split at e
    · cases e
    · rename_i t w2 h2
      split at e
      · cases e
      · rename_i u pv w3 h3
        injection e with e; injection e with e1 e2; subst e1; subst e2
        have q1 := h.take h1
        have q2 := q1.1.tries h2
        have q3 := q2.ending h3
        refine ⟨q3.1, fun s hs => ?_⟩
        rcases List.mem_append.1 hs with hs | hs
        · exact hR s hs
        · rw [List.mem_singleton.1 hs]
          exact ⟨q1.2 rfl, q3.2⟩
theorem Ft.steps {M : Nat} : ∀ (f : Nat) (R R' : RdP) (ws : List Wd), Ft M ws → RFt M R → stepsP f R ws = .ok R' → RFt M R' ∧ R'.ats.length + R.ss.length = R'.ss.length + R.ats.length ∧ R.ss.length ≤ R'.ss.length
  | 0, _, _, _, _, _, e => by cases e
  | f + 1, R, R', [], _, hR, e => by
    rw [stepsP] at e
    injection e with e
    subst e
    exact ⟨hR, by omega, Nat.le_refl _⟩
  | f + 1, R, R', d :: r, h, hR, e => by
    rw [stepsP] at e
    split at e
    · cases e
    · rename_i w1 h1
      split at e
      · cases e
      · rename_i R2 w2 h2
        have q := (h.sign h1).step hR h2
        have l := stepP_len h2
        have q2 := Ft.steps f R2 R' w2 q.1 q.2 e
        exact ⟨q2.1, by omega, by omega⟩
theorem whole_fit {M : Nat} {ws : List Wd} {nm : ByteArray} {R : RdP} (h : Ft M ws) (e : wholeP ws = .ok (nm, R)) : nm.size ≤ M ∧ RFt M R ∧ R.ats.length = R.ss.length ∧ 1 ≤ R.ss.length := by
  unfold wholeP at e
  split at e
  · cases e
  · rename_i d w1 h1
    split at e
    · cases e
    · rename_i w2 h2
      split at e
      · cases e
      · rename_i R1 w3 h3
        split at e
        · cases e
        · rename_i R2 h4
          injection e with e; injection e with e1 e2; subst e1; subst e2
          have q1 := h.take h1
          have q2 := (q1.1.sign h2).step (R := ⟨0, [], []⟩) (fun s hs => by cases hs) h3
          have l := stepP_len h3
          have q3 := Ft.steps _ _ _ _ q2.1 q2.2 h4
          simp only [List.length_nil] at l
          exact ⟨q1.2 rfl, q3.1, by omega, by omega⟩
def plnZ : Pln := ⟨⟨#[]⟩, 0, []⟩
/-- what a line is read as: the plan, the error, its place -/
def parseW (line : ByteArray) (nm : ByteArray) (R : RdP) : Pln × Int × Int :=
  if (fErr ⟨nm, R.piv, R.ss⟩).1 ≠ 0 then (plnZ, (fErr ⟨nm, R.piv, R.ss⟩).1, R.ats.getD (fErr ⟨nm, R.piv, R.ss⟩).2.toNat 0)
  else if (line.toList == (printP ⟨nm, R.piv, R.ss⟩).toList) = false then (plnZ, 150, (partF line.data.toList (printP ⟨nm, R.piv, R.ss⟩).data.toList : Int))
  else (⟨nm, R.piv, R.ss⟩, 0, 0)
def parseP (line : ByteArray) : Pln × Int × Int :=
  if (wdA line).2.1 ≠ 0 then (plnZ, (wdA line).2.1, (wdA line).2.2)
  else match wholeP (wdA line).1 with
    | .error ws => (plnZ, 150, placeP ws line.size)
    | .ok (nm, R) => parseW line nm R
theorem firstErr_at {p : Pln} : ∀ (l : List Stp) (i : Nat), (firstErr p i l).1 ≠ 0 → (i : Int) ≤ (firstErr p i l).2 ∧ (firstErr p i l).2 < (i + l.length : Nat)
  | [], i, h => absurd rfl h
  | s :: r, i, h => by
    rw [firstErr] at h ⊢
    split
    · simp only [List.length_cons]
      omega
    · rename_i h1
      rw [if_neg h1] at h
      have := firstErr_at r (i + 1) h
      simp only [List.length_cons]
      omega
theorem fErr_at {p : Pln} (h1 : 1 ≤ p.ss.length) (h : (fErr p).1 ≠ 0) : 0 ≤ (fErr p).2 ∧ (fErr p).2 < (p.ss.length : Int) := by
  unfold fErr at h ⊢
  split
  · simp only; omega
  split
  · omega
  split
  · simp only; omega
  split
  · simp only; omega
  · rename_i h2 h3 h4 h5
    rw [if_neg h2, if_neg h3, if_neg h4, if_neg h5] at h
    have := firstErr_at p.ss 0 h
    omega
end Go.Proofs.YtlippoipjipcbaaGreatDoor

/-
  Package plan: Parse.
-/
namespace Go.Proofs.YtlippoipjipcbaaGreatDoor
open Go Go.RowKit
open Wb
open Text.Tx (Wd wdc wds wordP wdA)

/-- what Parse hands out -/
def PsPost (B : Nat) (w : World) (A : Pln × Int × Int) (e : Ending) (w' : World) : Prop := ∃ v, e = .returned (.tuple #[plv A.1 v, .int .i64 A.2.1, .int .i64 A.2.2]) ∧ w'.ownsRow B 55 3 v A.1.ss.length (A.1.ss.flatMap stl) ∧ Below w.heap.size w w'
theorem sts_of {B : Nat} {w : World} {v : Value} {ss : List Stp} (h : w.ownsRow B 55 3 v ss.length (ss.flatMap stl)) : StsAt w v ss := by
  have h0 := h
  rcases h.2 with ⟨rfl, h1⟩ | ⟨g, cap, cur, rfl, _, hh, h1, h2, h3, h4⟩
  · obtain rfl : ss = [] := List.eq_nil_of_length_eq_zero h1
    exact ⟨none, 0, rfl, Nat.le_refl _, Nat.zero_le _, fun k s hs => by simp at hs⟩
  · refine ⟨some ⟨g, 0, none⟩, cap, rfl, h1, h2, fun k s hs => ⟨g, 0, rfl, fun j u hj => ?_⟩⟩
    have hk := (List.getElem?_eq_some_iff.1 hs).1
    have hj3 : j < 3 := (List.getElem?_eq_some_iff.1 hj).1
    have h9 := World.ownsRow.cellAt h0 (k * 3 + j) (by omega)
    rw [Nat.zero_add, h9]
    have hf : ∀ (l : List Stp) (k : Nat), l[k]? = some s → (l.flatMap stl)[k * 3 + j]? = some u := by
      intro l
      induction l with
      | nil => intro k h; simp at h
      | cons x r ih =>
        intro k h
        cases k with
        | zero =>
          simp at h
          subst h
          rw [List.flatMap_cons, Nat.zero_mul, Nat.zero_add, List.getElem?_append_left (by show j < 3; omega)]
          exact hj
        | succ k =>
          rw [List.flatMap_cons, List.getElem?_append_right (by show 3 ≤ _; omega)]
          show (r.flatMap stl)[(k + 1) * 3 + j - 3]? = _
          rw [show (k + 1) * 3 + j - 3 = k * 3 + j by omega]
          exact ih k (by simpa using h)
    exact hf ss k hs
theorem ownsRow_weak {B B2 : Nat} {w : World} {e : TypeId} {sz : Nat} {v : Value} {n : Nat} {xs : List Value} (h : w.ownsRow B2 e sz v n xs) (hB : B ≤ B2) : w.ownsRow B e sz v n xs := by
  refine ⟨h.1, ?_⟩
  rcases h.2 with h1 | ⟨g, cap, cur, e, hb, rest⟩
  · exact .inl h1
  · exact .inr ⟨g, cap, cur, e, Nat.le_trans hB hb, rest⟩
theorem psZ (B : Nat) {w w' : World} (a b : Int) (h : Below w.heap.size w w') : PsPost B w (plnZ, a, b) (.returned (.tuple #[.agg #[.string ⟨#[]⟩, .int .i64 0, .slice none 0 0], .int .i64 a, .int .i64 b])) w' := ⟨_, rfl, World.ownsRow_nil _ _ _ _, h⟩
theorem printP_size {p : Pln} (h : (fErr p).1 = 0) : (printP p).size ≤ 100000 := by
  have HG := fErr_good h
  have hx : ∀ x ∈ txF p 0 p.ss, x.size ≤ 500 := fun x hx => by
    obtain ⟨k, hk⟩ := List.mem_iff_getElem?.1 hx
    rw [txF_get] at hk
    cases hs : p.ss[k]? with
    | none => rw [hs] at hk; cases hk
    | some s =>
      rw [hs] at hk
      injection hk with hk
      subst hk
      have e := stepErr_small (HG.2.2.2.2.2 k s hs)
      have := stxt_size p (0 + k) s (by omega) (by omega)
      omega
  have := joinP_size (txF p 0 p.ss) (by rw [txF_len]; omega) hx
  unfold printP joinP
  rw [ByteArray.size_append, ByteArray.size_append]
  show p.nm.size + 2 + (List.toArray _).size ≤ 100000
  rw [List.size_toArray]
  omega
/-- the result's cell is written -/
theorem set3 {w w1 : World} {g : Nat} {Z : List Value} (L : LB w1 g 24 Z) (hz : Z.length = 3) (hg : w.heap.size ≤ g) (b1 : Below w.heap.size w w1) (x y z : Value) : ∃ W, W = ((w1.setCell ⟨g, 0, none⟩ x).setCell ⟨g, 1, none⟩ y).setCell ⟨g, 2, none⟩ z ∧ LB W g 24 [x, y, z] ∧ Below w.heap.size w W ∧ ∀ k, k ≠ g → W.heap[k]? = w1.heap[k]? := by
  refine ⟨_, rfl, ?_, Below.setCell (p := ⟨g, 2, none⟩) (Below.setCell (p := ⟨g, 1, none⟩) (Below.setCell (p := ⟨g, 0, none⟩) b1 hg _) hg _) hg _, fun k hk => ?_⟩
  · have e := ((L.set 0 x).set 1 y).set 2 z
    match Z, hz with
    | [_, _, _], _ => exact e
  · rw [set_other _ _ _ _ (by exact hk), set_other _ _ _ _ (by exact hk), set_other _ _ _ _ (by exact hk)]
theorem rdm_new {B : Nat} {w1 : World} {v : Value} {ws : List Wd} (h : Text.WdR B w1 v ws) (en : Int) : RdM w1.heap.size (w1.alloc (.cells #[v, .int .i64 en, .string ⟨#[]⟩, .int .i64 0, .slice none 0 0, .slice none 0 0] 51)) ws en ⟨#[]⟩ ⟨0, [], []⟩ := by
  refine ⟨_, _, ⟨v, lb_new w1 [v, .int .i64 en, .string ⟨#[]⟩, .int .i64 0, .slice none 0 0, .slice none 0 0] 51, (wdb_of h).same fun g hg => (up0 w1 _).block g hg⟩, World.ownsRow_nil _ _ _ _, World.ownsRow_nil _ _ _ _⟩
theorem wdA_size {line : ByteArray} (h : (wdA line).2.1 = 0) : line.size ≤ 65536 ∧ (wdA line).1.length ≤ 65536 ∧ Ft 65536 (wdA line).1 := by
  unfold wdA at h ⊢
  split at h
  · cases h
  · rename_i h1
    rw [if_neg h1]
    have := wds_len line line.size 0 (by omega)
    refine ⟨by omega, by omega, fun d hd hk => ?_⟩
    have := wds_fit line line.size 0 (by omega) d hd hk
    omega
theorem RdM.cells {b : Nat} {w : World} {ws : List Wd} {en : Int} {nm : ByteArray} {R : RdP} (h : RdM b w ws en nm R) : ∃ vs va, w.cell? ⟨b, 2, none⟩ = some (.string nm) ∧ w.cell? ⟨b, 3, none⟩ = some (.int .i64 R.piv) ∧ w.cell? ⟨b, 4, none⟩ = some vs ∧ w.cell? ⟨b, 5, none⟩ = some va ∧ StR b w vs R.ss ∧ AtR b w va R.ats := by
  obtain ⟨vs, va, ⟨vw, L, -⟩, h2, h3⟩ := h
  exact ⟨vs, va, L.cell 2 _ rfl, L.cell 3 _ rfl, L.cell 4 _ rfl, L.cell 5 _ rfl, h2, h3⟩
/-- a place of a step -/
theorem atR_cell {b : Nat} {w : World} {va : Value} {l : List Int} (h : AtR b w va l) (j : Nat) (hj : j < l.length) : ∃ g, ∃ c : Nat, va = .slice (some ⟨g, 0, none⟩) l.length c ∧ l.length ≤ c ∧ c ≤ maxLen ∧ w.cell? ⟨g, j, none⟩ = some (.int .i64 (l.getD j 0)) ∧ b < g := by
  have h0 := h
  rcases h.2 with ⟨_, h1⟩ | ⟨g, cap, cur, rfl, hbg, hh, h1, h2, h3, h4⟩
  · omega
  · refine ⟨g, cap, rfl, h1, h2, ?_, hbg⟩
    have h9 := World.ownsRow.cellAt h0 j (by omega)
    rw [h9, List.getElem?_map, List.getElem?_eq_getElem hj, List.getD_eq_getElem?_getD, List.getElem?_eq_getElem hj]
    rfl
set_option maxRecDepth 100000 in
set_option maxHeartbeats 8000000 in
theorem parse_any (line : ByteArray) (w : World) (hT : Text.WTab w) :
    Calls Tryz.prog 11 #[.string line] w fun e w' => PsPost w.heap.size w (parseP line) e w' := by
  have HWD : Hid (∀ w', Below w.heap.size w w' → Calls Tryz.prog 22 #[.string line] w' fun e w'' => ∃ v, e = .returned (.tuple #[v, .int .i64 (wdA line).2.1, .int .i64 (wdA line).2.2]) ∧ Text.WdR w'.heap.size w'' v (wdA line).1 ∧ Below w'.heap.size w' w'') := fun w' hb => Text.words_any line w' (hT.kept hb)
  have HTT : Hid (∀ w', Below w.heap.size w w' → Text.WTab w') := fun w' hb => hT.kept hb
  obtain ⟨A, hA⟩ : ∃ A, parseP line = A := ⟨_, rfl⟩
  rw [hA]
  unfold parseP at hA
  have L0 := lb_new w [.string ⟨#[]⟩, .int .i64 0, .slice none 0 0] 24
  have HL0 : Hid (∀ w', Below (w.alloc (.cells #[.string ⟨#[]⟩, .int .i64 0, .slice none 0 0] 24)).heap.size (w.alloc (.cells #[.string ⟨#[]⟩, .int .i64 0, .slice none 0 0] 24)) w' → LB w' w.heap.size 24 [.string ⟨#[]⟩, .int .i64 0, .slice none 0 0] ∧ Below w.heap.size w w') := fun w' hb => ⟨L0.kept hb, andThen (up0 w _) hb⟩
  have HB0 : Hid (Below w.heap.size w (w.alloc (.cells #[.string ⟨#[]⟩, .int .i64 0, .slice none 0 0] 24))) := up0 _ _
  clear L0 hT
  by_cases h1 : (wdA line).2.1 ≠ 0
  · rw [if_pos h1] at hA
    have h2 : ((wdA line).2.1 != 0) = true := by simpa using h1
    generalize wdA line = X at *
    obtain ⟨x1, x2, x3⟩ := X
    simp only at HWD h2 hA h1
    subst hA
    clear h1
    go_enter Tryz.func11, Tryz.ntmps11
    go_wp2_with fail
    refine (HWD.out _ HB0.out).mono ?_
    rintro e w1 ⟨v1, rfl, -, b1⟩
    have H1 : Hid (LB w1 w.heap.size 24 [.string ⟨#[]⟩, .int .i64 0, .slice none 0 0] ∧ Below w.heap.size w w1) := HL0.out _ b1
    have c0 := H1.out.1.cell 0 _ rfl
    have c1 := H1.out.1.cell 1 _ rfl
    have c2 := H1.out.1.cell 2 _ rfl
    have f0 := H1.out.1.free 0
    have f1 := H1.out.1.free 1
    have f2 := H1.out.1.free 2
    clear b1 HWD
    go_wp2_with fail
    obtain ⟨W9, e9, l9, b9, -⟩ := set3 H1.out.1 rfl (Nat.le_refl _) H1.out.2 (.string ⟨#[]⟩) (.int .i64 0) (.slice none 0 0)
    rw [← e9]
    have y0 := l9.cell 0 _ rfl
    have y1 := l9.cell 1 _ rfl
    have y2 := l9.cell 2 _ rfl
    refine bodyPost_ret (by simp [results, Tryz.results11, go_sem, y0, y1, y2]; try rfl) rfl ?_
    exact psZ _ _ _ b9
  · rw [if_neg h1] at hA
    have h2 : (wdA line).2.1 = 0 := by simpa using h1
    obtain ⟨hsz, hwl, hft⟩ := wdA_size h2
    have HFT : Hid (Ft 65536 (wdA line).1) := hft
    clear hft h1
    generalize wdA line = X at *
    obtain ⟨ws, x2, x3⟩ := X
    simp only at HWD h2 hA hwl HFT
    subst h2
    have HWH : Hid (∀ b w', RdM b w' ws (line.size : Int) ⟨#[]⟩ ⟨0, [], []⟩ → Calls Tryz.prog 23 #[.pointer (some ⟨b, 0, none⟩)] w' fun e w'' => WhPost b (line.size : Int) w' (wholeP ws) e w'') := fun b w' k => whole_any b ws _ _ w' k (by omega)
    cases hw : wholeP ws with
    | error r =>
      rw [hw] at hA HWH
      simp only at hA
      subst hA
      have HPL : Hid (∀ b w' nm pv vs va, RdW b w' r (line.size : Int) nm pv vs va → Calls Tryz.prog 24 #[.pointer (some ⟨b, 0, none⟩)] w' fun e w'' => e = .returned (.int .i64 (placeP r line.size)) ∧ Below w'.heap.size w' w'') := fun b w' nm pv vs va k => place_any b r line.size nm pv vs va w' k
      generalize placeP r line.size = P at *
      clear hw HFT
      go_enter Tryz.func11, Tryz.ntmps11
      go_wp2_with fail
      refine (HWD.out _ HB0.out).mono ?_
      rintro e w1 ⟨v1, rfl, k1, b1⟩
      obtain ⟨a1, c1, rfl⟩ := k1.shape
      have H1 : Hid (LB w1 w.heap.size 24 [.string ⟨#[]⟩, .int .i64 0, .slice none 0 0] ∧ Below w.heap.size w w1) := HL0.out _ b1
      have HM : Hid (RdM w1.heap.size (w1.alloc (.cells #[.slice a1 ws.length c1, .int .i64 (line.size : Int), .string ⟨#[]⟩, .int .i64 0, .slice none 0 0, .slice none 0 0] 51)) ws (line.size : Int) ⟨#[]⟩ ⟨0, [], []⟩) := rdm_new k1 _
      clear b1 HWD k1
      go_wp2_with fail
      refine (HWH.out _ _ HM.out).mono ?_
      rintro e w2 ⟨rfl, ⟨nm2, pv2, vs2, va2, k2⟩, b2⟩
      have H2 : Hid (LB w2 w.heap.size 24 [.string ⟨#[]⟩, .int .i64 0, .slice none 0 0] ∧ Below w.heap.size w w2 ∧ RdW w1.heap.size w2 r (line.size : Int) nm2 pv2 vs2 va2) := ⟨(b2.block _ H1.out.1.lt).trans (H1.out.1.kept (up0 _ _)), (up H1.out.2 _).trans (b2.mono H1.out.2.size), k2⟩
      clear k2 b2 H1 HM HWH
      go_wp2_with fail
      refine (HPL.out _ _ _ _ _ _ H2.out.2.2).mono ?_
      rintro e w3 ⟨rfl, b3⟩
      have H3 : Hid (LB w3 w.heap.size 24 [.string ⟨#[]⟩, .int .i64 0, .slice none 0 0] ∧ Below w.heap.size w w3) := ⟨H2.out.1.kept b3, andThen H2.out.2.1 b3⟩
      have c0 := H3.out.1.cell 0 _ rfl
      have c1 := H3.out.1.cell 1 _ rfl
      have c2 := H3.out.1.cell 2 _ rfl
      have f0 := H3.out.1.free 0
      have f1 := H3.out.1.free 1
      have f2 := H3.out.1.free 2
      clear b3 HPL H2
      go_wp2_with fail
      obtain ⟨W9, e9, l9, b9, -⟩ := set3 H3.out.1 rfl (Nat.le_refl _) H3.out.2 (.string ⟨#[]⟩) (.int .i64 0) (.slice none 0 0)
      rw [← e9]
      have y0 := l9.cell 0 _ rfl
      have y1 := l9.cell 1 _ rfl
      have y2 := l9.cell 2 _ rfl
      refine bodyPost_ret (by simp [results, Tryz.results11, go_sem, y0, y1, y2]; try rfl) rfl ?_
      exact psZ _ _ _ b9
    | ok q =>
      obtain ⟨nm, R⟩ := q
      rw [hw] at hA HWH
      simp only at hA
      obtain ⟨ft1, ft2, ft3, ft4⟩ := whole_fit HFT.out hw
      have HPF : Hid (PFit ⟨nm, R.piv, R.ss⟩) := ⟨by show nm.size ≤ _; omega, fun s hs => by have := (ft2 s hs).1; omega, fun s hs => by have := (ft2 s hs).2; omega⟩
      have HAL : Hid (R.ats.length = R.ss.length ∧ 1 ≤ R.ss.length) := ⟨ft3, ft4⟩
      clear hw HFT ft1 ft2 ft3 ft4
      have HFA : Hid (∀ w' v, Below w.heap.size w w' → StsAt w' v R.ss → Calls Tryz.prog 21 #[.agg #[.string nm, .int .i64 R.piv, v]] w' fun e w'' => e = .returned (.tuple #[.int .i64 (fErr ⟨nm, R.piv, R.ss⟩).1, .int .i64 (fErr ⟨nm, R.piv, R.ss⟩).2]) ∧ Below w'.heap.size w' w'') := fun w' v hb hs => pfault_any ⟨nm, R.piv, R.ss⟩ v w' hs (HTT.out _ hb).lets HPF.out
      have HPR : Hid (∀ w' v, Below w.heap.size w w' → StsAt w' v R.ss → Calls Tryz.prog 8 #[.agg #[.string nm, .int .i64 R.piv, v]] w' fun e w'' => e = .returned (.tuple #[.string (printA ⟨nm, R.piv, R.ss⟩).1, .int .i64 (printA ⟨nm, R.piv, R.ss⟩).2]) ∧ Below w'.heap.size w' w'') := fun w' v hb hs => pprint_any ⟨nm, R.piv, R.ss⟩ v w' hs (HTT.out _ hb).lets (HTT.out _ hb).nt HPF.out
      unfold parseW at hA
      go_enter Tryz.func11, Tryz.ntmps11
      go_wp2_with fail
      refine (HWD.out _ HB0.out).mono ?_
      rintro e w1 ⟨v1, rfl, k1, b1⟩
      obtain ⟨a1, c1, rfl⟩ := k1.shape
      have H1 : Hid (LB w1 w.heap.size 24 [.string ⟨#[]⟩, .int .i64 0, .slice none 0 0] ∧ Below w.heap.size w w1) := HL0.out _ b1
      have HM : Hid (RdM w1.heap.size (w1.alloc (.cells #[.slice a1 ws.length c1, .int .i64 (line.size : Int), .string ⟨#[]⟩, .int .i64 0, .slice none 0 0, .slice none 0 0] 51)) ws (line.size : Int) ⟨#[]⟩ ⟨0, [], []⟩) := rdm_new k1 _
      clear b1 HWD k1
      go_wp2_with fail
      refine (HWH.out _ _ HM.out).mono ?_
      rintro e w2 ⟨rfl, k2, b2⟩
      have hbb : w.heap.size < w1.heap.size := H1.out.1.lt
      have H2 : Hid (LB w2 w.heap.size 24 [.string ⟨#[]⟩, .int .i64 0, .slice none 0 0] ∧ Below w.heap.size w w2 ∧ RdM w1.heap.size w2 [] (line.size : Int) nm R) := ⟨(b2.block _ H1.out.1.lt).trans (H1.out.1.kept (up0 _ _)), (up H1.out.2 _).trans (b2.mono H1.out.2.size), k2⟩
      clear k2 b2 H1 HM HWH HL0 HB0
      generalize w1.heap.size = b at *
      obtain ⟨vs, va, r2, r3, r4, r5, qs, qa⟩ := H2.out.2.2.cells
      obtain ⟨av, cs, rfl⟩ := ownsRow_shape qs
      have HV : Hid (StR b w2 (.slice av R.ss.length cs) R.ss ∧ AtR b w2 va R.ats) := ⟨qs, qa⟩
      clear qs qa
      go_wp2_with fail
      refine (HFA.out _ _ H2.out.2.1 (sts_of HV.out.1)).mono ?_
      rintro e w3 ⟨rfl, b3⟩
      have H3 : Hid (LB w3 w.heap.size 24 [.string ⟨#[]⟩, .int .i64 0, .slice none 0 0] ∧ Below w.heap.size w w3 ∧ RdM b w3 [] (line.size : Int) nm R ∧ (StR b w3 (.slice av R.ss.length cs) R.ss ∧ AtR b w3 va R.ats)) := ⟨H2.out.1.kept b3, andThen H2.out.2.1 b3, H2.out.2.2.kept b3, rows_chg HV.out fun k _ hk => b3.block k hk⟩
      have r2' : w3.cell? ⟨b, 2, none⟩ = some (.string nm) := (b3.cell (p := ⟨b, 2, none⟩) H2.out.2.2.lt).trans r2
      have r3' : w3.cell? ⟨b, 3, none⟩ = some (.int .i64 R.piv) := (b3.cell (p := ⟨b, 3, none⟩) H2.out.2.2.lt).trans r3
      have r4' : w3.cell? ⟨b, 4, none⟩ = some (.slice av R.ss.length cs) := (b3.cell (p := ⟨b, 4, none⟩) H2.out.2.2.lt).trans r4
      have r5' : w3.cell? ⟨b, 5, none⟩ = some va := (b3.cell (p := ⟨b, 5, none⟩) H2.out.2.2.lt).trans r5
      clear b3 H2 HFA r2 r3 r4 r5 HV
      by_cases hE : (fErr ⟨nm, R.piv, R.ss⟩).1 ≠ 0
      · rw [if_pos hE] at hA
        have hJ := fErr_at (p := ⟨nm, R.piv, R.ss⟩) HAL.out.2 hE
        have hE2 : ((fErr ⟨nm, R.piv, R.ss⟩).1 != 0) = true := by simpa using hE
        clear hE HPR HPF
        generalize fErr ⟨nm, R.piv, R.ss⟩ = F at *
        obtain ⟨E, J⟩ := F
        simp only at hA hJ hE2
        obtain ⟨j, rfl⟩ : ∃ j : Nat, J = (j : Int) := ⟨J.toNat, by omega⟩
        rw [Int.toNat_natCast] at hA
        have hj : j < R.ats.length := by rw [HAL.out.1]; omega
        obtain ⟨g, ca, rfl, hc1, hc2, x5, hbg⟩ := atR_cell H3.out.2.2.2.2 j hj
        unfold maxLen at hc2
        have hgw : g ≠ w.heap.size := by omega
        have hgw2 : w.heap.size ≠ g := by omega
        have hgb : b ≠ w.heap.size := by omega
        have hgb2 : w.heap.size ≠ b := by omega
        have hji : (0 : Int) ≤ (j : Int) ∧ (j : Int) < (R.ats.length : Int) := by omega
        obtain ⟨hj1, hj2⟩ := hji
        generalize R.ats.getD j 0 = P at *
        subst hA
        have c0 := H3.out.1.cell 0 _ rfl
        have c1 := H3.out.1.cell 1 _ rfl
        have c2 := H3.out.1.cell 2 _ rfl
        have f0 := H3.out.1.free 0
        have f1 := H3.out.1.free 1
        have f2 := H3.out.1.free 2
        have HC : Hid (LB w3.drew w.heap.size 24 [.string ⟨#[]⟩, .int .i64 0, .slice none 0 0] ∧ Below w.heap.size w w3.drew) := ⟨H3.out.1.kept (Below.drew (Below.refl _ _)), H3.out.2.1.drew⟩
        go_upto_region 9 with fail
        go_region
        go_wp2_with fail
        obtain ⟨W9, e9, l9, b9, -⟩ := set3 H3.out.1 rfl (Nat.le_refl _) H3.out.2.1 (.string ⟨#[]⟩) (.int .i64 0) (.slice none 0 0)
        rw [← e9]
        have y0 := l9.cell 0 _ rfl
        have y1 := l9.cell 1 _ rfl
        have y2 := l9.cell 2 _ rfl
        refine bodyPost_ret (by simp [results, Tryz.results11, go_sem, y0, y1, y2]; try rfl) rfl ?_
        exact psZ _ _ _ b9.drew
      · rw [if_neg hE] at hA
        have hE2 : (fErr ⟨nm, R.piv, R.ss⟩).1 = 0 := by simpa using hE
        have hPA : printA ⟨nm, R.piv, R.ss⟩ = (printP ⟨nm, R.piv, R.ss⟩, 0) := by unfold printA; rw [if_pos hE2]
        rw [hPA] at HPR
        simp only at HPR
        clear hE hPA
        have HTS : Hid ((printP ⟨nm, R.piv, R.ss⟩).size ≤ 100000) := printP_size hE2
        have HPT : Hid (∀ w', Calls Tryz.prog 25 #[.string line, .string (printP ⟨nm, R.piv, R.ss⟩)] w' fun e w'' => e = .returned (.int .i64 (partF line.data.toList (printP ⟨nm, R.piv, R.ss⟩).data.toList : Int)) ∧ Below w'.heap.size w' w'') := fun w' => parting_any line _ w' (by omega) HTS.out
        generalize fErr ⟨nm, R.piv, R.ss⟩ = F at *
        obtain ⟨E, J⟩ := F
        simp only at hE2
        subst hE2
        generalize partF line.data.toList (printP ⟨nm, R.piv, R.ss⟩).data.toList = PT at *
        generalize printP ⟨nm, R.piv, R.ss⟩ = T at *
        go_wp2_with fail
        refine (HPR.out _ _ H3.out.2.1 (sts_of H3.out.2.2.2.1)).mono ?_
        rintro e w4 ⟨rfl, b4⟩
        have H4 : Hid (LB w4 w.heap.size 24 [.string ⟨#[]⟩, .int .i64 0, .slice none 0 0] ∧ Below w.heap.size w w4 ∧ StR b w4 (.slice av R.ss.length cs) R.ss) := ⟨H3.out.1.kept b4, andThen H3.out.2.1 b4, (rows_chg H3.out.2.2.2 fun k _ hk => b4.block k hk).1⟩
        have s2 : w4.cell? ⟨b, 2, none⟩ = some (.string nm) := (b4.cell (p := ⟨b, 2, none⟩) H3.out.2.2.1.lt).trans r2'
        have s3 : w4.cell? ⟨b, 3, none⟩ = some (.int .i64 R.piv) := (b4.cell (p := ⟨b, 3, none⟩) H3.out.2.2.1.lt).trans r3'
        have s4 : w4.cell? ⟨b, 4, none⟩ = some (.slice av R.ss.length cs) := (b4.cell (p := ⟨b, 4, none⟩) H3.out.2.2.1.lt).trans r4'
        clear b4 H3 HPR r2' r3' r4' r5' HTS HPF
        cases hq : (line.toList == T.toList) with
        | false =>
          rw [hq] at hA
          rw [if_pos rfl] at hA
          subst hA
          go_wp2_with fail
          refine (HPT.out _).mono ?_
          rintro e w5 ⟨rfl, b5⟩
          have H5 : Hid (LB w5 w.heap.size 24 [.string ⟨#[]⟩, .int .i64 0, .slice none 0 0] ∧ Below w.heap.size w w5) := ⟨H4.out.1.kept b5, andThen H4.out.2.1 b5⟩
          have c0 := H5.out.1.cell 0 _ rfl
          have c1 := H5.out.1.cell 1 _ rfl
          have c2 := H5.out.1.cell 2 _ rfl
          have f0 := H5.out.1.free 0
          have f1 := H5.out.1.free 1
          have f2 := H5.out.1.free 2
          clear b5 HPT s2 s3 s4
          go_wp2_with fail
          obtain ⟨W9, e9, l9, b9, -⟩ := set3 H5.out.1 rfl (Nat.le_refl _) H5.out.2 (.string ⟨#[]⟩) (.int .i64 0) (.slice none 0 0)
          rw [← e9]
          have y0 := l9.cell 0 _ rfl
          have y1 := l9.cell 1 _ rfl
          have y2 := l9.cell 2 _ rfl
          refine bodyPost_ret (by simp [results, Tryz.results11, go_sem, y0, y1, y2]; try rfl) rfl ?_
          exact psZ _ _ _ b9
        | true =>
          rw [hq] at hA
          rw [if_neg (by decide)] at hA
          subst hA
          have c0 := H4.out.1.cell 0 _ rfl
          have c1 := H4.out.1.cell 1 _ rfl
          have c2 := H4.out.1.cell 2 _ rfl
          have f0 := H4.out.1.free 0
          have f1 := H4.out.1.free 1
          have f2 := H4.out.1.free 2
          go_wp2_with fail
          obtain ⟨W9, e9, l9, b9, o9⟩ := set3 H4.out.1 rfl (Nat.le_refl _) H4.out.2.1 (.string nm) (.int .i64 R.piv) (.slice av R.ss.length cs)
          rw [← e9]
          have y0 := l9.cell 0 _ rfl
          have y1 := l9.cell 1 _ rfl
          have y2 := l9.cell 2 _ rfl
          refine bodyPost_ret (by simp [results, Tryz.results11, go_sem, y0, y1, y2]; try rfl) rfl ?_
          have hrow : W9.ownsRow (b + 1) 55 3 (.slice av R.ss.length cs) R.ss.length (R.ss.flatMap stl) := ownsRow_same H4.out.2.2 fun k hk => o9 k (by have := (World.ownsRow.lt H4.out.2.2 k hk).1; omega)
          exact ⟨_, rfl, ownsRow_weak hrow (by omega), b9⟩
end Go.Proofs.YtlippoipjipcbaaGreatDoor
