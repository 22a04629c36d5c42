/-
  wire: ReadFrame.
-/
import Derived.Test.YtfccimacloagiaaDoorWalk6
import Derived.Deep.RegionHeld
namespace Go.Proofs.YtfccimacloagiaaDoor
open Go Go.RowKit
open Wb

def sum4 (l : List Nat) : Nat := l.getD 0 0 + 256 * l.getD 1 0 + 65536 * l.getD 2 0 + 16777216 * l.getD 3 0
/-- ReadFrame's answer behind a length of n bytes that was read at p up to q -/
def rfAt (l : List Nat) (p q n : Nat) : List Nat × Int × Nat :=
  if n = 0 then ([], 0, 14)
  else if 1048576 < n then ([], 0, 13)
  else if l.length < q + n + 5 then ([], 0, 10)
  else if l.getD (q + n + 4) 0 ≠ 165 then ([], 0, 15)
  else if sum4 (l.drop (q + n)) ≠ Wm.crc ((l.take (q + n)).drop p) then ([], 0, 16)
  else ((l.take (q + n)).drop q, ((q + n + 5 : Nat) : Int), 0)
def rf (l : List Nat) (p : Int) : List Nat × Int × Nat :=
  if (Wn.ru l p).2.2 ≠ 0 then ([], 0, (Wn.ru l p).2.2) else rfAt l p.toNat (Wn.ru l p).2.1.toNat (Wn.ru l p).1
theorem rf_err (l : List Nat) (p : Int) (e : Nat) (he : e ≠ 0) (h : Wn.ru l p = (0, 0, e)) : rf l p = ([], 0, e) := by
  unfold rf
  rw [h]
  simp [he]
theorem rf_at (l : List Nat) (q v n : Nat) (h : Wn.ru l (q : Int) = (v, ((q + n : Nat) : Int), 0)) : rf l (q : Int) = rfAt l q (q + n) v := by
  unfold rf
  rw [h, if_neg (by simp), Int.toNat_natCast, Int.toNat_natCast]

theorem drop4 (l : List Nat) (k : Nat) (h : k + 4 ≤ l.length) : ∃ a b c d r, l.drop k = a :: b :: c :: d :: r ∧ sum4 (l.drop k) = a + 256 * b + 65536 * c + 16777216 * d := by
  have hl : 4 ≤ (l.drop k).length := by rw [List.length_drop]; omega
  generalize l.drop k = m at *
  match m, hl with
  | a :: b :: c :: d :: r, _ => exact ⟨a, b, c, d, r, rfl, rfl⟩

theorem ret3 (v c : Value) (a b : Int) (h : a = b) : Ending.returned (.tuple #[v, .int .i64 a, c]) = .returned (.tuple #[v, .int .i64 b, c]) := by rw [h]

set_option maxHeartbeats 2000000 in
theorem readFrame_any (v : Value) (l : List Nat) (p : Int) (w : World) (hT : Tab w) (h : Bs w v l) (hlen : l.length ≤ 140737488355328) :
    Calls Tryd.prog 30 #[v, .int .i64 p] w fun e w' => ∃ v', e = .returned (.tuple #[v', .int .i64 (rf l p).2.1, .int .i64 ((rf l p).2.2 : Int)]) ∧ Own w.heap.size w' v' (rf l p).1 ∧ Below w.heap.size w w' := by
  have hru := readUint_any v l p w h hlen
  unfold tup3 at hru
  rcases Wn.ru_cases l p with ⟨e, he, he2, hr⟩ | ⟨q, x, n, rfl, hq, hn, hrd, hr⟩
  · rw [rf_err l p e he hr]
    rw [hr] at hru
    have HRU : Hid (Calls Tryd.prog 48 #[v, .int .i64 p] w fun e' w' => e' = .returned (.tuple #[.int .u64 ((0 : Nat) : Int), .int .i64 0, .int .i64 (e : Int)]) ∧ w = w') := hru
    have d0 : ((e : Int) != 0) = true := by rw [bne_iff_ne]; omega
    clear hru hr
    go_enter Tryd.func30, Tryd.ntmps30
    go_wp2_with fail
    refine HRU.out.mono ?_
    rintro e w1 ⟨rfl, rfl⟩
    clear HRU
    go_wp2
    go_ret3
    exact ⟨_, rfl, Own.nil _ _, Below.refl _ _⟩
  · rw [rf_at l q x n hr]
    rw [hr] at hru
    generalize hq' : q + n = t at *
    have hqt : q < t := by omega
    have HRU : Hid (Calls Tryd.prog 48 #[v, .int .i64 (q : Int)] w fun e' w' => e' = .returned (.tuple #[.int .u64 (x : Int), .int .i64 (t : Int), .int .i64 ((0 : Nat) : Int)]) ∧ w = w') := hru
    clear hru hr hrd hq' hn
    obtain ⟨b, off, cap, rfl, hcap, hmx, hcell⟩ : ∃ b off cap, v = .slice (some ⟨b, off, none⟩) l.length cap ∧ l.length ≤ cap ∧ cap ≤ maxLen ∧ ∀ j (h : j < l.length), w.cell? ⟨b, off + j, none⟩ = some (.int .u8 (l[j] : Int)) := by
      rcases h.cases with ⟨rfl, _⟩ | ⟨_, b, off, cap, h1, h2, h3, h4⟩
      · simp at hq; omega
      · exact ⟨b, off, cap, h1, h2, h3, h4⟩
    unfold maxLen at hmx
    by_cases c1 : x = 0
    · have e1 : rfAt l q t x = ([], 0, 14) := by unfold rfAt; rw [if_pos c1]
      rw [e1]
      subst c1
      clear hcell e1
      go_enter Tryd.func30, Tryd.ntmps30
      go_wp2_with fail
      refine HRU.out.mono ?_
      rintro e w1 ⟨rfl, rfl⟩
      clear HRU
      go_wp2
      go_ret3
      exact ⟨_, rfl, Own.nil _ _, Below.refl _ _⟩
    have d1 : ((x : Int) == 0) = false := beq_eq_false_iff_ne.2 (by omega)
    by_cases c2 : 1048576 < x
    · have e1 : rfAt l q t x = ([], 0, 13) := by unfold rfAt; rw [if_neg c1, if_pos c2]
      rw [e1]
      have d2 : (1048576 : Int) < (x : Int) := by omega
      clear hcell e1 c1
      go_enter Tryd.func30, Tryd.ntmps30
      go_wp2_with fail
      refine HRU.out.mono ?_
      rintro e w1 ⟨rfl, rfl⟩
      clear HRU
      go_wp2
      go_ret3
      exact ⟨_, rfl, Own.nil _ _, Below.refl _ _⟩
    have d2 : ¬ (1048576 : Int) < (x : Int) := by omega
    by_cases c3 : l.length < t + x + 5
    · have e1 : rfAt l q t x = ([], 0, 10) := by unfold rfAt; rw [if_neg c1, if_neg c2, if_pos c3]
      rw [e1]
      have d3 : (l.length : Int) - ((t : Int) + (x : Int)) < 5 := by omega
      clear hcell e1 c1 c2
      go_enter Tryd.func30, Tryd.ntmps30
      go_wp2_with fail
      refine HRU.out.mono ?_
      rintro e w1 ⟨rfl, rfl⟩
      clear HRU
      go_wp2
      go_ret3
      exact ⟨_, rfl, Own.nil _ _, Below.refl _ _⟩
    have d3 : ¬ (l.length : Int) - ((t : Int) + (x : Int)) < 5 := by omega
    have c4lt : t + x + 4 < l.length := by omega
    have hc4 := hcell (t + x + 4) c4lt
    have g4 : l.getD (t + x + 4) 0 = l[t + x + 4] := by simp [List.getD, c4lt]
    by_cases c4 : l[t + x + 4] = 165
    · have d4 : ((165 : Int) != 165) = false := by decide
      rw [c4] at hc4
      have hsub1 := h.sub q (t + x) (by omega) (by omega)
      have hsub2 := h.sub t (t + x) (by omega) (by omega)
      have hsub3 := h.sub (t + x) l.length (by omega) (Nat.le_refl _)
      rw [List.take_of_length_le (Nat.le_refl _)] at hsub3
      obtain ⟨a4, b4, c4', d4', r4, hd4, hs4⟩ := drop4 l (t + x) (by omega)
      rw [hd4] at hsub3
      have hcrc := Wm.crc_lt _ hsub1.good
      obtain ⟨X, eX⟩ : ∃ X, X = (l.take (t + x)).drop q := ⟨_, rfl⟩
      obtain ⟨Y, eY⟩ : ∃ Y, Y = (l.take (t + x)).drop t := ⟨_, rfl⟩
      obtain ⟨s1, es1⟩ : ∃ s, s = a4 + 256 * b4 + 65536 * c4' + 16777216 * d4' := ⟨_, rfl⟩
      obtain ⟨s2, es2⟩ : ∃ s, s = Wm.crc X := ⟨_, rfl⟩
      have HS1 : Hid (((a4 + 256 * b4 + 65536 * c4' + 16777216 * d4' : Nat) : Int) = (s1 : Int)) := by show _ = _; rw [es1]
      have HS2 : Hid (Wm.crc [X].flatten = s2) := by show _ = _; rw [es2]; simp
      have hcp1 : ¬ cap = q := by omega
      have hcp2 : ¬ cap = t := by omega
      have hcp3 : ¬ cap = t + x := by omega
      rw [← eX] at hsub1
      rw [← eY] at hsub2
      have HB1 : Hid (∀ w', Below w.heap.size w w' → Bs w' (.slice (some ⟨b, off + q, none⟩) (t + x - q) (cap - q)) X) := fun w' hb => hsub1.kept hb
      have HB2 : Hid (∀ w', Below w.heap.size w w' → Bs w' (.slice (some ⟨b, off + t, none⟩) x (cap - t)) Y) := fun w' hb => by have := hsub2.kept hb; rwa [show t + x - t = x by omega] at this
      have HB3 : Hid (∀ w', Below w.heap.size w w' → Bs w' (.slice (some ⟨b, off + (t + x), none⟩) (l.length - (t + x)) (cap - (t + x))) (a4 :: b4 :: c4' :: d4' :: r4)) := fun w' hb => hsub3.kept hb
      have hYl : Y.length ≤ 140737488355328 := by rw [eY]; simp; omega
      have HT : Hid (∀ w', Below w.heap.size w w' → Tab w') := fun w' hb => hT.kept hb
      by_cases hs : s1 = s2
      · have e1 : rfAt l q t x = (Y, ((t + x + 5 : Nat) : Int), 0) := by
          unfold rfAt
          rw [if_neg c1, if_neg c2, if_neg c3, g4, if_neg (by simp [c4]), if_neg (by rw [hs4, ← es1, ← eX, ← es2]; simp [hs]), ← eY]
        rw [e1]
        have dq : ((s1 : Int) != (s2 : Int)) = false := by simp [hs]
        clear hs e1 hcell hsub1 hsub2 hsub3 hd4 hs4 hcrc eX eY es1 es2 g4 hT
        go_enter Tryd.func30, Tryd.ntmps30
        go_wp2_with fail
        refine HRU.out.mono ?_
        rintro e w1 ⟨rfl, rfl⟩
        clear HRU
        go_wp2
        go_region_held (fun _ => True) (exact trivial) (first
          | (go_at_call 49; refine (readSum_any _ a4 b4 c4' d4' r4 _ ?_).mono ?_; (exact HB3.out _ (by repeat (first | exact Below.refl _ _ | refine Below.drew ?_ | refine below_drewN ?_ _ | refine up ?_ _))); rw [HS1.out]; rintro e w' ⟨rfl, nn, rfl⟩)
          | (go_at_call 47; refine (sum_any _ [X] _ ?_ ?_).mono ?_; (exact HT.out _ (by repeat (first | exact Below.refl _ _ | refine Below.drew ?_ | refine below_drewN ?_ _ | refine up ?_ _))); (first | exact ps1 _ _ rfl _ (HB1.out _ (by repeat (first | exact Below.refl _ _ | refine Below.drew ?_ | refine below_drewN ?_ _ | refine up ?_ _))) | exact (ps1 _ _ rfl _ (HB1.out _ (by repeat (first | exact Below.refl _ _ | refine Below.drew ?_ | refine below_drewN ?_ _ | refine up ?_ _)))).kept (below_drewN (Below.refl _ _) _)); rw [HS2.out]; rintro e w' ⟨rfl, rfl⟩))
        all_goals
          go_wp2_with fail
          refine (own_any _ Y _ (HB2.out _ (by repeat (first | exact Below.refl _ _ | refine Below.drew ?_ | refine below_drewN ?_ _ | refine up ?_ _))) hYl).mono ?_
          rintro e w9 ⟨v9, rfl, ho9, b9⟩
          obtain ⟨ao9, cap9, rfl, _⟩ := ho9.bs.shape
          have R : Hid (Own w.heap.size w9 (.slice ao9 Y.length cap9) Y ∧ Below w.heap.size w w9) := ⟨ho9.mono (Below.size (w := w) (B := w.heap.size) (by repeat (first | exact Below.refl _ _ | refine Below.drew ?_ | refine below_drewN ?_ _ | refine up ?_ _))), andThen (by repeat (first | exact Below.refl _ _ | refine Below.drew ?_ | refine below_drewN ?_ _ | refine up ?_ _)) b9⟩
          clear ho9 b9
          go_wp2
          go_ret3
          exact ⟨_, ret3 _ _ _ _ (by omega), R.out.1, R.out.2⟩
      · have e1 : rfAt l q t x = ([], 0, 16) := by
          unfold rfAt
          rw [if_neg c1, if_neg c2, if_neg c3, g4, if_neg (by simp [c4]), if_pos (by rw [hs4, ← es1, ← eX, ← es2]; exact hs)]
        rw [e1]
        have dq : ((s1 : Int) != (s2 : Int)) = true := by rw [bne_iff_ne]; omega
        clear hs e1 hcell hsub1 hsub2 hsub3 hd4 hs4 hcrc eX eY es1 es2 g4 hT
        go_enter Tryd.func30, Tryd.ntmps30
        go_wp2_with fail
        refine HRU.out.mono ?_
        rintro e w1 ⟨rfl, rfl⟩
        clear HRU
        go_wp2
        go_region_held (fun _ => True) (exact trivial) (first
          | (go_at_call 49; refine (readSum_any _ a4 b4 c4' d4' r4 _ ?_).mono ?_; (exact HB3.out _ (by repeat (first | exact Below.refl _ _ | refine Below.drew ?_ | refine below_drewN ?_ _ | refine up ?_ _))); rw [HS1.out]; rintro e w' ⟨rfl, nn, rfl⟩)
          | (go_at_call 47; refine (sum_any _ [X] _ ?_ ?_).mono ?_; (exact HT.out _ (by repeat (first | exact Below.refl _ _ | refine Below.drew ?_ | refine below_drewN ?_ _ | refine up ?_ _))); (first | exact ps1 _ _ rfl _ (HB1.out _ (by repeat (first | exact Below.refl _ _ | refine Below.drew ?_ | refine below_drewN ?_ _ | refine up ?_ _))) | exact (ps1 _ _ rfl _ (HB1.out _ (by repeat (first | exact Below.refl _ _ | refine Below.drew ?_ | refine below_drewN ?_ _ | refine up ?_ _)))).kept (below_drewN (Below.refl _ _) _)); rw [HS2.out]; rintro e w' ⟨rfl, rfl⟩))
        all_goals
          go_wp2
          go_ret3
          exact ⟨_, rfl, Own.nil _ _, (by repeat (first | exact Below.refl _ _ | refine Below.drew ?_ | refine below_drewN ?_ _ | refine up ?_ _))⟩
    · have e1 : rfAt l q t x = ([], 0, 15) := by unfold rfAt; rw [if_neg c1, if_neg c2, if_neg c3, g4, if_pos c4]
      rw [e1]
      have d4 : ((l[t + x + 4] : Int) != 165) = true := by rw [bne_iff_ne]; omega
      have HC4 : w.cell? ⟨b, off + (t + x + 4), none⟩ = some (.int .u8 (l[t + x + 4] : Int)) := hc4
      clear e1 hcell hc4
      generalize l[t + x + 4] = y at *
      go_enter Tryd.func30, Tryd.ntmps30
      go_wp2_with fail
      refine HRU.out.mono ?_
      rintro e w1 ⟨rfl, rfl⟩
      clear HRU
      go_wp2
      go_ret3
      exact ⟨_, rfl, Own.nil _ _, Below.refl _ _⟩
end Go.Proofs.YtfccimacloagiaaDoor
