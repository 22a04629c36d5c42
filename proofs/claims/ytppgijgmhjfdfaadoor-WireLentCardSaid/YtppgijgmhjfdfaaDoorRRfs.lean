/-
  The reference's ReadFrames; both at any place.
-/
import Derived.Test.YtppgijgmhjfdfaaDoorRRf
import Derived.Test.YtppgijgmhjfdfaaDoorRuns
namespace Go.Proofs.YtppgijgmhjfdfaaDoor
open Go Go.RowKit Go.ChangeShapes Go.WideShapes
open Wb

set_option maxHeartbeats 1000000 in
theorem rrfs_any (v : Value) (l : List Nat) (p : Int) (f : Nat) (w : World) (h : Bs w v l) (hlen : l.length ≤ 140737488355328) (hp0 : 0 ≤ p) (hp1 : p ≤ (l.length : Int)) (hf : (l.length : Int) + 1 - p ≤ (f : Int)) (hfl : l.length ≤ 4000000000) :
    Calls Tryd.prog 14 #[v, .int .i64 p] w fun e w' => ∃ v', e = .returned (.tuple #[v', .int .i64 (rfs f l p).2]) ∧ OwnP w.heap.size w' v' (rfs f l p).1 ∧ Below w.heap.size w w' := by
  have hin := info22
  have hob := h
  obtain ⟨ao, cap, rfl, hl, hmx, _, _⟩ := h.shape
  obtain ⟨RB, hRB⟩ : ∃ RB, RB = (rfs f l p).1 := ⟨_, rfl⟩
  obtain ⟨RE, hRE⟩ : ∃ RE, RE = (rfs f l p).2 := ⟨_, rfl⟩
  rw [← hRB, ← hRE]
  have HS : Hid (RB = (rfs f l p).1 ∧ RE = (rfs f l p).2) := ⟨hRB, hRE⟩
  clear hRB hRE
  go_enter Tryd.func14, Tryd.ntmps14
  have hp0' : ¬ p < 0 := by omega
  have hp1' : ¬ (l.length : Int) < p := by omega
  go_wp2
  go_loopw [1, 6] (fun x o wr => ∃ (q : Int) (k : Nat) (done : List (List Nat)), x = .int .i64 q ∧ 0 ≤ q ∧ q ≤ (l.length : Int) ∧ (l.length : Int) + 1 - q ≤ (k : Int) ∧ (done.length : Int) ≤ q ∧ done ++ (rfs k l q).1 = RB ∧ (rfs k l q).2 = RE ∧ OwnP w.heap.size wr o done ∧ Below w.heap.size w wr) (fun x _ _ => l.length + 1 - (intOf x).toNat)
  case atStart => exact ⟨p, f, [], rfl, hp0, hp1, hf, by simpa using hp0, by rw [List.nil_append]; exact HS.out.1.symm, HS.out.2.symm, ⟨[], Row.nil _ _, rfl, fun j h => absurd h (Nat.not_lt_zero _)⟩, Below.refl _ _⟩
  case round =>
    obtain ⟨q, k, done, rfl, hq0, hq1, hk, hdl, hd1, hd2, hown, hbel⟩ := hrel
    clear HS
    obtain ⟨k', rfl⟩ : ∃ k', k = k' + 1 := ⟨k - 1, by omega⟩
    have hr := hob.kept hbel
    have hsz := hbel.size
    by_cases hok : (rf l q).2.2 = 0
    · obtain ⟨hp0', hp1', hp2'⟩ := rf_pos l q hok
      have HF : Hid (done ++ ((rf l q).1 :: (rfs k' l (rf l q).2.1).1) = RB ∧ (rfs k' l (rf l q).2.1).2 = RE) := by
        rw [rfs, if_pos hok] at hd1 hd2
        exact ⟨hd1, hd2⟩
      have hrf : rf l q = ((rf l q).1, (rf l q).2.1, 0) := Prod.ext rfl (Prod.ext rfl hok)
      have HRF : Hid (rf l q = ((rf l q).1, (rf l q).2.1, 0)) := hrf
      clear hd1 hd2 hok hrf
      generalize (rf l q).1 = body at *
      generalize (rf l q).2.1 = q2 at *
      go_wp2_with fail
      refine (rrf_any _ l q _ hr hlen).mono ?_
      rw [HRF.out]
      rintro e w2 ⟨v2, rfl, ho2, b2⟩
      obtain ⟨ao2, cap2, rfl, _⟩ := ho2.bs.shape
      obtain ⟨vs, hrow, hvl, hel⟩ := hown.kept b2
      have ho2' := ho2.mono hsz
      have hb2 := andThen hbel b2
      have hvs : vs.length ≤ 5000000000 := by omega
      have HO : Hid (∀ o, Row w.heap.size (w2.alloc o) u6 vs) := fun o => hrow.kept (up0 _ _)
      have hcell : ∀ t, (w2.alloc (.cells #[.slice ao2 body.length cap2] t)).cell? ⟨w2.heap.size, 0, none⟩ = some (.slice ao2 body.length cap2) := fun t => World.cell?_alloc_new w2 _ _ 0
      have HC : Hid (∀ t, (w2.alloc (.cells #[.slice ao2 body.length cap2] t)).cell? ⟨w2.heap.size, 0, none⟩ = some (.slice ao2 body.length cap2)) := hcell
      have hsz2 := hb2.size
      have HE : Hid (∀ j (h : j < vs.length) (h2 : j < done.length), Own w.heap.size w2 vs[j] done[j]) := hel
      clear ho2 b2 hel hcell hr hown
      go_wp2_with (at_builtin; refine wpList_push _ rfl (.tmp 29) (.tmp 31) 23 rfl w.heap.size hin Tryd.underlying23 _ vs rfl (HO.out _) w2.heap.size (.slice ao2 body.length cap2) rfl (HC.out _) rfl hvs (by simp; omega) ?_)
      intro v3 w3 hr3 b3 hg3
      have R : Hid (OwnP w.heap.size w3 v3 (done ++ [body]) ∧ Below w.heap.size w w3) := by
        refine ⟨⟨vs ++ [.slice ao2 body.length cap2], hr3, by simp [hvl], fun j a b => ?_⟩, (up hb2 _).trans b3⟩
        by_cases hj : j < vs.length
        · rw [List.getElem_append_left hj, List.getElem_append_left (by omega)]
          exact Own.grown (HO.out _) ((HE.out j hj (by omega)).kept (up0 _ _)) hg3
        · have ej : j = vs.length := by simp at a; omega
          subst ej
          rw [List.getElem_append_right (Nat.le_refl _), List.getElem_append_right (by omega)]
          simp only [hvl, Nat.sub_self, List.getElem_cons_zero]
          exact Own.grown (HO.out _) (ho2'.kept (up0 _ _)) hg3
      clear hr3 b3 hg3 HO HC HE hb2 hbel hrow
      go_wp2
      go_roundw
      case rel => exact ⟨q2, k', done ++ [body], rfl, by omega, by omega, by omega, by simp; omega, by rw [List.append_assoc]; exact HF.out.1, HF.out.2, R.out.1, R.out.2⟩
      case measure => simp [intOf]; omega
    · have HF : Hid (done = RB ∧ q = RE) := by
        rw [rfs, if_neg hok] at hd1 hd2
        exact ⟨by simpa using hd1, hd2⟩
      have hrf := rf_bad l q hok
      have hle := rf_le l q
      generalize (rf l q).2.2 = er at *
      have HRF : Hid (rf l q = ([], 0, er)) := hrf
      have d1 : ((er : Int) != 0) = true := by rw [bne_iff_ne]; omega
      clear hd1 hd2 hrf hok
      go_wp2_with fail
      refine (rrf_any _ l q _ hr hlen).mono ?_
      rw [HRF.out]
      rintro e w2 ⟨v2, rfl, ho2, b2⟩
      obtain ⟨ao2, cap2, rfl, _⟩ := ho2.bs.shape
      have R : Hid (OwnP w.heap.size w2 u6 RB ∧ Below w.heap.size w w2) := ⟨by rw [← HF.out.1]; exact hown.kept b2, andThen hbel b2⟩
      clear ho2 b2 hr hown hbel
      go_wp2
      go_ret2
      exact ⟨_, by rw [← HF.out.2]; rfl, R.out.1, R.out.2⟩

/-- ReadFrames' answer -/
def rfA (l : List Nat) (p : Int) : List (List Nat) × Int := if p < 0 ∨ (l.length : Int) < p then ([], 0) else rfs (l.length + 1) l p
theorem rfs_all (v : Value) (l : List Nat) (p : Int) (w : World) (hT : Tab w) (h : Bs w v l) (hfl : l.length ≤ 4000000000) :
    Calls Tryd.prog 15 #[v, .int .i64 p] w fun e w' => ∃ v', e = .returned (.tuple #[v', .int .i64 (rfA l p).2]) ∧ OwnP w.heap.size w' v' (rfA l p).1 ∧ Below w.heap.size w w' := by
  by_cases ho : p < 0 ∨ (l.length : Int) < p
  · have e : rfA l p = ([], 0) := by unfold rfA; rw [if_pos ho]
    rw [e]
    obtain ⟨ao, cap, rfl, _⟩ := h.shape
    go_enter Tryd.func15, Tryd.ntmps15
    go_wp2_with fail
    refine (outside_yes _ l _ _ h ho).mono ?_
    rintro e w1 ⟨rfl, rfl⟩
    clear h ho
    go_wp2
    go_ret2
    exact ⟨_, rfl, ⟨[], Row.nil _ _, rfl, fun j h => absurd h (Nat.not_lt_zero _)⟩, Below.refl _ _⟩
  · have e : rfA l p = rfs (l.length + 1) l p := by unfold rfA; rw [if_neg ho]
    rw [e]
    exact readFrames_any v l p (l.length + 1) w hT h (by omega) (by omega) (by omega) (by omega) hfl
theorem rrfs_all (v : Value) (l : List Nat) (p : Int) (w : World) (h : Bs w v l) (hfl : l.length ≤ 4000000000) :
    Calls Tryd.prog 14 #[v, .int .i64 p] w fun e w' => ∃ v', e = .returned (.tuple #[v', .int .i64 (rfA l p).2]) ∧ OwnP w.heap.size w' v' (rfA l p).1 ∧ Below w.heap.size w w' := by
  by_cases ho : p < 0 ∨ (l.length : Int) < p
  · have e : rfA l p = ([], 0) := by unfold rfA; rw [if_pos ho]
    rw [e]
    obtain ⟨ao, cap, rfl, _⟩ := h.shape
    clear h
    by_cases h0 : p < 0
    · clear ho
      go_enter Tryd.func14, Tryd.ntmps14
      go_wp2
      go_ret2
      exact ⟨_, rfl, ⟨[], Row.nil _ _, rfl, fun j h => absurd h (Nat.not_lt_zero _)⟩, Below.refl _ _⟩
    · have h1 : (l.length : Int) < p := by omega
      clear ho
      go_enter Tryd.func14, Tryd.ntmps14
      go_wp2
      go_ret2
      exact ⟨_, rfl, ⟨[], Row.nil _ _, rfl, fun j h => absurd h (Nat.not_lt_zero _)⟩, Below.refl _ _⟩
  · have e : rfA l p = rfs (l.length + 1) l p := by unfold rfA; rw [if_neg ho]
    rw [e]
    exact rrfs_any v l p (l.length + 1) w h (by omega) (by omega) (by omega) (by omega) hfl
end Go.Proofs.YtppgijgmhjfdfaaDoor
