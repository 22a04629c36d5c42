import Derived.Test.YtpikdngccgdhiaaDoorQR1
import Derived.Test.YtpikdngccgdhiaaDoorQM5
import Derived.Test.YtpikdngccgdhiaaDoorQM2
/-
  ManifestReads: the reference's take.
-/
namespace Go.Proofs.YtpikdngccgdhiaaDoor
open Go Go.RowKit
open Wb

/-- what take answers -/
def tk (l : List Nat) (p base : Int) : Int × Int × Nat := if (nx l (p, 0) base).2.2 ≠ 0 then (0, 0, (nx l (p, 0) base).2.2) else ((nx l (p, 0) base).1, (nx l (p, 0) base).2.1, 0)
set_option maxRecDepth 100000 in
set_option maxHeartbeats 4000000 in
theorem take_any (v : Value) (l : List Nat) (p base : Int) (w : World) (h : Bs w v l) (hl : l.length ≤ 140737488355328) (h0 : 0 ≤ base) (h1 : base ≤ 9223372036854775807) :
    Calls Tryd.prog 38 #[v, .int .i64 p, .int .i64 base] w fun e w' => e = .returned (.tuple #[.int .i64 (tk l p base).1, .int .i64 (tk l p base).2.1, .int .i64 ((tk l p base).2.2 : Int)]) ∧ w = w' := by
  have HRU : Hid (Calls Tryd.prog 54 #[v, .int .i64 p] w fun e w' => e = .returned (tup3 (Wn.ru l p).1 (Wn.ru l p).2.1 (Wn.ru l p).2.2) ∧ w = w') := rru_any v l p w h hl
  obtain ⟨ab, cb, rfl, _⟩ := h.shape
  unfold tup3 at HRU
  have hx := ru_lt l h.good p
  rcases hru : Wn.ru l p with ⟨x, q, e⟩
  rw [hru] at HRU hx
  simp only at HRU hx
  clear h
  by_cases he : e = 0
  · subst he
    rw [show ((0 : Nat) : Int) = 0 from rfl] at HRU
    by_cases hg : 9223372036854775807 - base < (x : Int)
    · have HN : Hid (tk l p base = (0, 0, 85)) := by
        show _ = _
        have h9 : nx l (p, 0) base = (0, (p, 85)) := by
          unfold nx
          rw [if_neg (by simp), hru, if_neg (by simp), if_pos hg]
        unfold tk
        rw [h9]
        rfl
      clear hru
      rw [HN.out]
      go_enter Tryd.func38, Tryd.ntmps38
      go_wp2_with (go_at_call 54; refine HRU.out.mono ?_; rintro e w1 ⟨rfl, rfl⟩)
      go_ret3
      exact ⟨rfl, rfl⟩
    · have HN : Hid (tk l p base = (base + (x : Int), q, 0)) := by
        show _ = _
        have h9 : nx l (p, 0) base = (base + (x : Int), (q, 0)) := by
          unfold nx
          rw [if_neg (by simp), hru, if_neg (by simp), if_neg hg]
        unfold tk
        rw [h9]
        rfl
      clear hru
      rw [HN.out]
      go_enter Tryd.func38, Tryd.ntmps38
      go_wp2_with (go_at_call 54; refine HRU.out.mono ?_; rintro e w1 ⟨rfl, rfl⟩)
      go_ret3
      exact ⟨rfl, rfl⟩
  · have HN : Hid (tk l p base = (0, 0, e)) := by
      show _ = _
      have h9 : nx l (p, 0) base = (0, (p, e)) := by
        unfold nx
        rw [if_neg (by simp), hru, if_pos he]
      unfold tk
      rw [h9, if_pos he]
    have hz : ¬ (e : Int) = 0 := by omega
    clear hru he
    rw [HN.out]
    go_enter Tryd.func38, Tryd.ntmps38
    go_wp2_with (go_at_call 54; refine HRU.out.mono ?_; rintro e w1 ⟨rfl, rfl⟩)
    go_ret3
    exact ⟨rfl, rfl⟩
end Go.Proofs.YtpikdngccgdhiaaDoor

/-
  ManifestReads: the reference's heads.
-/
namespace Go.Proofs.YtpikdngccgdhiaaDoor
open Go Go.RowKit
open Wb

/-- the state behind k of the five numbers at the head -/
def stH (body : List Nat) : Nat → Int × Nat
  | 0 => (1, 0)
  | k + 1 => (nx body (stH body k) 0).2
def hvH (body : List Nat) (k : Nat) : Int := (nx body (stH body k) 0).1
theorem stH_stick (body : List Nat) (k : Nat) (h : (stH body k).2 ≠ 0) : ∀ n, stH body (k + n) = stH body k
  | 0 => rfl
  | n + 1 => by
    show (nx body (stH body (k + n)) 0).2 = _
    rw [stH_stick body k h n]
    unfold nx
    rw [if_pos h]
/-- what heads answers -/
def HdPost (body : List Nat) (w : World) (e : Ending) (w' : World) : Prop :=
  ((stH body 5).2 = 0 ∧ (∃ c : Nat, ∃ a, e = .returned (.tuple #[.slice a 5 c, .int .i64 (stH body 5).1, .int .i64 0]) ∧ RowN w.heap.size w' (.slice a 5 c) [hvH body 0, hvH body 1, hvH body 2, hvH body 3, hvH body 4]) ∧ Below w.heap.size w w') ∨
  ((stH body 5).2 ≠ 0 ∧ e = .returned (.tuple #[.slice none 0 0, .int .i64 0, .int .i64 ((stH body 5).2 : Int)]) ∧ Below w.heap.size w w')
set_option maxRecDepth 100000 in
set_option maxHeartbeats 8000000 in
theorem heads_any (v : Value) (body : List Nat) (w : World) (h : Bs w v body) (hl : body.length ≤ 140737488355328) :
    Calls Tryd.prog 37 #[v] w fun e w' => HdPost body w e w' := by
  have hin := infoTI8m
  have HTK : Hid (∀ (w' : World) (p : Int), Below w.heap.size w w' → Calls Tryd.prog 38 #[v, .int .i64 p, .int .i64 0] w' fun e w'' => e = .returned (.tuple #[.int .i64 (tk body p 0).1, .int .i64 (tk body p 0).2.1, .int .i64 ((tk body p 0).2.2 : Int)]) ∧ w' = w'') := fun w' p hb => take_any v body p 0 w' (h.kept hb) hl (by omega) (by omega)
  obtain ⟨ab, cb, rfl, _⟩ := h.shape
  clear h
  go_enter Tryd.func37, Tryd.ntmps37
  go_wp2
  go_loopw [5, 6, 7] (fun o a i wr => ∃ (k : Nat), k ≤ 5 ∧ i = .int .i64 (k : Int) ∧ a = .int .i64 (stH body k).1 ∧ (stH body k).2 = 0 ∧ RowN w.heap.size wr o ((List.range k).map (hvH body)) ∧ Below w.heap.size w wr) (fun _ _ i _ => 5 - (intOf i).toNat)
  case atStart => exact ⟨0, by omega, rfl, rfl, rfl, World.ownsRow_nil _ _ _ _, Below.refl _ _⟩
  case round =>
    obtain ⟨k, hk, rfl, rfl, hs, ho, hbel⟩ := hrel
    by_cases hlt : k < 5
    · have hk5 : (k : Int) < 5 := by omega
      rcases hst : stH body k with ⟨p, f0⟩
      rw [hst] at hs
      simp only at hs
      subst hs
      rcases hnx : nx body (p, 0) 0 with ⟨x, q, f⟩
      have hs1 : stH body (k + 1) = (q, f) := by
        show (nx body (stH body k) 0).2 = _
        rw [hst, hnx]
      have hh1 : hvH body k = x := by
        unfold hvH
        rw [hst, hnx]
      have HT := HTK.out wr p hbel
      obtain ⟨a3, c3, e3⟩ := rowN_slice ho
      by_cases hf : f = 0
      · subst hf
        have ht : tk body p 0 = (x, q, 0) := by
          unfold tk
          rw [hnx]
          rfl
        rw [ht] at HT
        simp only at HT
        rw [show ((0 : Nat) : Int) = 0 from rfl] at HT
        have HT2 : Hid (Calls Tryd.prog 38 #[.slice ab body.length cb, .int .i64 p, .int .i64 0] wr fun e w'' => e = .returned (.tuple #[.int .i64 x, .int .i64 q, .int .i64 0]) ∧ wr = w'') := HT
        have HCB : Hid ((List.range k).map (hvH body) ++ [x] = (List.range (k + 1)).map (hvH body)) := by
          show _ = _
          rw [List.range_succ, List.map_append, ← hh1]
          rfl
        have HO : Hid (∀ o1, RowN w.heap.size (wr.alloc o1) u5 ((List.range k).map (hvH body)) ∧ Below w.heap.size w (wr.alloc o1) ∧ w.heap.size ≤ (wr.alloc o1).heap.size) := fun o1 => ⟨ho.kept (up0 _ _), up hbel _, (up hbel _).size⟩
        have HU : Hid (∀ q, u5.ownBlock = some q → w.heap.size ≤ q) := fun q hq => (World.ownsRow.lt ho q hq).1
        have HC3 : Hid (∀ t j u, (iv [x])[j]? = some u → (wr.alloc (.cells #[.int .i64 x] t)).cell? ⟨wr.heap.size, j, none⟩ = some u) := fun t j u hj => by
          rw [World.cell?_alloc_new wr #[.int .i64 x] t j]
          simpa [iv] using hj
        have hmx : ((List.range k).map (hvH body)).length + [x].length ≤ 100000 := by simp; omega
        have HS : Hid (stH body (k + 1) = (q, 0)) := hs1
        subst e3
        clear hst hnx hs1 hh1 HT ht ho hbel HTK
        generalize (List.range k).map (hvH body) = cbl at *
        go_wp2_with (first
          | (go_at_call 38; refine HT2.out.mono ?_; rintro e w1 ⟨rfl, rfl⟩)
          | (at_builtin; refine wpList_append_ints _ rfl (.tmp 25) (.tmp 27) 59 rfl w.heap.size hin Tryd.underlying59 _ cbl rfl (HO.out _).1 wr.heap.size [x] rfl (HC3.out _) hmx (HO.out _).2.2 ?_))
        intro v4 w4 ho4 g4
        have R : Hid (RowN w.heap.size w4 v4 (cbl ++ [x]) ∧ Below w.heap.size w w4) := ⟨ho4, (HO.out _).2.1.grown g4 (HO.out _).2.2 (fun q hq => HU.out q hq)⟩
        obtain ⟨a4, c4, e4⟩ := rowN_slice ho4
        subst e4
        clear ho4 g4 HO HC3 HU
        go_wp2
        go_roundw
        case rel => exact ⟨k + 1, by omega, by go_num, by rw [HS.out], by rw [HS.out], by rw [← HCB.out]; exact R.out.1, R.out.2⟩
        case measure => simp [intOf]; omega
      · have ht : tk body p 0 = (0, 0, f) := by
          unfold tk
          rw [hnx, if_pos hf]
        rw [ht] at HT
        simp only at HT
        have HT2 : Hid (Calls Tryd.prog 38 #[.slice ab body.length cb, .int .i64 p, .int .i64 0] wr fun e w'' => e = .returned (.tuple #[.int .i64 0, .int .i64 0, .int .i64 (f : Int)]) ∧ wr = w'') := HT
        have HS : Hid (stH body 5 = (q, f)) := by
          have h9 := stH_stick body (k + 1) (by rw [hs1]; exact hf) (4 - k)
          rw [show k + 1 + (4 - k) = 5 by omega, hs1] at h9
          exact h9
        have hz : ¬ (f : Int) = 0 := by omega
        have HB : Hid (Below w.heap.size w wr) := hbel
        subst e3
        clear hst hnx hs1 hh1 HT ht ho hbel HTK
        go_wp2_with (go_at_call 38; refine HT2.out.mono ?_; rintro e w1 ⟨rfl, rfl⟩)
        go_ret3
        refine .inr ⟨by rw [HS.out]; exact hf, by rw [HS.out]; rfl, HB.out⟩
    · obtain rfl : k = 5 := by omega
      obtain ⟨a3, c3, e3⟩ := rowN_slice ho
      subst e3
      have HB : Hid ((stH body 5).2 = 0 ∧ RowN w.heap.size wr (.slice a3 5 c3) [hvH body 0, hvH body 1, hvH body 2, hvH body 3, hvH body 4] ∧ Below w.heap.size w wr) := ⟨hs, ho, hbel⟩
      clear hs ho hbel HTK
      go_wp2
      go_ret3
      exact .inl ⟨HB.out.1, ⟨c3, a3, rfl, HB.out.2.1⟩, HB.out.2.2⟩
end Go.Proofs.YtpikdngccgdhiaaDoor
