/-
  PlanAllOrNothing: what stays along the loop.
-/
import Derived.Test.YtodcakplmoajiaaDoorHPu
namespace Go.Proofs.YtodcakplmoajiaaDoor
open Go Go.RowKit
open Wb

/-- a saga that has just begun -/
def sg0 (p : Pln) (id : Int) (l : List Nat) : Sg := ⟨⟨id, (p.ss.length : Int), p.piv, 0, 0, 1, 0, false, 0, 0, 0⟩, p.nm, l, [], [], []⟩
theorem fErr_ok {p : Pln} (h : (fErr p).1 = 0) : (Text.Tx.nmA p.nm).1 = 0 ∧ 1 ≤ p.ss.length ∧ p.ss.length ≤ 32 ∧ 0 ≤ p.piv ∧ p.piv ≤ (p.ss.length : Int) := by
  unfold fErr at h
  split at h
  · cases h
  rename_i h1
  split at h
  · cases h
  split at h
  · cases h
  split at h
  · cases h
  rename_i h2 h3 h4
  simp [nmd] at h1
  simp [winP] at h4
  exact ⟨h1, by omega, by omega, h4.1, h4.2⟩
theorem beg_v3 {p : Pln} {id : Int} {l : List Nat} (h : (fErr p).1 = 0) (hi : 1 ≤ id) (hl : l.length ≤ 16384) : V3 (begR p id l) := by
  obtain ⟨a, b, c, d, e⟩ := fErr_ok h
  refine ⟨hi, by simp [begR], by simp [begR], .inl ⟨rfl, rfl, rfl, rfl, rfl, ?_, ?_, d, e, ?_, hl⟩⟩
  · simp [begR]; omega
  · simp [begR]; omega
  · simp [begR, lab, a]
theorem beg_eq {p : Pln} {id : Int} {l : List Nat} (h : (fErr p).1 = 0) (hi : 1 ≤ id) (hl : l.length ≤ 16384) : beginP (begR p id l) = (0, sg0 p id l) := by
  unfold beginP
  rw [up_v3 _ (beg_v3 h hi hl) rfl, if_neg (by simp), if_neg (by simp [begR])]
  rfl
theorem beg_fits {p : Pln} {id : Int} {l : List Nat} (h : (fErr p).1 = 0) (hi : 1 ≤ id) (hi2 : id ≤ 9223372036854775807) (hl : l.length ≤ 16384) (hok : ok l) : fitP p (sg0 p id l) = 0 := by
  have v := beg_v3 h hi hl
  have e := beg_eq h hi hl
  have hc : chkS (sg0 p id l) = true := by
    have := (begin_good (begR p id l) hok (fit_v3 _ v hi2) (by rw [e])).1
    rw [e] at this
    exact this
  unfold fitP
  rw [if_neg (by simpa using h), hc, if_neg (by decide)]
  simp [sg0]
theorem PT.zero {p : Pln} {id : Int} {l : List Nat} (h : (fErr p).1 = 0) : PT p (sg0 p id l) (List.replicate 96 0) [] [] 0 := by
  obtain ⟨t32, tok⟩ := tries_ok h
  have z : ∀ (j : Nat) (n : Int), (List.replicate 96 (0 : Int))[j]? = some n → n = 0 := fun j n hn => by
    rw [List.getElem?_replicate] at hn
    split at hn
    · simpa using hn.symm
    · cases hn
  refine ⟨by simp, fun j n hn => by rw [z j n hn]; simp, rfl, rfl, fun j n s hn hs hp => ?_, fun _ j n hn _ _ => z j n hn, fun _ hp j n s hj hn hs => ?_, fun j n hn _ _ => z _ n hn⟩
  · have := (tok j s hs hp).1
    rw [z j n hn]
    omega
  · have := (tok j s hs (by rw [hj]; exact hp)).1
    rw [z j n hn]
    exact ⟨Int.le_refl 0, fun e => (by cases e), fun _ => by show (0 : Int) < _; omega⟩
/-- what stays along the loop -/
structure AI (w : World) (p : Pln) (A g10 g11 : Nat) (wr : World) (k : Nat) (b : Bool) (T : Sg) (h' : SH) (N L1 L2 : List Int) (x y : Value) : Prop where
  bx : LB wr g10 28 (scl T h')
  tb : LB wr g11 48 (tll N x y)
  bel : Below w.heap.size w wr
  ks : SgO w.heap.size wr T h'
  rw : Rw w.heap.size wr x y L1 L2
  fit : fitP p T = 0
  pt : PT p T N L1 L2 k
  fin : b = true → T.x.ended = true
  go : b = false → k - A + (if T.x.ended then 0 else left T) ≤ 2 * p.ss.length + 1
  few : k ≤ A + 2 * p.ss.length + 2
/-- the same, between tallied and turn -/
structure AM (w : World) (g10 g11 : Nat) (wr : World) (T : Sg) (h' : SH) (N L1 L2 : List Int) (x y : Value) : Prop where
  bx : LB wr g10 28 (scl T h')
  tb : LB wr g11 48 (tll N x y)
  bel : Below w.heap.size w wr
  ks : SgO w.heap.size wr T h'
  rw : Rw w.heap.size wr x y L1 L2
theorem sets_size (w : World) (g : Nat) (D : List Value) : w.heap.size ≤ (w.setCells g 0 D).heap.size := (below_cells (Nat.zero_le g) D 0 w (Below.refl 0 w)).size
theorem AI.mid {w wr w2 w4 Y : World} {p : Pln} {A g10 g11 k : Nat} {b : Bool} {T : Sg} {h' : SH} {N L1 L2 N' L1' L2' : List Int} {x y x' y' : Value} (q : AI w p A g10 g11 wr k b T h' N L1 L2 x y) (hN' : N'.length = 96) (hb : Below wr.heap.size wr w2) (hl : Lv w.heap.size w2 w4) (hr : Rw w.heap.size w4 x' y' L1' L2') (hg : w.heap.size ≤ g11) (hY : Y = w4.setCells g11 0 (tll N' x' y')) : AM w g10 g11 Y T h' N' L1' L2' x' y' := by
  have zb := hl.lb _ _ _ (by decide) (q.bx.kept hb)
  have zt := hl.lb _ _ _ (by decide) (q.tb.kept hb)
  have zs := hl.sg _ _ _ (q.ks.kept hb)
  have zw : Below w.heap.size w w4 := ⟨hl.bel.os.trans (andThen q.bel hb).os, hl.bel.tape.trans (andThen q.bel hb).tape, hl.bel.output.trans (andThen q.bel hb).output, Nat.le_trans (andThen q.bel hb).size hl.bel.size, fun i hi => (hl.bel.block i hi).trans ((andThen q.bel hb).block i hi)⟩
  rw [hY]
  exact ⟨zb.others _ _ _ (lb_ne zb zt (by decide)), zt.sets _ (by rw [tll_len hN', tll_len q.pt.len]), below_cells hg _ 0 _ zw, zs.oth zt (by decide) (by decide) (Oth.sets _ _ _ _), hr.oth zt (by decide) (Oth.sets _ _ _ _) (sets_size _ _ _)⟩
/-- one turn more -/
theorem AI.next {w wr Y4 w5 Y : World} {p : Pln} {A g10 g11 k : Nat} {T : Sg} {h' : SH} {N L1 L2 : List Int} {x y x' y' : Value} {O cc : Int} {l : List Nat} {T2 : Sg} {h2 : SH} {b2 : Bool}
    (q : AI w p A g10 g11 wr k false T h' N L1 L2 x y) (m : AM w g10 g11 Y4 T h' (talN N (saidX p T O cc)) (talD L1 (saidX p T O cc)) (talU L2 (saidX p T O cc)) x' y') (hl : l.length ≤ 16384) (hO : 1 ≤ O ∧ O ≤ 4) (hc1 : -9223372036854775808 ≤ cc) (hc2 : cc ≤ 9223372036854775807) (hA : A ≤ k → O = 1 ∧ cc = 0) (hb : Below Y4.heap.size Y4 w5)
    (hT : (T.x.ended = true ∧ T2 = T ∧ h2 = h' ∧ b2 = true) ∨ (T.x.ended = false ∧ T.x.fl = true ∧ O = 4 ∧ T2 = T ∧ h2 = h' ∧ b2 = false) ∨ (T.x.ended = false ∧ T.x.fl = true ∧ O ≠ 4 ∧ T2 = deedS T (ansR p T O cc l) ∧ b2 = false ∧ SgO Y4.heap.size w5 T2 h2) ∨ (T.x.ended = false ∧ T.x.fl = false ∧ T2 = deedS T (turnR T l) ∧ b2 = false ∧ SgO Y4.heap.size w5 T2 h2))
    (hg : w.heap.size ≤ g10) (hY : Y = w5.setCells g10 0 (scl T2 h2)) : AI w p A g10 g11 Y (k + 1) b2 T2 h2 (talN N (saidX p T O cc)) (talD L1 (saidX p T O cc)) (talU L2 (saidX p T O cc)) x' y' := by
  have hc := (pfits_iff q.fit).2.1
  have hcn := (pfits_iff q.fit).2.2.2.1
  have z := m.bx.kept hb
  have zt := m.tb.kept hb
  have bx2 : LB Y g10 28 (scl T2 h2) := by rw [hY]; exact z.sets _ rfl
  have tb2 : LB Y g11 48 (tll (talN N (saidX p T O cc)) x' y') := by rw [hY]; exact zt.others _ _ _ (lb_ne zt z (by decide))
  have bel2 : Below w.heap.size w Y := by rw [hY]; exact below_cells hg _ 0 _ (andThen m.bel hb)
  have rw2 : Rw w.heap.size Y x' y' (talD L1 (saidX p T O cc)) (talU L2 (saidX p T O cc)) := by rw [hY]; exact (m.rw.kept hb).oth z (by decide) (Oth.sets _ _ _ _) (sets_size _ _ _)
  have ks0 : SgO w.heap.size Y T h' := by rw [hY]; exact (m.ks.kept hb).oth z (by decide) (by decide) (Oth.sets _ _ _ _)
  have ks1 : SgO Y4.heap.size w5 T2 h2 → SgO w.heap.size Y T2 h2 := fun o => by rw [hY]; exact (o.weak m.bel.size).oth z (by decide) (by decide) (Oth.sets _ _ _ _)
  have hgo := q.go rfl
  have hfew := q.few
  have hleft : ∀ S : Sg, fitP p S = 0 → (if S.x.ended then 0 else left S) ≤ 2 * p.ss.length + 1 := fun S hS => by
    cases e : S.x.ended with
    | true => simp
    | false =>
      have g1 := (turn_good S [] (pfits_iff hS).2.1 e (by simp)).2.2.2.1
      rw [(pfits_iff hS).2.2.2.1] at g1
      simpa using g1
  rcases hT with ⟨he, e1, e2, e3⟩ | ⟨he, hfl, e4, e1, e2, e3⟩ | ⟨he, hfl, e4, e1, e3, ho⟩ | ⟨he, hfl, e1, e3, ho⟩
  · subst e1 e2 e3
    obtain ⟨t1, t2, t3⟩ := tal_same (N := N) (L1 := L1) (L2 := L2) (.inr (said_end (O := O) (cc := cc) q.fit he).1)
    refine ⟨bx2, tb2, bel2, ks0, rw2, q.fit, by rw [t1, t2, t3]; exact q.pt.same, fun _ => he, (fun e => by cases e), ?_⟩
    rw [he] at hgo
    simp at hgo
    omega
  · subst e1 e2 e3 e4
    have hkA : k < A := by
      rcases Nat.lt_or_ge k A with h | h
      · exact h
      · have := (hA h).1
        omega
    have t := said_lost (p := p) (cc := cc) hfl
    obtain ⟨t1, t2, t3⟩ := tal_same (N := N) (L1 := L1) (L2 := L2) (x := saidX p T2 4 cc) (.inl (by rw [t]))
    refine ⟨bx2, tb2, bel2, ks0, rw2, q.fit, by rw [t1, t2, t3]; exact q.pt.same, (fun e => by cases e), fun _ => ?_, by omega⟩
    have := hleft T2 q.fit
    omega
  · subst e1 e3
    have hO3 : 1 ≤ O ∧ O ≤ 3 := by omega
    have hf2 := ans_fits (l := l) q.fit hfl hl hO3 hc1 hc2
    rw [said_ans (l := l) hfl e4] at tb2 rw2 ⊢
    refine ⟨bx2, tb2, bel2, ks1 ho, rw2, hf2, ans_tells q.fit hfl hl hO3 hc1 hc2 q.pt, (fun e => by cases e), fun _ => ?_, by rw [he] at hgo; simp only [Bool.false_eq_true, if_false] at hgo; have := (turn_good T [] hc he (by simp)).2.2.2.2.1; omega⟩
    rcases Nat.lt_or_ge k A with h | h
    · have := hleft _ hf2
      omega
    · obtain ⟨o1, c0⟩ := hA h
      subst o1 c0
      have hk24 : deedK T.x = 2 ∨ deedK T.x = 4 := by rcases flight_deed hc hfl with ⟨e, _⟩ | ⟨e, _⟩ <;> omega
      have hTR : ansR p T 1 0 l = turnR T l := by unfold ansR turnR ansX ansLast; rw [if_pos hk24]; rfl
      rw [hTR]
      obtain ⟨v3, r0, _, g1, g2, g3, g4, _⟩ := turn_good T l hc he hl
      have hd := ended_deed T _ v3 r0
      rw [he] at hgo
      simp only [Bool.false_eq_true, if_false] at hgo
      by_cases h7 : (turnR T l).x.k = 7
      · rw [hd, decide_eq_true h7]
        have := g3.2 h7
        simp only [if_true]
        omega
      · rw [hd, decide_eq_false h7]
        have := (g4 h7).1
        simp only [Bool.false_eq_true, if_false]
        omega
  · subst e1 e3
    have hf2 := turn_fits q.fit he hl
    rw [said_turn (l := l) hfl] at tb2 rw2 ⊢
    obtain ⟨v3, r0, _, g1, g2, g3, g4, _⟩ := turn_good T l hc he hl
    have hd := ended_deed T _ v3 r0
    rw [he] at hgo
    simp only [Bool.false_eq_true, if_false] at hgo
    refine ⟨bx2, tb2, bel2, ks1 ho, rw2, hf2, turn_tells q.fit he hfl hl q.pt, (fun e => by cases e), fun _ => ?_, by omega⟩
    rcases Nat.lt_or_ge k A with h | h
    · have := hleft _ hf2
      omega
    · by_cases h7 : (turnR T l).x.k = 7
      · rw [hd, decide_eq_true h7]
        have := g3.2 h7
        simp only [if_true]
        omega
      · rw [hd, decide_eq_false h7]
        have := (g4 h7).1
        simp only [Bool.false_eq_true, if_false]
        omega
/-- what holds in the end -/
theorem AI.last {w wr : World} {p : Pln} {A g10 g11 k : Nat} {b : Bool} {T : Sg} {h' : SH} {N L1 L2 : List Int} {x y : Value} (q : AI w p A g10 g11 wr k b T h' N L1 L2 x y) (hk : A + 2 * p.ss.length + 2 ≤ k ∨ b = true) :
    b = true ∧ ((T.x.ph = 3 ∧ L1 = ups p.ss.length ∧ y = .slice none 0 0) ∨ (T.x.ph = 4 ∧ ∃ m, L1 = ups m ∧ L2 = dws m ∧ m ≤ 32 ∧ (p.piv = 0 ∨ (m : Int) < p.piv))) := by
  have hc := (pfits_iff q.fit).2.1
  have hcn := (pfits_iff q.fit).2.2.2.1
  have hb : b = true := by
    cases hb : b with
    | true => rfl
    | false =>
      rw [hb] at hk
      have := q.go hb
      have h2 : A + 2 * p.ss.length + 2 ≤ k := by simpa using hk
      omega
  refine ⟨hb, ?_⟩
  have he := q.fin hb
  obtain ⟨⟨_, _, c3, _⟩, hG⟩ := (chkS_iff T).1 hc
  rcases ended_whole T hc he with ⟨h3, h1, h2⟩ | ⟨h4, h1⟩
  · refine .inl ⟨h3, ?_, q.rw.2.1 ?_⟩
    · rw [q.pt.did]
      congr 1
      omega
    · rw [q.pt.und, h2]
      simp
  · refine .inr ⟨h4, T.outs.length, q.pt.did, ?_, ?_, ?_⟩
    · rw [q.pt.und, ← h1, List.take_of_length_le (by rw [dws_len]; omega)]
    · rcases hG with ⟨g, _⟩ | ⟨g, _⟩ | ⟨g, _⟩ | ⟨g, _, u1, u2, _⟩ <;> omega
    · rw [← (pfits_iff q.fit).2.2.2.2]
      rcases hG with ⟨g, _⟩ | ⟨g, _⟩ | ⟨g, _⟩ | ⟨g, _, u1, u2, u3, _⟩
      · omega
      · omega
      · omega
      · rw [← u1]; exact u3
end Go.Proofs.YtodcakplmoajiaaDoor
