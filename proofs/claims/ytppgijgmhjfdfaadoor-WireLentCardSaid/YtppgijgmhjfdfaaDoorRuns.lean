/-
  Rows of byte strings; wire.ReadFrames.
-/
import Derived.Test.YtppgijgmhjfdfaaDoorFrm
namespace Go.Proofs.YtppgijgmhjfdfaaDoor
open Go Go.RowKit
open Wb

theorem info22 : (Tryd.prog.info? 25).map (fun i => (i.zero, i.size, i.bytes)) = some (some (.slice none 0 0), 1, 24) := by kernel_rfl

/-- A row of the call's own that holds these values. -/
def Row (B : Nat) (w : World) (v : Value) (vs : List Value) : Prop := w.ownsRow B 25 1 v vs.length vs
theorem Row.nil (B : Nat) (w : World) : Row B w (.slice none 0 0) [] := World.ownsRow_nil _ _ _ _
theorem Row.kept {B : Nat} {w w' : World} {v : Value} {vs : List Value} (h : Row B w v vs) (hb : Below w.heap.size w w') : Row B w' v vs := by
  refine ⟨h.1, ?_⟩
  rcases h.2 with h1 | ⟨g, cap, cur, rfl, h1, hg, rest⟩
  · exact .inl h1
  · exact .inr ⟨g, cap, cur, rfl, h1, (hb.block g (Array.getElem?_eq_some_iff.1 hg).1).trans hg, rest⟩
theorem Row.shape {B : Nat} {w : World} {v : Value} {vs : List Value} (h : Row B w v vs) : (v = .slice none 0 0 ∧ vs = []) ∨ ∃ g cap, v = .slice (some ⟨g, 0, none⟩) vs.length cap ∧ vs.length ≤ cap ∧ cap ≤ maxLen ∧ ∀ j (h : j < vs.length), w.cell? ⟨g, j, none⟩ = some vs[j] := by
  have h0 : w.ownsRow B 25 1 v vs.length vs := h
  rcases h.2 with ⟨rfl, h1⟩ | ⟨g, cap, cur, rfl, hb, hg, h1, h2, h3, h4⟩
  · exact .inl ⟨rfl, List.eq_nil_of_length_eq_zero h1⟩
  · refine .inr ⟨g, cap, rfl, h1, h2, fun j hj => ?_⟩
    rw [h0.cellAt j (by omega), List.getElem?_eq_getElem hj]
/-- a byte string of the call's own stays, while a row is written -/
theorem Own.grown {B : Nat} {w w' : World} {v x : Value} {vs : List Value} {l : List Nat} (hr : Row B w v vs) (hx : Own B w x l) (hg : w.grownBy w' v.ownBlock) : Own B w' x l := by
  refine ⟨⟨hx.row.1, ?_⟩, hx.good⟩
  rcases hx.row.2 with h1 | ⟨g, cap, cur, rfl, h1, hgg, rest⟩
  · exact .inl h1
  · refine .inr ⟨g, cap, cur, rfl, h1, ?_, rest⟩
    rw [hg.block g (Array.getElem?_eq_some_iff.1 hgg).1 ?_]
    · exact hgg
    · intro e
      rcases hr.2 with ⟨rfl, _⟩ | ⟨g', cap', cur', rfl, _, hg', _⟩
      · simp [Value.ownBlock] at e
      · simp [Value.ownBlock] at e
        subst e
        rw [hgg] at hg'
        simp at hg'

/-- append(v, x) of one value to a row -/
theorem wpList_push {P : Program} (w : World) {ops : Array Oper} {rest : List Oper} {o : Oper} {a : Act} {Q : Exit → Act → World → Prop} (hgd : o.guard = none) (s x : Operand) (t : TypeId)
    (ho : o.op = .call { callee := .builtin .append, args := #[s, x], argTypes := #[t, t] })
    (B : Nat) (hinfo : (P.info? 25).map (fun i => (i.zero, i.size, i.bytes)) = some (some (.slice none 0 0), 1, 24)) (ht : P.underlying t = some (.slice 25))
    (v : Value) (vs : List Value) (hv : a.eval s = v) (h : Row B w v vs) (g : Nat) (u : Value) (hx : a.eval x = .slice (some ⟨g, 0, none⟩) 1 1) (hu : w.cell? ⟨g, 0, none⟩ = some u) (h1 : u.oneCell' = true)
    (hmax : vs.length ≤ 5000000000) (hB : B ≤ w.heap.size)
    (hK : ∀ v' w', Row B w' v' (vs ++ [u]) → Below B w w' → w.grownBy w' v.ownBlock → wpList P ops Q rest (a.put o.dst v') w') : wpList P ops Q (o :: rest) a w := by
  obtain ⟨i0, hi, hz0, hz1, hz2⟩ := info_parts hinfo
  refine wpList_append_own w hgd s x t ho B 25 i0 (.slice none 0 0) 1 24 ht hi hz0 hz1 hz2 rfl (by decide) v vs.length vs hv h ⟨g, 0, none⟩ 1 1 [u] hx rfl ?_ (by intro y hy; simp at hy; subst hy; exact h1) (by unfold maxLen; omega) (by omega) hB ?_
  · intro j y hj
    match j, hj with
    | 0, hj => simp at hj; subst hj; simpa [Addr.add] using hu
  · intro v' w' h2 h3 _
    refine hK v' w' ?_ ((Below.refl B w).grown h3 hB (fun k hk => (h.lt k hk).1)) h3
    show w'.ownsRow B 25 1 v' (vs ++ [u]).length (vs ++ [u])
    rw [List.length_append]
    exact h2

/-- ReadFrames' answer -/
def rfs : Nat → List Nat → Int → List (List Nat) × Int
  | 0, _, p => ([], p)
  | f + 1, l, p => if (rf l p).2.2 = 0 then ((rf l p).1 :: (rfs f l (rf l p).2.1).1, (rfs f l (rf l p).2.1).2) else ([], p)

/-- how far a frame goes -/
theorem rf_pos (l : List Nat) (p : Int) (h : (rf l p).2.2 = 0) : 0 ≤ p ∧ p < (rf l p).2.1 ∧ (rf l p).2.1 ≤ (l.length : Int) := by
  rcases Wn.ru_cases l p with ⟨e, he, _, hr⟩ | ⟨q, v, n, rfl, hq, hn, hrd, hr⟩
  · rw [rf_err l p e he hr] at h
    exact absurd h he
  · rw [rf_at l q v n hr] at h ⊢
    unfold rfAt at h ⊢
    by_cases h1 : v = 0
    · rw [if_pos h1] at h; exact absurd h (by decide)
    rw [if_neg h1] at h ⊢
    by_cases h2 : 1048576 < v
    · rw [if_pos h2] at h; exact absurd h (by decide)
    rw [if_neg h2] at h ⊢
    by_cases h3 : l.length < q + n + v + 5
    · rw [if_pos h3] at h; exact absurd h (by decide)
    rw [if_neg h3] at h ⊢
    by_cases h4 : l.getD (q + n + v + 4) 0 ≠ 165
    · rw [if_pos h4] at h; exact absurd h (by decide)
    rw [if_neg h4] at h ⊢
    by_cases h5 : sum4 (l.drop (q + n + v)) ≠ Wm.crc ((l.take (q + n + v)).drop q)
    · rw [if_pos h5] at h; exact absurd h (by decide)
    rw [if_neg h5]
    show (0 : Int) ≤ (q : Int) ∧ (q : Int) < ((q + n + v + 5 : Nat) : Int) ∧ ((q + n + v + 5 : Nat) : Int) ≤ (l.length : Int)
    omega

/-- a slice of byte strings of the call's own -/
def OwnP (B : Nat) (w : World) (v : Value) (ls : List (List Nat)) : Prop := ∃ vs : List Value, Row B w v vs ∧ vs.length = ls.length ∧ ∀ j (h : j < vs.length) (h2 : j < ls.length), Own B w vs[j] ls[j]
theorem OwnP.kept {B : Nat} {w w' : World} {v : Value} {ls : List (List Nat)} (h : OwnP B w v ls) (hb : Below w.heap.size w w') : OwnP B w' v ls := by
  obtain ⟨vs, h1, h2, h3⟩ := h
  exact ⟨vs, h1.kept hb, h2, fun j a b => (h3 j a b).kept hb⟩
theorem OwnP.ps {B : Nat} {w : World} {v : Value} {ls : List (List Nat)} (h : OwnP B w v ls) : Ps w v ls := by
  obtain ⟨vs, h1, h2, h3⟩ := h
  rcases h1.shape with ⟨rfl, rfl⟩ | ⟨g, cap, rfl, hl, hm, hc⟩
  · have : ls = [] := List.eq_nil_of_length_eq_zero (by simpa using h2.symm)
    subst this
    exact ⟨none, 0, rfl, by simp [maxLen], fun e => absurd rfl e⟩
  · refine ⟨some ⟨g, 0, none⟩, cap, by rw [h2], by omega, fun _ => ⟨g, 0, rfl, fun j hj => ⟨vs[j]'(by omega), ?_, (h3 j (by omega) hj).bs⟩⟩⟩
    rw [Nat.zero_add]
    exact hc j (by omega)

set_option maxHeartbeats 1000000 in
theorem readFrames_any (v : Value) (l : List Nat) (p : Int) (f : Nat) (w : World) (hT : Tab w) (h : Bs w v l) (hlen : l.length ≤ 140737488355328) (hp0 : 0 ≤ p) (hp1 : p ≤ (l.length : Int)) (hf : (l.length : Int) + 1 - p ≤ (f : Int)) (hfl : l.length ≤ 4000000000) :
    Calls Tryd.prog 15 #[v, .int .i64 p] w fun e w' => ∃ v', e = .returned (.tuple #[v', .int .i64 (rfs f l p).2]) ∧ OwnP w.heap.size w' v' (rfs f l p).1 ∧ Below w.heap.size w w' := by
  have hin := info22
  have hob := h
  obtain ⟨ao, cap, rfl, hl, hmx, _, _⟩ := h.shape
  obtain ⟨RB, hRB⟩ : ∃ RB, RB = (rfs f l p).1 := ⟨_, rfl⟩
  obtain ⟨RE, hRE⟩ : ∃ RE, RE = (rfs f l p).2 := ⟨_, rfl⟩
  rw [← hRB, ← hRE]
  have HS : Hid (RB = (rfs f l p).1 ∧ RE = (rfs f l p).2) := ⟨hRB, hRE⟩
  clear hRB hRE
  go_enter Tryd.func15, Tryd.ntmps15
  go_wp2_with fail
  refine (outside_no _ l _ _ hob hp0 hp1).mono ?_
  rintro e w1 ⟨rfl, rfl⟩
  go_wp2
  go_loopw [1, 6] (fun x o wr => ∃ (q : Int) (k : Nat) (done : List (List Nat)), x = .int .i64 q ∧ 0 ≤ q ∧ q ≤ (l.length : Int) ∧ (l.length : Int) + 1 - q ≤ (k : Int) ∧ (done.length : Int) ≤ q ∧ done ++ (rfs k l q).1 = RB ∧ (rfs k l q).2 = RE ∧ OwnP w.heap.size wr o done ∧ Below w.heap.size w wr) (fun x _ _ => l.length + 1 - (intOf x).toNat)
  case atStart => exact ⟨p, f, [], rfl, hp0, hp1, hf, by simpa using hp0, by rw [List.nil_append]; exact HS.out.1.symm, HS.out.2.symm, ⟨[], Row.nil _ _, rfl, fun j h => absurd h (Nat.not_lt_zero _)⟩, Below.refl _ _⟩
  case round =>
    obtain ⟨q, k, done, rfl, hq0, hq1, hk, hdl, hd1, hd2, hown, hbel⟩ := hrel
    clear HS
    obtain ⟨k', rfl⟩ : ∃ k', k = k' + 1 := ⟨k - 1, by omega⟩
    have hr := hob.kept hbel
    have hTr := hT.kept hbel
    have hsz := hbel.size
    by_cases hok : (rf l q).2.2 = 0
    · obtain ⟨hp0', hp1', hp2'⟩ := rf_pos l q hok
      have HF : Hid (done ++ ((rf l q).1 :: (rfs k' l (rf l q).2.1).1) = RB ∧ (rfs k' l (rf l q).2.1).2 = RE) := by
        rw [rfs, if_pos hok] at hd1 hd2
        exact ⟨hd1, hd2⟩
      have hrf : rf l q = ((rf l q).1, (rf l q).2.1, 0) := Prod.ext rfl (Prod.ext rfl hok)
      have HRF : Hid (rf l q = ((rf l q).1, (rf l q).2.1, 0)) := hrf
      clear hd1 hd2 hok hrf
      generalize (rf l q).1 = body at *
      generalize (rf l q).2.1 = q2 at *
      go_wp2_with fail
      refine (readFrame_any _ l q _ hTr hr hlen).mono ?_
      rw [HRF.out]
      rintro e w2 ⟨v2, rfl, ho2, b2⟩
      obtain ⟨ao2, cap2, rfl, _⟩ := ho2.bs.shape
      obtain ⟨vs, hrow, hvl, hel⟩ := hown.kept b2
      have ho2' := ho2.mono hsz
      have hb2 := andThen hbel b2
      have hvs : vs.length ≤ 5000000000 := by omega
      have HO : Hid (∀ o, Row w.heap.size (w2.alloc o) u6 vs) := fun o => hrow.kept (up0 _ _)
      have hcell : ∀ t, (w2.alloc (.cells #[.slice ao2 body.length cap2] t)).cell? ⟨w2.heap.size, 0, none⟩ = some (.slice ao2 body.length cap2) := fun t => World.cell?_alloc_new w2 _ _ 0
      have HC : Hid (∀ t, (w2.alloc (.cells #[.slice ao2 body.length cap2] t)).cell? ⟨w2.heap.size, 0, none⟩ = some (.slice ao2 body.length cap2)) := hcell
      have hsz2 := hb2.size
      have HE : Hid (∀ j (h : j < vs.length) (h2 : j < done.length), Own w.heap.size w2 vs[j] done[j]) := hel
      clear ho2 b2 hel hcell hr hTr hown
      go_wp2_with (at_builtin; refine wpList_push _ rfl (.tmp 24) (.tmp 26) 23 rfl w.heap.size hin Tryd.underlying23 _ vs rfl (HO.out _) w2.heap.size (.slice ao2 body.length cap2) rfl (HC.out _) rfl hvs (by simp; omega) ?_)
      intro v3 w3 hr3 b3 hg3
      have R : Hid (OwnP w.heap.size w3 v3 (done ++ [body]) ∧ Below w.heap.size w w3) := by
        refine ⟨⟨vs ++ [.slice ao2 body.length cap2], hr3, by simp [hvl], fun j a b => ?_⟩, (up hb2 _).trans b3⟩
        by_cases hj : j < vs.length
        · rw [List.getElem_append_left hj, List.getElem_append_left (by omega)]
          exact Own.grown (HO.out _) ((HE.out j hj (by omega)).kept (up0 _ _)) hg3
        · have ej : j = vs.length := by simp at a; omega
          subst ej
          rw [List.getElem_append_right (Nat.le_refl _), List.getElem_append_right (by omega)]
          simp only [hvl, Nat.sub_self, List.getElem_cons_zero]
          exact Own.grown (HO.out _) (ho2'.kept (up0 _ _)) hg3
      clear hr3 b3 hg3 HO HC HE hb2 hbel hrow
      go_wp2
      go_roundw
      case rel => exact ⟨q2, k', done ++ [body], rfl, by omega, by omega, by omega, by simp; omega, by rw [List.append_assoc]; exact HF.out.1, HF.out.2, R.out.1, R.out.2⟩
      case measure => simp [intOf]; omega
    · have HF : Hid (done = RB ∧ q = RE) := by
        rw [rfs, if_neg hok] at hd1 hd2
        exact ⟨by simpa using hd1, hd2⟩
      have hrf := rf_bad l q hok
      have hle := rf_le l q
      generalize (rf l q).2.2 = er at *
      have HRF : Hid (rf l q = ([], 0, er)) := hrf
      have d1 : ((er : Int) != 0) = true := by rw [bne_iff_ne]; omega
      clear hd1 hd2 hrf hok
      go_wp2_with fail
      refine (readFrame_any _ l q _ hTr hr hlen).mono ?_
      rw [HRF.out]
      rintro e w2 ⟨v2, rfl, ho2, b2⟩
      obtain ⟨ao2, cap2, rfl, _⟩ := ho2.bs.shape
      have R : Hid (OwnP w.heap.size w2 u6 RB ∧ Below w.heap.size w w2) := ⟨by rw [← HF.out.1]; exact hown.kept b2, andThen hbel b2⟩
      clear ho2 b2 hr hTr hown hbel
      go_wp2
      go_ret2
      exact ⟨_, by rw [← HF.out.2]; rfl, R.out.1, R.out.2⟩
end Go.Proofs.YtppgijgmhjfdfaaDoor
