import Derived.Test.YtppabcihbpbfpaaGreatDoorQK17
/-
  Load, pure: the program's disk is the document's.
-/
namespace Go.Proofs.YtppabcihbpbfpaaGreatDoor
open Go Go.RowKit Go.ChangeShapes
namespace Rd
open Dk
theorem crt_ok {S : DS} (ha : S.armed = false) {s : List UInt8} (h : crtE S s = 0) (f : Nat) : get S.nm s = none ∧ isNm s = true ∧ (crt S s f).armed = false ∧ (crt S s f).ids = S.ids ++ [f] ∧ (crt S s f).nm = put (del S.nm []) s f := by
  unfold crtE at h
  by_cases h1 : askE S [s] = 0
  · rw [if_pos h1] at h
    by_cases h2 : (get S.nm s).isSome = true
    · rw [if_pos h2] at h
      exact absurd h (by decide)
    · have h3 : (get S.nm s).isSome = false := by simpa using h2
      have e : crt S s f = { mk S f with nm := Ch.app ⟨[], s, some f⟩ S.nm, ch := S.ch ++ [⟨[], s, some f⟩] } := by
        unfold crt
        rw [if_pos ⟨h1, h3⟩, cnt_un ha, if_pos rfl]
      have hn : isNm s = true := by
        unfold askE at h1
        split at h1
        · exact absurd h1 (by decide)
        · split at h1
          · rename_i h9
            simpa using h9
          · exact absurd h1 (by decide)
      have hs : s ≠ [] := fun e => by
        have h9 := (isNm_len hn).1
        rw [e] at h9
        exact absurd h9 (by decide)
      rw [e]
      refine ⟨by simpa using h3, hn, ha, rfl, ?_⟩
      show Ch.app ⟨[], s, some f⟩ S.nm = _
      unfold Ch.app
      rw [if_neg hs]
      rfl
  · rw [if_neg h1] at h
    exact absurd h h1
section
variable {q : Int} {fs : List (List UInt8 × List Nat)} {l : List Nat} {N : Nat}
theorem crs_snoc2 {i : Nat} (hf : i < fs.length) (h2 : i < l.length) : crs q ((fs.zip l).take (i + 1)) = crt (crs q ((fs.zip l).take i)) fs[i].1 l[i] := by
  have hz : i < (fs.zip l).length := by rw [List.length_zip]; omega
  rw [List.take_succ_eq_append_getElem hz, crs_snoc, List.getElem_zip]
theorem crs_at (hl : l.length ≤ fs.length) (hE : ∀ i (h : i < fs.length), i < l.length → crtE (crs q ((fs.zip l).take i)) fs[i].1 = 0) : ∀ i, i ≤ l.length → (crs q ((fs.zip l).take i)).armed = false ∧ (crs q ((fs.zip l).take i)).ids = l.take i ∧ ∀ j (_ : j < i) (h1 : j < fs.length) (h2 : j < l.length), get (crs q ((fs.zip l).take i)).nm fs[j].1 = some l[j] ∧ isNm fs[j].1 = true
  | 0, _ => ⟨rfl, rfl, fun j h => absurd h (Nat.not_lt_zero _)⟩
  | i + 1, h => by
    obtain ⟨a1, a2, a3⟩ := crs_at hl hE i (by omega)
    have hf : i < fs.length := by omega
    obtain ⟨c1, c2, c3, c4, c5⟩ := crt_ok a1 (hE i hf (by omega)) (l[i]'(by omega))
    rw [crs_snoc2 hf (by omega)]
    refine ⟨c3, ?_, fun j hj h1 h2 => ?_⟩
    · rw [c4, a2, List.take_succ_eq_append_getElem (by omega)]
    · by_cases h9 : j = i
      · subst h9
        rw [c5, get_put, if_pos rfl]
        exact ⟨rfl, c2⟩
      · obtain ⟨g, gn⟩ := a3 j (by omega) h1 h2
        have hne : fs[j].1 ≠ fs[i].1 := fun e => by
          rw [e, c1] at g
          cases g
        have hs : fs[j].1 ≠ [] := fun e => by
          have h9 := (isNm_len gn).1
          rw [e] at h9
          exact absurd h9 (by decide)
        rw [c5, get_put, if_neg hne, get_del, if_neg hs]
        exact ⟨g, gn⟩
theorem crs_distinct (hl : l.length ≤ fs.length) (hE : ∀ i (h : i < fs.length), i < l.length → crtE (crs q ((fs.zip l).take i)) fs[i].1 = 0) (a b : Nat) (hab : a < b) (hb : b < l.length) : (fs[a]'(by omega)).1 ≠ (fs[b]'(by omega)).1 := fun e => by
  obtain ⟨a1, -, g2⟩ := crs_at hl hE b (by omega)
  have c1 := (crt_ok a1 (hE b (by omega) hb) 0).1
  have h9 := (g2 a hab (by omega) (by omega)).1
  rw [e, c1] at h9
  cases h9
theorem crs_nodup (hl : l.length ≤ fs.length) (hE : ∀ i (h : i < fs.length), i < l.length → crtE (crs q ((fs.zip l).take i)) fs[i].1 = 0) (hW : WF (crs q (fs.zip l)) N) : l.Nodup := by
  have hz : (fs.zip l).take l.length = fs.zip l := List.take_of_length_le (by rw [List.length_zip]; omega)
  refine List.pairwise_iff_getElem.2 fun a b ha hb hab e => ?_
  obtain ⟨-, -, g⟩ := crs_at hl hE l.length (Nat.le_refl _)
  rw [hz] at g
  have ga := (g a ha (by omega) ha).1
  have gb := (g b hb (by omega) hb).1
  exact crs_distinct hl hE a b hab hb (Prod.mk.inj (inj_of hW.inj _ (get_mem ga) _ (get_mem gb) e)).1
/-- the document's disk behind i Creates -/
def clr (fs : List (List UInt8 × List Nat)) (i : Nat) : List RCh := (List.range i).map fun k => ⟨1, (fs.getD k ([], [])).1, [], k⟩
def mkR (q : Int) (fs : List (List UInt8 × List Nat)) (i : Nat) : RS := ⟨q, List.replicate i ⟨[], 0, true⟩, bnm fs i, [], clr fs i, -1, false⟩
def opC (s : List UInt8) : Rop := ⟨1, false, ⟨s.toArray⟩, ⟨#[]⟩, 0, none, 0, [], none, 0, [], none, 0, 0⟩
theorem rdo_ok {R : RS} {o : Rop} (hd : R.down = false) (hl : R.left = -1) (h : (rdo R o).2 = 0) : (rdo R o).1 = { ract R o with left := -1 } ∧ rref R o = 0 := by
  unfold rdo at h ⊢
  rw [if_neg (by rw [hd]; exact Bool.false_ne_true)] at h ⊢
  by_cases hr : rref R o ≠ 0
  · rw [if_pos hr] at h
    exact absurd h hr
  · rw [if_neg hr, if_neg (by rw [hl]; decide), hl, if_neg (by decide)]
    exact ⟨rfl, by simpa using hr⟩
theorem rdo_err {R : RS} {o : Rop} (hd : R.down = false) (hl : R.left = -1) : (rdo R o).2 = rref R o := by
  unfold rdo
  rw [if_neg (by rw [hd]; exact Bool.false_ne_true)]
  by_cases hr : rref R o ≠ 0
  · rw [if_pos hr]
  · rw [if_neg hr, if_neg (by rw [hl]; decide)]
    exact (Decidable.of_not_not hr).symm
theorem rl_new (q : Int) (fs : List (List UInt8 × List Nat)) : Rl (new q) (mkR q fs 0) :=
  ⟨rfl, rfl, rfl, rfl, List.nodup_nil, rfl, rfl, trivial, rfl, (fun i t h => by cases h), rfl, (fun p h => by cases h)⟩
theorem mkR_step (q : Int) (fs : List (List UInt8 × List Nat)) (i : Nat) (h : i < fs.length) : { ract (mkR q fs i) (opC fs[i].1) with left := -1 } = mkR q fs (i + 1) := by
  have e1 : (fs.getD i ([], [])).1 = fs[i].1 := by rw [List.getD_eq_getElem?_getD, List.getElem?_eq_getElem h]; rfl
  have e2 : clr fs (i + 1) = clr fs i ++ [⟨1, fs[i].1, [], i⟩] := by
    unfold clr
    rw [List.range_succ, List.map_append, List.map_singleton, e1]
  have e3 : bnm fs (i + 1) = put (bnm fs i) fs[i].1 i := by
    show put (bnm fs i) (fs.getD i ([], [])).1 i = _
    rw [e1]
  unfold mkR
  rw [e2, e3, List.replicate_succ']
  unfold ract
  rw [if_pos (show (opC fs[i].1).k = 1 from rfl)]
  unfold nmd chd
  simp [opC]
theorem crs_rl (hq : 0 ≤ q ∧ q ≤ 4194304) (hl : l.length ≤ fs.length) (hnd : l.Nodup) (hE : ∀ i (h : i < fs.length), i < l.length → crtE (crs q ((fs.zip l).take i)) fs[i].1 = 0) : ∀ i, i ≤ l.length → Rl (crs q ((fs.zip l).take i)) (mkR q fs i) ∧ WF (crs q ((fs.zip l).take i)) i
  | 0, _ => ⟨rl_new q fs, WF.new q hq.1 hq.2⟩
  | i + 1, h => by
    obtain ⟨r, wf⟩ := crs_rl hq hl hnd hE i (by omega)
    have hf : i < fs.length := by omega
    have hi : i < l.length := by omega
    have hfr : l[i] ∉ (crs q ((fs.zip l).take i)).ids := by
      rw [(crs_at hl hE i (by omega)).2.1]
      intro hm
      obtain ⟨j, hj, e⟩ := List.getElem_of_mem hm
      rw [List.length_take] at hj
      rw [List.getElem_take] at e
      have := nodup_at hnd j i (by omega) hi e
      omega
    have eN : (opC fs[i].1).a.data.toList = fs[i].1 := by simp [opC]
    obtain ⟨e1, e2⟩ := r.do wf (opC fs[i].1) l[i] hfr ⟨show (1 : Int) ≤ 1 by decide, show (1 : Int) ≤ 7 by decide⟩
    have hdE : doE (crs q ((fs.zip l).take i)) (opC fs[i].1) = crtE (crs q ((fs.zip l).take i)) fs[i].1 := by
      unfold doE
      rw [if_pos (show (opC fs[i].1).k = 1 from rfl), eN]
    have hdS : doS (crs q ((fs.zip l).take i)) (opC fs[i].1) l[i] = crt (crs q ((fs.zip l).take i)) fs[i].1 l[i] := by
      unfold doS
      rw [if_pos (show (opC fs[i].1).k = 1 from rfl), eN]
    rw [hdE, hE i hf hi] at e1
    rw [hdS, (rdo_ok rfl rfl e1.symm).1, mkR_step q fs i hf] at e2
    rw [crs_snoc2 hf hi]
    exact ⟨e2, wf.crt _ _ hfr⟩
theorem bnm_get (hd : ∀ a b (_ : a < b) (h : b < fs.length), (fs[a]'(by omega)).1 ≠ fs[b].1) : ∀ i, i ≤ fs.length → ∀ j (_ : j < i) (h : j < fs.length), get (bnm fs i) fs[j].1 = some j
  | 0, _, j, h, _ => absurd h (Nat.not_lt_zero _)
  | i + 1, h, j, hj, hf => by
    have e1 : (fs.getD i ([], [])).1 = (fs[i]'(by omega)).1 := by rw [List.getD_eq_getElem?_getD, List.getElem?_eq_getElem (by omega)]; rfl
    show get (put (bnm fs i) (fs.getD i ([], [])).1 i) fs[j].1 = some j
    rw [e1, get_put]
    by_cases h9 : j = i
    · subst h9
      rw [if_pos rfl]
    · rw [if_neg (hd j i (by omega) (by omega))]
      exact bnm_get hd i (by omega) j (by omega) hf
/-- the document's disk behind k Appends and Syncs -/
def apR (q : Int) (fs : List (List UInt8 × List Nat)) (k : Nat) : RS := { mkR q fs fs.length with th := (fs.take k).map (fun x => ⟨x.2, x.2.length, true⟩) ++ List.replicate (fs.length - k) ⟨[], 0, true⟩ }
def opA (s : List UInt8) (d : List Nat) : Rop := ⟨2, false, ⟨s.toArray⟩, ⟨#[]⟩, 0, none, 0, d, none, 0, [], none, 0, 0⟩
def opS (s : List UInt8) : Rop := ⟨3, false, ⟨s.toArray⟩, ⟨#[]⟩, 0, none, 0, [], none, 0, [], none, 0, 0⟩
theorem set_mid {α : Type} (A : List α) (x y : α) (B : List α) (k : Nat) (h : A.length = k) : (A ++ x :: B).set k y = A ++ y :: B := by
  subst h
  rw [List.set_append_right _ _ (Nat.le_refl _), Nat.sub_self]
  rfl
theorem get_mid {α : Type} (A : List α) (x d : α) (B : List α) (k : Nat) (h : A.length = k) : (A ++ x :: B).getD k d = x := by
  subst h
  rw [List.getD_eq_getElem?_getD, List.getElem?_append_right (Nat.le_refl _), Nat.sub_self]
  rfl
theorem apR_step (hd : ∀ a b (_ : a < b) (h : b < fs.length), (fs[a]'(by omega)).1 ≠ fs[b].1) (k : Nat) (h : k < fs.length) : { ract { ract (apR q fs k) (opA fs[k].1 fs[k].2) with left := -1 } (opS fs[k].1) with left := -1 } = apR q fs (k + 1) := by
  have hg := bnm_get hd fs.length (Nat.le_refl _) k h h
  have eA : (opA fs[k].1 fs[k].2).a.data.toList = fs[k].1 := by simp [opA]
  have eS : (opS fs[k].1).a.data.toList = fs[k].1 := by simp [opS]
  obtain ⟨m, hm⟩ : ∃ m, fs.length - k = m + 1 := ⟨fs.length - k - 1, by omega⟩
  have hm2 : fs.length - (k + 1) = m := by omega
  have hL : ((fs.take k).map (fun x => (⟨x.2, x.2.length, true⟩ : Th))).length = k := by rw [List.length_map, List.length_take]; omega
  have e1 : ract (apR q fs k) (opA fs[k].1 fs[k].2) = { apR q fs k with th := (fs.take k).map (fun x => ⟨x.2, x.2.length, true⟩) ++ ⟨fs[k].2, 0, true⟩ :: List.replicate m ⟨[], 0, true⟩ } := by
    have hn : thn (apR q fs k) (opA fs[k].1 fs[k].2) = k := by
      unfold thn
      rw [eA]
      show (get (bnm fs fs.length) fs[k].1).getD 0 = k
      rw [hg]
      rfl
    have ht : (apR q fs k).th = (fs.take k).map (fun x => ⟨x.2, x.2.length, true⟩) ++ ⟨[], 0, true⟩ :: List.replicate m ⟨[], 0, true⟩ := by
      show _ ++ List.replicate (fs.length - k) _ = _
      rw [hm, List.replicate_succ]
    have ha : tha (apR q fs k) (opA fs[k].1 fs[k].2) = ⟨[], 0, true⟩ := by
      unfold tha
      rw [hn, ht, get_mid _ _ _ _ _ hL]
    unfold ract
    rw [if_neg (show ¬ (opA fs[k].1 fs[k].2).k = 1 by show ¬ (2 : Int) = 1; decide), if_pos (show (opA fs[k].1 fs[k].2).k = 2 from rfl), ha, hn, ht, set_mid _ _ _ _ _ hL]
    rfl
  rw [e1]
  generalize hR : ({ ({ apR q fs k with th := (fs.take k).map (fun x => ⟨x.2, x.2.length, true⟩) ++ ⟨fs[k].2, 0, true⟩ :: List.replicate m ⟨[], 0, true⟩ } : RS) with left := -1 } : RS) = R
  have rt : R.th = (fs.take k).map (fun x => ⟨x.2, x.2.length, true⟩) ++ ⟨fs[k].2, 0, true⟩ :: List.replicate m ⟨[], 0, true⟩ := by rw [← hR]
  have rn : R.nm = bnm fs fs.length := by rw [← hR]; rfl
  have hn : thn R (opS fs[k].1) = k := by
    unfold thn
    rw [eS, rn, hg]
    rfl
  have ha : tha R (opS fs[k].1) = ⟨fs[k].2, 0, true⟩ := by
    unfold tha
    rw [hn, rt, get_mid _ _ _ _ _ hL]
  unfold ract
  rw [if_neg (show ¬ (opS fs[k].1).k = 1 by show ¬ (3 : Int) = 1; decide), if_neg (show ¬ (opS fs[k].1).k = 2 by show ¬ (3 : Int) = 2; decide), if_pos (show (opS fs[k].1).k = 3 from rfl), ha, hn, rt, set_mid _ _ _ _ _ hL, ← hR]
  unfold apR
  rw [hm2, List.take_succ_eq_append_getElem h, List.map_append, List.append_assoc]
  rfl
theorem fresh : ∀ l : List Nat, ∃ m, ∀ x ∈ l, x < m
  | [] => ⟨0, fun x h => by cases h⟩
  | y :: r => by
    obtain ⟨m, h⟩ := fresh r
    refine ⟨m + y + 1, fun x hx => ?_⟩
    rcases List.mem_cons.1 hx with rfl | hx
    · omega
    · have := h x hx
      omega
theorem fresh2 (l : List Nat) : ∃ f, f ∉ l := by
  obtain ⟨m, h⟩ := fresh l
  exact ⟨m, fun e => Nat.lt_irrefl _ (h m e)⟩
theorem rref_found {R : RS} {o : Rop} (hk : o.k = 3) (hn : isNm o.a.data.toList = true) {i : Nat} (hg : get R.nm o.a.data.toList = some i) : rref R o = 0 := by
  unfold rref
  rw [if_neg (by rw [hk]; decide), if_neg (by rw [hn]; decide), if_neg (by rw [hk]; exact fun h => absurd h.1 (by decide)), if_neg (by rw [hk]; decide), hg]
  show (if o.k = 4 ∧ _ then (65 : Int) else if o.k = 2 ∧ _ then 64 else 0) = 0
  rw [if_neg (by rw [hk]; exact fun h => absurd h.1 (by decide)), if_neg (by rw [hk]; exact fun h => absurd h.1 (by decide))]
theorem aps_rl (hd : ∀ a b (_ : a < b) (h : b < fs.length), (fs[a]'(by omega)).1 ≠ fs[b].1) (hnm : ∀ i (h : i < fs.length), isNm fs[i].1 = true) {S0 : DS} (h0 : Rl S0 (apR q fs 0)) (hW0 : WF S0 N) {kk : Nat} (hE : ∀ i (h : i < fs.length), i < kk → appE (aps S0 (fs.take i)) fs[i].1 fs[i].2 = 0) : ∀ k, k ≤ kk → k ≤ fs.length → Rl (aps S0 (fs.take k)) (apR q fs k) ∧ WF (aps S0 (fs.take k)) N
  | 0, _, _ => ⟨h0, hW0⟩
  | k + 1, h1, h => by
    obtain ⟨r, wf⟩ := aps_rl hd hnm h0 hW0 hE k (by omega) (by omega)
    have hf : k < fs.length := by omega
    have hE1 := hE k hf (by omega)
    rw [List.take_succ_eq_append_getElem hf, aps_snoc]
    generalize aps S0 (fs.take k) = S at r wf hE1
    have eA : (opA fs[k].1 fs[k].2).a.data.toList = fs[k].1 := by simp [opA]
    have eS : (opS fs[k].1).a.data.toList = fs[k].1 := by simp [opS]
    obtain ⟨f, hf1⟩ := fresh2 S.ids
    obtain ⟨e1, r1⟩ := r.do wf (opA fs[k].1 fs[k].2) f hf1 ⟨show (1 : Int) ≤ 2 by decide, show (2 : Int) ≤ 7 by decide⟩
    have hdE : doE S (opA fs[k].1 fs[k].2) = appE S fs[k].1 fs[k].2 := by
      unfold doE
      rw [if_neg (show ¬ (opA fs[k].1 fs[k].2).k = 1 by show ¬ (2 : Int) = 1; decide), if_pos (show (opA fs[k].1 fs[k].2).k = 2 from rfl), eA]
      rfl
    have hdS : doS S (opA fs[k].1 fs[k].2) f = app S fs[k].1 fs[k].2 := by
      unfold doS
      rw [if_neg (show ¬ (opA fs[k].1 fs[k].2).k = 1 by show ¬ (2 : Int) = 1; decide), if_pos (show (opA fs[k].1 fs[k].2).k = 2 from rfl), eA]
      rfl
    rw [hdE, hE1] at e1
    have e9 := (rdo_ok rfl rfl e1.symm).1
    rw [hdS, e9] at r1
    obtain ⟨R1, hR1⟩ : ∃ R : RS, R = { ract (apR q fs k) (opA fs[k].1 fs[k].2) with left := -1 } := ⟨_, rfl⟩
    have r1' : Rl (app S fs[k].1 fs[k].2) R1 := by
      rw [hR1]
      exact r1
    have hst : { ract R1 (opS fs[k].1) with left := -1 } = apR q fs (k + 1) := by
      rw [hR1]
      exact apR_step hd k hf
    have wf1 := wf.app fs[k].1 fs[k].2
    obtain ⟨f2, hf2⟩ := fresh2 (app S fs[k].1 fs[k].2).ids
    obtain ⟨e2, r2⟩ := r1'.do wf1 (opS fs[k].1) f2 hf2 ⟨show (1 : Int) ≤ 3 by decide, show (3 : Int) ≤ 7 by decide⟩
    have hdS2 : doS (app S fs[k].1 fs[k].2) (opS fs[k].1) f2 = syn (app S fs[k].1 fs[k].2) fs[k].1 := by
      unfold doS
      rw [if_neg (show ¬ (opS fs[k].1).k = 1 by show ¬ (3 : Int) = 1; decide), if_neg (show ¬ (opS fs[k].1).k = 2 by show ¬ (3 : Int) = 2; decide), if_pos (show (opS fs[k].1).k = 3 from rfl), eS]
    have hg : get R1.nm fs[k].1 = some k := by
      rw [hR1]
      unfold ract
      rw [if_neg (show ¬ (opA fs[k].1 fs[k].2).k = 1 by show ¬ (2 : Int) = 1; decide), if_pos (show (opA fs[k].1 fs[k].2).k = 2 from rfl)]
      exact bnm_get hd fs.length (Nat.le_refl _) k hf hf
    have hdn : R1.down = false := by
      rw [hR1]
      unfold ract
      rw [if_neg (show ¬ (opA fs[k].1 fs[k].2).k = 1 by show ¬ (2 : Int) = 1; decide), if_pos (show (opA fs[k].1 fs[k].2).k = 2 from rfl)]
      rfl
    have hlf : R1.left = -1 := by rw [hR1]
    have hr : rref R1 (opS fs[k].1) = 0 := rref_found rfl (by rw [eS]; exact hnm k hf) (i := k) (by rw [eS]; exact hg)
    have h8 : (rdo R1 (opS fs[k].1)).2 = 0 := (rdo_err hdn hlf).trans hr
    rw [hdS2, (rdo_ok hdn hlf h8).1, hst] at r2
    exact ⟨r2, wf1.syn _⟩
theorem apR_zero : apR q fs 0 = mkR q fs fs.length := rfl
def opD : Rop := ⟨7, false, ⟨#[]⟩, ⟨#[]⟩, 0, none, 0, [], none, 0, [], none, 0, 0⟩
theorem apR_last (hd : ∀ a b (_ : a < b) (h : b < fs.length), (fs[a]'(by omega)).1 ≠ fs[b].1) : { ract (apR q fs fs.length) opD with left := -1 } = rbgn q fs := by
  have ht : (apR q fs fs.length).th = bth fs := by
    show (fs.take fs.length).map _ ++ List.replicate (fs.length - fs.length) _ = _
    rw [Nat.sub_self, List.take_of_length_le (Nat.le_refl _), List.replicate_zero, List.append_nil]
    rfl
  have hm : (bth fs).mapIdx (fun k t => if ((bnm fs fs.length).any fun p => p.2 == k) = true then (⟨t.data, t.syn, true⟩ : Th) else ⟨[], 0, false⟩) = bth fs := by
    refine List.ext_getElem (by rw [List.length_mapIdx]) fun i h1 h2 => ?_
    have hi : i < fs.length := by
      unfold bth at h2
      rw [List.length_map] at h2
      exact h2
    have h9 := get_mem (bnm_get hd fs.length (Nat.le_refl _) i hi hi)
    rw [List.getElem_mapIdx, if_pos (List.any_eq_true.2 ⟨_, h9, by simp⟩)]
    have h7 : ∀ h, (bth fs)[i]'h = ⟨fs[i].2, fs[i].2.length, true⟩ := fun h => List.getElem_map _
    rw [h7]
  have e : ract (apR q fs fs.length) opD = lsg (apR q fs fs.length) := rfl
  rw [e]
  unfold lsg
  rw [ht]
  show (⟨q, (bth fs).mapIdx _, bnm fs fs.length, bnm fs fs.length, [], -1, false⟩ : RS) = _
  have hm2 := hm
  unfold rbgn
  congr 1
/-- what Load leaves is what the document's Load leaves -/
theorem ld_rl (hq : 0 ≤ q ∧ q ≤ 4194304) (hl : l.length = fs.length) (hE : LdE q fs l fs.length) (hW : WF (crs q (fs.zip l)) N) : Rl (sd (aps (crs q (fs.zip l)) fs)) (rbgn q fs) := by
  have hl2 : l.length ≤ fs.length := Nat.le_of_eq hl
  have hnd := crs_nodup hl2 hE.1 hW
  have hz : (fs.zip l).take l.length = fs.zip l := List.take_of_length_le (by rw [List.length_zip]; omega)
  have hd : ∀ a b (_ : a < b) (h : b < fs.length), (fs[a]'(by omega)).1 ≠ fs[b].1 := fun a b hab h => crs_distinct hl2 hE.1 a b hab (by omega)
  have hnm : ∀ i (h : i < fs.length), isNm fs[i].1 = true := fun i h => ((crs_at hl2 hE.1 l.length (Nat.le_refl _)).2.2 i (by omega) h (by omega)).2
  obtain ⟨r, wf⟩ := crs_rl hq hl2 hnd hE.1 l.length (Nat.le_refl _)
  rw [hz, hl, ← apR_zero] at r
  rw [hz] at wf
  obtain ⟨r2, wf2⟩ := aps_rl hd hnm r wf (kk := fs.length) hE.2 fs.length (Nat.le_refl _) (Nat.le_refl _)
  rw [List.take_of_length_le (Nat.le_refl _)] at r2 wf2
  obtain ⟨f, hf⟩ := fresh2 (aps (crs q (fs.zip l)) fs).ids
  obtain ⟨e3, r3⟩ := r2.do wf2 opD f hf ⟨by decide, by decide⟩
  have h8 : (rdo (apR q fs fs.length) opD).2 = 0 := (rdo_err rfl rfl).trans rfl
  rw [(rdo_ok rfl rfl h8).1, apR_last hd] at r3
  exact r3
theorem bnm_some (s : List UInt8) : ∀ i, i ≤ fs.length → ((get (bnm fs i) s).isSome = true ↔ s ∈ (fs.take i).map (·.1))
  | 0, _ => by
    rw [List.take_zero, List.map_nil]
    exact ⟨(fun h => by cases h), (fun h => by cases h)⟩
  | i + 1, h => by
    have hf : i < fs.length := by omega
    have e1 : (fs.getD i ([], [])).1 = fs[i].1 := by rw [List.getD_eq_getElem?_getD, List.getElem?_eq_getElem hf]; rfl
    have ih := bnm_some s i (by omega)
    show (get (put (bnm fs i) (fs.getD i ([], [])).1 i) s).isSome = true ↔ _
    rw [e1, get_put, List.take_succ_eq_append_getElem hf, List.map_append, List.mem_append, ← ih, List.map_singleton, List.mem_singleton]
    by_cases h9 : s = fs[i].1
    · rw [if_pos h9]
      exact ⟨fun _ => .inr h9, fun _ => rfl⟩
    · rw [if_neg h9]
      exact ⟨fun h => .inl h, fun h => h.resolve_right h9⟩
theorem scn_go : ∀ i, i ≤ fs.length → (∀ j (h : j < fs.length), j < i → isNm fs[j].1 = true ∧ fs[j].1 ∉ (fs.take j).map (·.1)) → scn [] fs = scn ((fs.take i).map (·.1)) (fs.drop i)
  | 0, _, _ => rfl
  | i + 1, h, hh => by
    have hf : i < fs.length := by omega
    have h9 := hh i hf (by omega)
    rw [scn_go i (by omega) (fun j hj hi => hh j hj (by omega)), scn_at fs i hf, if_neg (by rw [h9.1]; decide), if_neg h9.2]
theorem names_new (hl : l.length ≤ fs.length) (hE : ∀ i (h : i < fs.length), i < l.length → crtE (crs q ((fs.zip l).take i)) fs[i].1 = 0) : ∀ j (h : j < fs.length), j < l.length → isNm fs[j].1 = true ∧ fs[j].1 ∉ (fs.take j).map (·.1) := fun j h hj => by
  refine ⟨((crs_at hl hE l.length (Nat.le_refl _)).2.2 j hj h hj).2, fun hm => ?_⟩
  obtain ⟨a, ha, e⟩ := List.getElem_of_mem hm
  rw [List.length_map, List.length_take] at ha
  rw [List.getElem_map, List.getElem_take] at e
  exact crs_distinct hl hE a j (by omega) hj e
/-- a Create is refused -/
theorem ld_errC (hq : 0 ≤ q ∧ q ≤ 4194304) (h : l.length < fs.length) (hE : ∀ i (h : i < fs.length), i < l.length → crtE (crs q ((fs.zip l).take i)) fs[i].1 = 0) (hW : WF (crs q (fs.zip l)) N) (hne : crtE (crs q (fs.zip l)) fs[l.length].1 ≠ 0) : crtE (crs q (fs.zip l)) fs[l.length].1 = rldE q fs := by
  have hl2 : l.length ≤ fs.length := Nat.le_of_lt h
  have hnd := crs_nodup hl2 hE hW
  have hz : (fs.zip l).take l.length = fs.zip l := List.take_of_length_le (by rw [List.length_zip]; omega)
  obtain ⟨r, wf⟩ := crs_rl hq hl2 hnd hE l.length (Nat.le_refl _)
  rw [hz] at r wf
  obtain ⟨f, hf⟩ := fresh2 (crs q (fs.zip l)).ids
  have eN : (opC fs[l.length].1).a.data.toList = fs[l.length].1 := by simp [opC]
  have e1 := (r.do wf (opC fs[l.length].1) f hf ⟨show (1 : Int) ≤ 1 by decide, show (1 : Int) ≤ 7 by decide⟩).1
  have hdE : doE (crs q (fs.zip l)) (opC fs[l.length].1) = crtE (crs q (fs.zip l)) fs[l.length].1 := by
    unfold doE
    rw [if_pos (show (opC fs[l.length].1).k = 1 from rfl), eN]
  rw [hdE, rdo_err rfl rfl] at e1
  have e2 : rref (mkR q fs l.length) (opC fs[l.length].1) = scn [] fs ∨ rref (mkR q fs l.length) (opC fs[l.length].1) = 0 := by
    rw [scn_go l.length hl2 (names_new hl2 hE), scn_at fs l.length h]
    unfold rref
    rw [if_neg (show ¬ (opC fs[l.length].1).k = 7 by show ¬ (1 : Int) = 7; decide), eN]
    by_cases h1 : isNm fs[l.length].1 = false
    · rw [if_pos h1, if_pos h1]
      exact .inl rfl
    · rw [if_neg h1, if_neg h1, if_neg (fun h => absurd (show (1 : Int) = 5 from h.1) (by decide)), if_pos (show (opC fs[l.length].1).k = 1 from rfl)]
      by_cases h2 : fs[l.length].1 ∈ (fs.take l.length).map (·.1)
      · rw [if_pos h2, if_pos (show (get (mkR q fs l.length).nm fs[l.length].1).isSome = true from (bnm_some _ l.length hl2).2 h2)]
        exact .inl rfl
      · rw [if_neg (show ¬ (get (mkR q fs l.length).nm fs[l.length].1).isSome = true from fun h => h2 ((bnm_some _ l.length hl2).1 h))]
        exact .inr rfl
  rcases e2 with e2 | e2
  · rw [e1, e2] at hne ⊢
    unfold rldE
    rw [if_neg (by omega), if_pos hne]
  · exact absurd (e1.trans e2) hne
theorem tkn_full (fs : List (List UInt8 × List Nat)) (m : Nat) : tkn (fs.map (fun x => (⟨x.2, x.2.length, true⟩ : Th)) ++ List.replicate m ⟨[], 0, true⟩) = flen fs := by
  unfold tkn flen
  rw [List.map_append, List.sum_append, List.map_map, List.map_replicate]
  have h0 : (List.replicate m (if true = true then ([] : List Nat).length else 0)).sum = 0 := by
    induction m with
    | zero => rfl
    | succ m ih => rw [List.replicate_succ, List.sum_cons, ih]; rfl
  rw [h0]
  rfl
/-- an Append is refused, or none is -/
theorem ld_errA (hq : 0 ≤ q ∧ q ≤ 4194304) (hl : l.length = fs.length) {k : Nat} (hE : LdE q fs l k) (hW : WF (crs q (fs.zip l)) N) : (∀ h : k < fs.length, appE (aps (crs q (fs.zip l)) (fs.take k)) fs[k].1 fs[k].2 ≠ 0 → appE (aps (crs q (fs.zip l)) (fs.take k)) fs[k].1 fs[k].2 = rldE q fs) ∧ (k = fs.length → rldE q fs = 0) := by
  have hl2 : l.length ≤ fs.length := Nat.le_of_eq hl
  have hnd := crs_nodup hl2 hE.1 hW
  have hz : (fs.zip l).take l.length = fs.zip l := List.take_of_length_le (by rw [List.length_zip]; omega)
  have hd : ∀ a b (_ : a < b) (h : b < fs.length), (fs[a]'(by omega)).1 ≠ fs[b].1 := fun a b hab h => crs_distinct hl2 hE.1 a b hab (by omega)
  have hnm : ∀ i (h : i < fs.length), isNm fs[i].1 = true := fun i h => ((crs_at hl2 hE.1 l.length (Nat.le_refl _)).2.2 i (by omega) h (by omega)).2
  have hsc : scn [] fs = 0 := by
    rw [scn_go fs.length (Nat.le_refl _) (fun j h _ => names_new hl2 hE.1 j h (by omega)), List.drop_of_length_le (Nat.le_refl _)]
    rfl
  obtain ⟨r, wf⟩ := crs_rl hq hl2 hnd hE.1 l.length (Nat.le_refl _)
  rw [hz, hl, ← apR_zero] at r
  rw [hz] at wf
  refine ⟨fun h hne => ?_, fun h => ?_⟩
  · obtain ⟨r2, wf2⟩ := aps_rl hd hnm r wf hE.2 k (Nat.le_refl _) (Nat.le_of_lt h)
    obtain ⟨f, hf⟩ := fresh2 (aps (crs q (fs.zip l)) (fs.take k)).ids
    have eA : (opA fs[k].1 fs[k].2).a.data.toList = fs[k].1 := by simp [opA]
    have e1 := (r2.do wf2 (opA fs[k].1 fs[k].2) f hf ⟨show (1 : Int) ≤ 2 by decide, show (2 : Int) ≤ 7 by decide⟩).1
    have hdE : doE (aps (crs q (fs.zip l)) (fs.take k)) (opA fs[k].1 fs[k].2) = appE (aps (crs q (fs.zip l)) (fs.take k)) fs[k].1 fs[k].2 := by
      unfold doE
      rw [if_neg (show ¬ (opA fs[k].1 fs[k].2).k = 1 by show ¬ (2 : Int) = 1; decide), if_pos (show (opA fs[k].1 fs[k].2).k = 2 from rfl), eA]
      rfl
    rw [hdE, rdo_err rfl rfl] at e1
    have hg : get (apR q fs k).nm fs[k].1 = some k := bnm_get hd fs.length (Nat.le_refl _) k h h
    have ht : tkn (apR q fs k).th = flen (fs.take k) := tkn_full _ _
    have e2 : rref (apR q fs k) (opA fs[k].1 fs[k].2) = if (fs[k].2.length : Int) > q - (flen (fs.take k) : Int) then 64 else 0 := by
      unfold rref
      rw [if_neg (show ¬ (opA fs[k].1 fs[k].2).k = 7 by show ¬ (2 : Int) = 7; decide), eA, if_neg (by rw [hnm k h]; decide), if_neg (fun h => absurd (show (2 : Int) = 5 from h.1) (by decide)), if_neg (show ¬ (opA fs[k].1 fs[k].2).k = 1 by show ¬ (2 : Int) = 1; decide), hg, ht]
      show (if (2 : Int) = 4 ∧ _ then (65 : Int) else if (2 : Int) = 2 ∧ (fs[k].2.length : Int) > q - (flen (fs.take k) : Int) then 64 else 0) = _
      simp
    rw [e1, e2] at hne ⊢
    by_cases hg2 : (fs[k].2.length : Int) > q - (flen (fs.take k) : Int)
    · have h7 : flen (fs.take (k + 1)) = flen (fs.take k) + fs[k].2.length := by rw [List.take_succ_eq_append_getElem h, flen_snoc]
      have h8 := flen_take fs (k + 1)
      unfold rldE
      rw [if_pos hg2, if_neg (by omega), if_neg (fun e => e hsc), if_pos (by omega)]
    · rw [if_neg hg2] at hne
      exact absurd rfl hne
  · subst h
    obtain ⟨r2, wf2⟩ := aps_rl hd hnm r wf hE.2 fs.length (Nat.le_refl _) (Nat.le_refl _)
    have h1 := wf2.tk
    have h2 := r2.tk
    have h3 : tkn (apR q fs fs.length).th = flen (fs.take fs.length) := tkn_full _ _
    have h4 : q = _ := r2.quota
    rw [h2, h3, ← h4, List.take_of_length_le (Nat.le_refl _)] at h1
    unfold rldE
    rw [if_neg (by omega), if_neg (fun e => e hsc), if_neg (by omega)]
end
end Rd
open Rd
/-- Load: the program's answer by the document's -/
theorem dkload_rl (q : Int) (ok1 : Nat → Prop) (v : Value) (fs : List (List UInt8 × List Nat)) (w : World) (hfs : Fls ok1 w v fs) (hn : fs.length ≤ 400000000) (hnm : ∀ x ∈ fs, x.1.length ≤ maxLen) :
    Calls Tryz.prog 8 #[.int .i64 q, v] w fun e w' => Below w.heap.size w w' ∧ ((rldE q fs ≠ 0 ∧ e = .returned (.tuple #[.pointer none, .int .i64 (rldE q fs)])) ∨ (rldE q fs = 0 ∧ ∃ g S M, e = .returned (.tuple #[.pointer (some ⟨g, 0, none⟩), .int .i64 0]) ∧ DM w.heap.size w' g S M ∧ Dk.WF S fs.length ∧ Rl S (rbgn q fs))) := by
  refine (dkload_any q ok1 v fs w hfs hn hnm).mono fun e w' ⟨bel, h⟩ => ⟨bel, ?_⟩
  rcases h with ⟨h1, rfl⟩ | ⟨hq, l, k, hE, hW, h⟩
  · have e9 : rldE q fs = 1 := by
      unfold rldE
      rw [if_pos (by omega)]
    rw [e9]
    exact .inl ⟨by decide, rfl⟩
  · rcases h with ⟨h1, -, h2, rfl⟩ | ⟨h1, h2, h3, rfl⟩ | ⟨h1, rfl, g, M, rfl, h4, h5⟩
    · have e9 := ld_errC hq h1 hE.1 hW h2
      rw [e9] at h2 ⊢
      exact .inl ⟨h2, rfl⟩
    · have e9 := (ld_errA hq h1 hE hW).1 h2 h3
      rw [e9] at h3 ⊢
      exact .inl ⟨h3, rfl⟩
    · exact .inr ⟨(ld_errA hq h1 hE hW).2 rfl, g, _, M, rfl, h4, h5, ld_rl hq h1 hE hW⟩
end Go.Proofs.YtppabcihbpbfpaaGreatDoor
