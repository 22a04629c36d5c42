import Derived.Test.YtcnnpohnfoaceaaGreatDoorQPC
import Derived.Test.YtcnnpohnfoaceaaGreatDoorQP6
import Derived.Test.YtcnnpohnfoaceaaGreatDoorQPW
import Derived.Test.YtcnnpohnfoaceaaGreatDoorQPX
/-
  annalsref15: Parse: what is needed beside the walk.
-/
namespace Go.Proofs.YtcnnpohnfoaceaaGreatDoor
open Go Go.RowKit
open Wb
open Text.Tx (Wd wdc wds wordP wdA)

/-- a word that is a name is one -/
theorem wds_nmd (s : ByteArray) : ∀ (n i : Nat), s.size - i ≤ n → ∀ d ∈ (wds s i).1, d.k = 1 → nmd d.t = true := by
  intro n
  induction n with
  | zero => intro i hi d hd; rw [Text.Tx.wds_out s i (by omega)] at hd; cases hd
  | succ n ih =>
    intro i hi d hd hk
    by_cases h : i < s.size
    · rw [wds, dif_pos h] at hd
      split at hd
      · cases hd
      split at hd
      · exact ih (i + 1) (by omega) d hd hk
      split at hd
      · cases hd
      · rename_i d2 e hw
        split at hd
        · cases hd
        split at hd
        · have h1 : i + 1 ≤ max e (i + 1) := Nat.le_max_right _ _
          rcases List.mem_cons.1 hd with rfl | hd
          · unfold wordP at hw
            split at hw
            · split at hw
              · cases hw
              · rename_i hnm
                injection hw with hw
                injection hw with hw _
                subst hw
                unfold nmd
                simpa using hnm
            split at hw
            · split at hw
              · cases hw
              split at hw
              · cases hw
              · injection hw with hw
                injection hw with hw _
                subst hw
                simp at hk
            split at hw
            · split at hw
              · cases hw
              · injection hw with hw
                injection hw with hw _
                subst hw
                simp at hk
            split at hw
            · injection hw with hw
              injection hw with hw _
              subst hw
              simp at hk
            · cases hw
          · exact ih _ (by omega) d hd hk
        · cases hd
    · rw [Text.Tx.wds_out s i h] at hd; cases hd
theorem wdA_nmd {line : ByteArray} (h : (wdA line).2.1 = 0) : ∀ d ∈ (wdA line).1, d.k = 1 → nmd d.t = true := by
  unfold wdA at h ⊢
  split at h
  · cases h
  · rename_i h1
    rw [if_neg h1]
    exact wds_nmd line line.size 0 (by omega)
theorem addS_in (R : RdP) (s : Sd) (h : 0 ≤ R.piv ∧ R.piv ≤ (R.ss.length : Int)) : 0 ≤ (addS R s).piv ∧ (addS R s).piv ≤ ((addS R s).ss.length : Int) := by
  rw [(addS_ss R s).1]
  unfold addS
  cases s.pv with
  | true => simp; omega
  | false => simp; omega
theorem addL_in : ∀ (l : List Sd) (R : RdP), 0 ≤ R.piv ∧ R.piv ≤ (R.ss.length : Int) → 0 ≤ (l.foldl addS R).piv ∧ (l.foldl addS R).piv ≤ ((l.foldl addS R).ss.length : Int)
  | [], _, h => h
  | s :: r, R, h => addL_in r (addS R s) (addS_in R s h)
theorem addAll_in (l : List Sd) : 0 ≤ (addAll l).piv ∧ (addAll l).piv ≤ ((addAll l).ss.length : Int) := addL_in l _ ⟨Int.le_refl _, Int.le_refl _⟩
theorem addAll_size (l : List Sd) : (addAll l).ss.length = l.length ∧ (addAll l).ats.length = l.length := by
  have h := addAll_len l ⟨0, [], []⟩
  simp only [List.length_nil, Nat.zero_add] at h
  exact h
theorem addL_ats : ∀ (l : List Sd) (R : RdP), (l.foldl addS R).ats = R.ats ++ l.map (·.at_)
  | [], R => by simp
  | s :: r, R => by
    rw [List.foldl_cons, addL_ats r]
    unfold addS
    simp
theorem addAll_ats (l : List Sd) : (addAll l).ats = l.map (·.at_) := by
  unfold addAll
  rw [addL_ats]
  simp
theorem addAll_take {l : List Sd} {k : Nat} (hk : k < l.length) : addAll (l.take (k + 1)) = addS (addAll (l.take k)) l[k] := by
  rw [← addAll_snoc, List.take_add_one, List.getElem?_eq_getElem hk]
  rfl
theorem rErr_eq {p : Pln} (hn : nmd p.nm = true) (hl : 1 ≤ p.ss.length) (hp : 0 ≤ p.piv ∧ p.piv ≤ (p.ss.length : Int)) (h : (fErr p).1 ≠ 0) : rErr2 p = (fErr p).2 := by
  have hw : winP p.piv 0 (p.ss.length : Int) = true := by unfold winP; simp [hp.1, hp.2]
  have h0 : p.ss.length ≠ 0 := by omega
  unfold fErr at h ⊢
  unfold rErr2
  simp only [hn, hw, h0, if_false, Bool.true_eq_false] at h ⊢
  by_cases h3 : 32 < p.ss.length
  · simp only [h3, if_true]
  · simp only [h3, if_false] at h ⊢
    rw [if_pos h]
theorem rwhole_name {ws : List Wd} {nm : ByteArray} {l : List Sd} (h : ∀ d ∈ ws, d.k = 1 → nmd d.t = true) (e : rwholeP ws = .ok (nm, l)) : nmd nm = true := by
  unfold rwholeP at e
  split at e
  · cases e
  · rename_i d w1 h1
    split at e
    · cases e
    · split at e
      · cases e
      · injection e with e; injection e with e1 e2
        obtain ⟨rfl, hk⟩ := takeP_len h1
        rw [← e1]
        exact h d (List.mem_cons_self ..) hk
theorem flat_set : ∀ (l : List Sd) (k : Nat) (s s' : Sd) (j : Nat) (u : Value), l[k]? = some s → j < 6 → (sdl s).set j u = sdl s' → (l.flatMap sdl).set (k * 6 + j) u = (l.set k s').flatMap sdl
  | [], k, s, s', j, u, h, _, _ => by simp at h
  | x :: r, 0, s, s', j, u, h, hj, e => by
    simp at h
    subst h
    rw [List.flatMap_cons, Nat.zero_mul, Nat.zero_add, List.set_append_left _ _ (by show j < 6; exact hj), e]
    rfl
  | x :: r, k + 1, s, s', j, u, h, hj, e => by
    rw [List.flatMap_cons, List.set_append_right _ _ (by show 6 ≤ _; omega)]
    show sdl x ++ (r.flatMap sdl).set ((k + 1) * 6 + j - 6) u = _
    rw [show (k + 1) * 6 + j - 6 = k * 6 + j by omega, flat_set r k s s' j u (by simpa using h) hj e]
    rfl
theorem flat_sd : ∀ (l : List Sd) (k : Nat) (s : Sd) (j : Nat) (u : Value), l[k]? = some s → (sdl s)[j]? = some u → (l.flatMap sdl)[k * 6 + j]? = some u
  | [], k, s, j, u, h, _ => by simp at h
  | x :: r, 0, s, j, u, h, hj => by
    simp at h
    subst h
    rw [List.flatMap_cons, Nat.zero_mul, Nat.zero_add, List.getElem?_append_left (List.getElem?_eq_some_iff.1 hj).1]
    exact hj
  | x :: r, k + 1, s, j, u, h, hj => by
    rw [List.flatMap_cons, List.getElem?_append_right (by show 6 ≤ _; omega)]
    show (r.flatMap sdl)[(k + 1) * 6 + j - 6]? = _
    rw [show (k + 1) * 6 + j - 6 = k * 6 + j by omega]
    exact flat_sd r k s j u (by simpa using h) hj
/-- a step that is said, in its row -/
theorem SdR.at {B g n cap : Nat} {w : World} {l : List Sd} (h : SdR B w (.slice (some ⟨g, 0, none⟩) n cap) l) (hn : n = l.length) (k : Nat) (hk : k < l.length) : w.rangeAt g (k * 6) (sdl l[k]) := by
  subst hn
  intro j u hj
  have h9 := World.ownsRow.cellAt h (k * 6 + j) (by have : j < 6 := (List.getElem?_eq_some_iff.1 hj).1; omega)
  rw [h9]
  exact flat_sd l k _ j u (List.getElem?_eq_getElem hk) hj
theorem SdR.free {B g n cap : Nat} {w : World} {l : List Sd} (h : SdR B w (.slice (some ⟨g, 0, none⟩) n cap) l) (j : Nat) : w.frozen? ⟨g, j, none⟩ = false := by
  rcases h.2 with ⟨h', _⟩ | ⟨g', cap', cur, h', _, hg, _⟩
  · simp at h'
  · simp only [Value.slice.injEq, Option.some.injEq, Addr.mk.injEq, and_true] at h'
    obtain ⟨rfl, -⟩ := h'
    simp [World.frozen?, hg]
def zpl : List Value := [.string ⟨#[]⟩, .int .i64 0, .slice none 0 0]
/-- Parse's memory in its loop -/
structure PL (w : World) (gp B N : Nat) (v : Value) (nm : ByteArray) (l : List Sd) (W : World) (m : List Sd) (pv : Int) (vs : Value) (ss : List Stp) : Prop where
  l2 : LB W w.heap.size 25 zpl
  l5 : LB W (w.heap.size + 1) 25 zpl
  lp : LB W gp 25 [.string nm, .int .i64 pv, vs]
  bl : Below w.heap.size w W
  row : SdR B W v m
  st : W.ownsRow N 60 3 vs ss.length (ss.flatMap stl)
  len : m.length = l.length
  ats : m.map (·.at_) = l.map (·.at_)
  o1 : w.heap.size + 1 < gp
  o2 : gp < B
  o3 : B ≤ N
  o4 : ∀ g, v.ownBlock = some g → g < N
  o5 : N ≤ W.heap.size
section
variable {w : World} {gp B N : Nat} {v : Value} {nm : ByteArray} {l : List Sd} {W : World} {m : List Sd} {pv : Int} {vs : Value} {ss : List Stp}
theorem PL.up {W' : World} (h : PL w gp B N v nm l W m pv vs ss) (hb : Below W.heap.size W W') : PL w gp B N v nm l W' m pv vs ss :=
  ⟨h.l2.kept hb, h.l5.kept hb, h.lp.kept hb, andThen h.bl hb, ownsRow_same h.row fun g e => hb.block g (World.ownsRow.lt h.row g e).2, ownsRow_same h.st fun g e => hb.block g (World.ownsRow.lt h.st g e).2, h.len, h.ats, h.o1, h.o2, h.o3, h.o4, Nat.le_trans h.o5 hb.size⟩
theorem PL.tries {g n cap : Nat} (h : PL w gp B N (.slice (some ⟨g, 0, none⟩) n cap) nm l W m pv vs ss) (hn : n = m.length) (k : Nat) (hk : k < m.length) (s' : Sd) (e : (sdl m[k]).set 2 (.int .i64 1) = sdl s') (ea : s'.at_ = m[k].at_) : PL w gp B N (.slice (some ⟨g, 0, none⟩) n cap) nm l (W.setCell ⟨g, k * 6 + 2, none⟩ (.int .i64 1)) (m.set k s') pv vs ss := by
  subst hn
  have hb : B ≤ g := (World.ownsRow.lt h.row g rfl).1
  have h1 := h.o1
  have h2 := h.o2
  have h4 := h.o4 g rfl
  refine ⟨h.l2.other _ _ (by show w.heap.size ≠ g; omega), h.l5.other _ _ (by show w.heap.size + 1 ≠ g; omega), h.lp.other _ _ (by show gp ≠ g; omega), Below.setCell (p := ⟨g, k * 6 + 2, none⟩) h.bl (by show w.heap.size ≤ g; omega) _, ?_, ownsRow_same h.st fun g' e' => set_other _ _ _ _ ?_, by rw [List.length_set]; exact h.len, ?_, h1, h2, h.o3, h.o4, by rw [size_set1]; exact h.o5⟩
  · have q := (World.ownsRow.stored h.row (k * 6 + 2) (.int .i64 1)).1
    rw [flat_set m k _ s' 2 _ (List.getElem?_eq_getElem hk) (by omega) e] at q
    unfold SdR
    rw [List.length_set]
    exact q
  · have := (World.ownsRow.lt h.st g' e').1
    show g' ≠ g
    omega
  · rw [← h.ats, List.map_set, ea]
    refine List.ext_getElem? fun i => ?_
    rw [List.getElem?_set]
    split
    · rename_i hi
      subst hi
      rw [if_pos (by rw [List.length_map]; exact hk), List.getElem?_map, List.getElem?_eq_getElem hk]
      rfl
    · rfl
theorem PL.piv (h : PL w gp B N v nm l W m pv vs ss) (z : Int) : PL w gp B N v nm l (W.setCell ⟨gp, 1, none⟩ (.int .i64 z)) m z vs ss := by
  have h1 := h.o1
  have h2 := h.o2
  have h3 := h.o3
  exact ⟨h.l2.other _ _ (by show w.heap.size ≠ gp; omega), h.l5.other _ _ (by show w.heap.size + 1 ≠ gp; omega), h.lp.set 1 _, Below.setCell (p := ⟨gp, 1, none⟩) h.bl (by show w.heap.size ≤ gp; omega) _, ownsRow_same h.row fun g' e' => set_other _ _ _ _ (by have := (World.ownsRow.lt h.row g' e').1; show g' ≠ gp; omega), ownsRow_same h.st fun g' e' => set_other _ _ _ _ (by have := (World.ownsRow.lt h.st g' e').1; show g' ≠ gp; omega), h.len, h.ats, h1, h2, h3, h.o4, by rw [size_set1]; exact h.o5⟩
theorem PL.push {W' : World} {v' : Value} {s : Stp} (h : PL w gp B N v nm l W m pv vs ss) (hr : W'.ownsRow N 60 3 v' (ss.length + 1) (ss.flatMap stl ++ stl s)) (hg : W.grownBy W' vs.ownBlock) :
    PL w gp B N v nm l (W'.setCell ⟨gp, 2, none⟩ v') m pv v' (ss ++ [s]) ∧ LB W' gp 25 [.string nm, .int .i64 pv, vs] ∧ SdR B W' v m := by
  have h1 := h.o1
  have h2 := h.o2
  have h3 := h.o3
  have hs : ∀ g, g < N → W'.heap[g]? = W.heap[g]? := fun g hg' => hg.block _ (Nat.lt_of_lt_of_le hg' h.o5) fun e => by
    have := (World.ownsRow.lt h.st _ e.symm).1
    omega
  have hp : LB W' gp 25 [.string nm, .int .i64 pv, vs] := (hs gp (by omega)).trans h.lp
  have hm : SdR B W' v m := ownsRow_same h.row fun g e => hs g (h.o4 g e)
  have hb : Below w.heap.size w W' := h.bl.grown hg h.bl.size fun g e => by
    have := (World.ownsRow.lt h.st _ e).1
    omega
  have h4 : ∀ g, v'.ownBlock = some g → N ≤ g := fun g e => (World.ownsRow.lt hr g e).1
  refine ⟨⟨LB.other ((hs _ (by omega)).trans h.l2) _ _ (by show w.heap.size ≠ gp; omega), LB.other ((hs _ (by omega)).trans h.l5) _ _ (by show w.heap.size + 1 ≠ gp; omega), hp.set 2 _, Below.setCell (p := ⟨gp, 2, none⟩) hb (by show w.heap.size ≤ gp; omega) _, ownsRow_same hm fun g' e' => set_other _ _ _ _ (by have := (World.ownsRow.lt hm g' e').1; show g' ≠ gp; omega), ?_, h.len, h.ats, h1, h2, h3, h.o4, by rw [size_set1]; exact Nat.le_trans h.o5 hg.size⟩, hp, hm⟩
  rw [List.length_append, List.flatMap_append, List.flatMap_singleton]
  exact ownsRow_same hr fun g' e' => set_other _ _ _ _ (by have := h4 g' e'; show g' ≠ gp; omega)
end
/-- the reader that Parse makes -/
theorem rr_new {B : Nat} {w1 : World} {v : Value} {ws : List Wd} (h : Text.WdR B w1 v ws) (hl : ws.length ≤ 65536) (en : Nat) : RR w1.heap.size (w1.alloc (.cells #[v, .int .i64 0, .int .i64 (en : Int)] 52)) v ws 0 en :=
  ⟨lb_new w1 [v, .int .i64 0, .int .i64 (en : Int)] 52, (wdb_of h).same fun g hg => (up0 w1 _).block g hg, hl, Nat.zero_le _⟩
end Go.Proofs.YtcnnpohnfoaceaaGreatDoor
