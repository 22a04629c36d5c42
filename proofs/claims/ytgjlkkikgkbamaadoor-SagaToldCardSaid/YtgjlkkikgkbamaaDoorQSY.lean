import Derived.BigQuiet
import Derived.Test.YtgjlkkikgkbamaaDoorQSX
import Derived.Test.YtgjlkkikgkbamaaDoorQSI
import Derived.Test.YtgjlkkikgkbamaaDoorQE2
/-
  SagaWhole: follow.
-/
namespace Go.Proofs.YtgjlkkikgkbamaaDoor
open Go Go.RowKit
open Wb

/-- what was seen: its cells -/
def trl (cnt piv dn un : Int) : List Value := [.int .i64 cnt, .int .i64 piv, .int .i64 dn, .int .i64 un]
/-- every block but this one stays -/
def Oth (g : Nat) (w w' : World) : Prop := ∀ b, b ≠ g → b < w.heap.size → w'.heap[b]? = w.heap[b]?
def FolPost (g : Nat) (w : World) (cnt piv dn un : Int) (e : Ending) (w' : World) : Prop := e = .returned (.bool true) ∧ LB w' g 38 (trl cnt piv dn un) ∧ Oth g w w' ∧ Below g w w'
theorem drewN_below {B : Nat} {a w : World} (h : Below B a w) (n : Nat) : Below B a (w.drewN n) := h.trans ⟨rfl, rfl, rfl, Nat.le_refl _, fun _ _ => rfl⟩
theorem fol_set {w W : World} {g j : Nat} {v : Value} (hb : Below w.heap.size w W) (hg : g < w.heap.size) : Oth g w (W.setCell ⟨g, j, none⟩ v) ∧ Below g w (W.setCell ⟨g, j, none⟩ v) :=
  ⟨fun b hb1 hb2 => (set_other W ⟨g, j, none⟩ v b hb1).trans (hb.block b hb2), Below.setCell (hb.mono (Nat.le_of_lt hg)) (Nat.le_refl _) _⟩
theorem fol_no {w W : World} {g : Nat} (hb : Below w.heap.size w W) (hg : g < w.heap.size) : Oth g w W ∧ Below g w W :=
  ⟨fun b _ hb2 => hb.block b hb2, hb.mono (Nat.le_of_lt hg)⟩
set_option maxRecDepth 100000 in
set_option maxHeartbeats 4000000 in
theorem follow_3 (cnt piv dn : Int) (g : Nat) (x : Nums) (nm : ByteArray) (d : Value) (w : World) (L : LB w g 38 (trl cnt piv dn 0)) (hk : x.k = 3) (hp : x.p = dn) (hd : 0 ≤ dn) (hc : dn < cnt) (hc2 : cnt ≤ 32) :
    Calls Tryd.prog 11 #[.pointer (some ⟨g, 0, none⟩), rv x nm d] w fun e w' => FolPost g w cnt piv (dn + 1) 0 e w' := by
  obtain ⟨E, hD2, hL2, hE2⟩ := rv_letter x nm d
  rw [hD2]
  have HE2 : Hid (E = rcE x nm d) := hE2
  obtain ⟨C, hC⟩ : ∃ C, trl cnt piv dn 0 = C := ⟨_, rfl⟩
  rw [hC] at L
  have HC : Hid (C = trl cnt piv dn 0) := hC.symm
  have HLT : Hid (g < w.heap.size) := L.lt
  have hg : g ≠ w.heap.size := Nat.ne_of_lt L.lt
  have hg2 : w.heap.size ≠ g := Ne.symm hg
  have HX : Hid (∀ t, LB (w.alloc (.cells E.toArray t)) g 38 C ∧ LB (w.alloc (.cells E.toArray t)) w.heap.size t E ∧ Below w.heap.size w (w.alloc (.cells E.toArray t))) := fun t => lb_rec w g _ t C E L
  clear hD2 hL2 hE2 hC L
  go_enter Tryd.func11, Tryd.ntmps11
  have HX1 : Hid _ := HX.out 25
  clear HX
  have t0 := HX1.out.1.cell 0 (.int .i64 cnt) (by rw [HC.out]; rfl)
  have t2 := HX1.out.1.cell 2 (.int .i64 dn) (by rw [HC.out]; rfl)
  have t3 := HX1.out.1.cell 3 (.int .i64 0) (by rw [HC.out]; rfl)
  have f2 := HX1.out.1.free 2
  have r1 := HX1.out.2.1.cell 1 (.int .i64 3) (by rw [HE2.out, ← hk]; rfl)
  have r3 := HX1.out.2.1.cell 3 (.int .i64 dn) (by rw [HE2.out, ← hp]; rfl)
  have d1 : decide (dn < cnt) = true := by simp; omega
  have d2 : (dn == dn) = true := by simp
  have i1 : IntKind.i64.wrap (dn + 1) = dn + 1 := IntWalk.i64_in _ (by omega)
  clear hk hp
  go_wp2
  generalize hW : w.alloc (.cells E.toArray 25) = W1 at HX1 t0 t2 t3 f2 r1 r3 ⊢
  clear hW
  go_quiet (fail)
  go_wp2
  go_ret
  have hb : Below w.heap.size w (W1.drewN nq) := drewN_below HX1.out.2.2 _
  exact ⟨rfl, by have e := (HX1.out.1.kept (drewN_below (Below.refl _ _) nq)).set 2 (.int .i64 (dn + 1)); rw [HC.out] at e; exact e, (fol_set hb HLT.out).1, (fol_set hb HLT.out).2⟩
set_option maxRecDepth 100000 in
set_option maxHeartbeats 4000000 in
theorem follow_6 (cnt piv dn un : Int) (g : Nat) (x : Nums) (nm : ByteArray) (d : Value) (w : World) (L : LB w g 38 (trl cnt piv dn un)) (hk : x.k = 6) (hp : x.p = dn - 1 - un) (hp0 : 0 ≤ x.p) (hd : 0 ≤ dn ∧ dn ≤ 32) (hu : 0 ≤ un ∧ un ≤ 32) (hv : dn < piv) (hz : piv ≠ 0) :
    Calls Tryd.prog 11 #[.pointer (some ⟨g, 0, none⟩), rv x nm d] w fun e w' => FolPost g w cnt piv dn (un + 1) e w' := by
  obtain ⟨E, hD2, hL2, hE2⟩ := rv_letter x nm d
  rw [hD2]
  have HE2 : Hid (E = rcE x nm d) := hE2
  obtain ⟨C, hC⟩ : ∃ C, trl cnt piv dn un = C := ⟨_, rfl⟩
  rw [hC] at L
  have HC : Hid (C = trl cnt piv dn un) := hC.symm
  have HLT : Hid (g < w.heap.size) := L.lt
  have hg : g ≠ w.heap.size := Nat.ne_of_lt L.lt
  have hg2 : w.heap.size ≠ g := Ne.symm hg
  have HX : Hid (∀ t, LB (w.alloc (.cells E.toArray t)) g 38 C ∧ LB (w.alloc (.cells E.toArray t)) w.heap.size t E ∧ Below w.heap.size w (w.alloc (.cells E.toArray t))) := fun t => lb_rec w g _ t C E L
  clear hD2 hL2 hE2 hC L
  go_enter Tryd.func11, Tryd.ntmps11
  have HX1 : Hid _ := HX.out 25
  clear HX
  obtain ⟨P, hP⟩ : ∃ P, dn - 1 - un = P := ⟨_, rfl⟩
  have t1 := HX1.out.1.cell 1 (.int .i64 piv) (by rw [HC.out]; rfl)
  have t2 := HX1.out.1.cell 2 (.int .i64 dn) (by rw [HC.out]; rfl)
  have t3 := HX1.out.1.cell 3 (.int .i64 un) (by rw [HC.out]; rfl)
  have f3 := HX1.out.1.free 3
  have r1 := HX1.out.2.1.cell 1 (.int .i64 6) (by rw [HE2.out, ← hk]; rfl)
  have r3 := HX1.out.2.1.cell 3 (.int .i64 P) (by rw [HE2.out, ← hP, ← hp]; rfl)
  have d2 : (P == P) = true := by simp
  have d3 : decide (0 ≤ P) = true := by simp; omega
  have d1 : decide (dn < piv) = true := by simp; omega
  have d4 : (piv == 0) = false := by simpa using hz
  have i1 : IntKind.i64.wrap (dn - 1) = dn - 1 := IntWalk.i64_in _ (by omega)
  have i2 : IntKind.i64.wrap (dn - 1 - un) = P := by rw [← hP]; exact IntWalk.i64_in _ (by omega)
  have i3 : IntKind.i64.wrap (un + 1) = un + 1 := IntWalk.i64_in _ (by omega)
  clear hk hp hp0 hP hz
  go_wp2
  generalize hW : w.alloc (.cells E.toArray 25) = W1 at HX1 t1 t2 t3 f3 r1 r3 ⊢
  clear hW
  go_quiet (fail)
  go_wp2
  go_ret
  have hb : Below w.heap.size w (W1.drewN nq) := drewN_below HX1.out.2.2 _
  exact ⟨rfl, by have e := (HX1.out.1.kept (drewN_below (Below.refl _ _) nq)).set 3 (.int .i64 (un + 1)); rw [HC.out] at e; exact e, (fol_set hb HLT.out).1, (fol_set hb HLT.out).2⟩
set_option maxRecDepth 100000 in
set_option maxHeartbeats 4000000 in
theorem follow_6z (cnt dn un : Int) (g : Nat) (x : Nums) (nm : ByteArray) (d : Value) (w : World) (L : LB w g 38 (trl cnt 0 dn un)) (hk : x.k = 6) (hp : x.p = dn - 1 - un) (hp0 : 0 ≤ x.p) (hd : 0 ≤ dn ∧ dn ≤ 32) (hu : 0 ≤ un ∧ un ≤ 32) :
    Calls Tryd.prog 11 #[.pointer (some ⟨g, 0, none⟩), rv x nm d] w fun e w' => FolPost g w cnt 0 dn (un + 1) e w' := by
  obtain ⟨E, hD2, hL2, hE2⟩ := rv_letter x nm d
  rw [hD2]
  have HE2 : Hid (E = rcE x nm d) := hE2
  obtain ⟨C, hC⟩ : ∃ C, trl cnt 0 dn un = C := ⟨_, rfl⟩
  rw [hC] at L
  have HC : Hid (C = trl cnt 0 dn un) := hC.symm
  have HLT : Hid (g < w.heap.size) := L.lt
  have hg : g ≠ w.heap.size := Nat.ne_of_lt L.lt
  have hg2 : w.heap.size ≠ g := Ne.symm hg
  have HX : Hid (∀ t, LB (w.alloc (.cells E.toArray t)) g 38 C ∧ LB (w.alloc (.cells E.toArray t)) w.heap.size t E ∧ Below w.heap.size w (w.alloc (.cells E.toArray t))) := fun t => lb_rec w g _ t C E L
  clear hD2 hL2 hE2 hC L
  go_enter Tryd.func11, Tryd.ntmps11
  have HX1 : Hid _ := HX.out 25
  clear HX
  obtain ⟨P, hP⟩ : ∃ P, dn - 1 - un = P := ⟨_, rfl⟩
  have t1 := HX1.out.1.cell 1 (.int .i64 0) (by rw [HC.out]; rfl)
  have t2 := HX1.out.1.cell 2 (.int .i64 dn) (by rw [HC.out]; rfl)
  have t3 := HX1.out.1.cell 3 (.int .i64 un) (by rw [HC.out]; rfl)
  have f3 := HX1.out.1.free 3
  have r1 := HX1.out.2.1.cell 1 (.int .i64 6) (by rw [HE2.out, ← hk]; rfl)
  have r3 := HX1.out.2.1.cell 3 (.int .i64 P) (by rw [HE2.out, ← hP, ← hp]; rfl)
  have d2 : (P == P) = true := by simp
  have d3 : decide (0 ≤ P) = true := by simp; omega
  have i1 : IntKind.i64.wrap (dn - 1) = dn - 1 := IntWalk.i64_in _ (by omega)
  have i2 : IntKind.i64.wrap (dn - 1 - un) = P := by rw [← hP]; exact IntWalk.i64_in _ (by omega)
  have i3 : IntKind.i64.wrap (un + 1) = un + 1 := IntWalk.i64_in _ (by omega)
  clear hk hp hp0 hP
  go_wp2
  generalize hW : w.alloc (.cells E.toArray 25) = W1 at HX1 t1 t2 t3 f3 r1 r3 ⊢
  clear hW
  go_quiet (fail)
  go_wp2
  go_ret
  have hb : Below w.heap.size w (W1.drewN nq) := drewN_below HX1.out.2.2 _
  exact ⟨rfl, by have e := (HX1.out.1.kept (drewN_below (Below.refl _ _) nq)).set 3 (.int .i64 (un + 1)); rw [HC.out] at e; exact e, (fol_set hb HLT.out).1, (fol_set hb HLT.out).2⟩
set_option maxRecDepth 100000 in
set_option maxHeartbeats 4000000 in
theorem follow_o (cnt piv dn un : Int) (g : Nat) (x : Nums) (nm : ByteArray) (d : Value) (w : World) (L : LB w g 38 (trl cnt piv dn un)) (hk : x.k ≠ 3) (hk2 : x.k ≠ 6) :
    Calls Tryd.prog 11 #[.pointer (some ⟨g, 0, none⟩), rv x nm d] w fun e w' => FolPost g w cnt piv dn un e w' := by
  obtain ⟨E, hD2, hL2, hE2⟩ := rv_letter x nm d
  rw [hD2]
  have HE2 : Hid (E = rcE x nm d) := hE2
  obtain ⟨C, hC⟩ : ∃ C, trl cnt piv dn un = C := ⟨_, rfl⟩
  rw [hC] at L
  have HC : Hid (C = trl cnt piv dn un) := hC.symm
  have HLT : Hid (g < w.heap.size) := L.lt
  have hg : g ≠ w.heap.size := Nat.ne_of_lt L.lt
  have hg2 : w.heap.size ≠ g := Ne.symm hg
  have HX : Hid (∀ t, LB (w.alloc (.cells E.toArray t)) g 38 C ∧ LB (w.alloc (.cells E.toArray t)) w.heap.size t E ∧ Below w.heap.size w (w.alloc (.cells E.toArray t))) := fun t => lb_rec w g _ t C E L
  clear hD2 hL2 hE2 hC L
  go_enter Tryd.func11, Tryd.ntmps11
  have HX1 : Hid _ := HX.out 25
  clear HX
  have r1 := HX1.out.2.1.cell 1 (.int .i64 x.k) (by rw [HE2.out]; rfl)
  have d1 : (x.k == 3) = false := by simpa using hk
  have d2 : (x.k == 6) = false := by simpa using hk2
  clear hk hk2
  go_wp2
  go_ret
  exact ⟨rfl, by have e := HX1.out.1; rw [HC.out] at e; exact e, (fol_no HX1.out.2.2 HLT.out).1, (fol_no HX1.out.2.2 HLT.out).2⟩
theorem lens_of (S : Sg) (h : chkS S = true) : S.outs.length ≤ 32 ∧ S.und.length ≤ 32 := by
  obtain ⟨⟨_, _, b3, _⟩, hG⟩ := (chkS_iff S).1 h
  rcases hG with ⟨_, _, _, _, c4, c5, c6, c7, _⟩ | ⟨_, _, _, _, c4, c5, c6, _⟩ | ⟨_, c1, c2, c3, c4, c5, c6, _⟩ | ⟨_, c0, c1, c2, c3, c4, c5, c6, _⟩
  · rw [c4]; simp; omega
  · rw [c4]; simp; omega
  · omega
  · omega
/-- what was seen, behind one more record that was taken -/
theorem follow_any (S : Sg) (r : Rec) (hc : chkS S = true) (hv : V3 r) (h0 : refP S.x r.x = 0) (x : Nums) (nm : ByteArray) (d : Value) (hk : x.k = r.x.k) (hp : x.p = r.x.p) (g : Nat) (w : World) (L : LB w g 38 (trl S.x.cnt S.x.piv S.outs.length S.und.length)) :
    Calls Tryd.prog 11 #[.pointer (some ⟨g, 0, none⟩), rv x nm d] w fun e w' => FolPost g w (deedS S r).x.cnt (deedS S r).x.piv (deedS S r).outs.length (deedS S r).und.length e w' := by
  obtain ⟨_, e1, e2, _, _, h3, h6, ho⟩ := steps_deed S r hc hv h0
  have hb := cnt_of S hc
  rw [e1, e2]
  by_cases k3 : r.x.k = 3
  · obtain ⟨q1, q2, q3, q4, q5⟩ := h3 k3
    rw [q5, q4]
    rw [q1] at L ⊢
    exact follow_3 S.x.cnt S.x.piv S.outs.length g x nm d w L (hk.trans k3) (hp.trans q2) (by omega) q3 (by omega)
  · by_cases k6 : r.x.k = 6
    · obtain ⟨q1, q2, q3, q4, q5⟩ := h6 k6
      rw [q4, q5]
      have hn : S.outs.length ≤ 32 ∧ S.und.length ≤ 32 := lens_of S hc
      by_cases hz : S.x.piv = 0
      · rw [hz] at L ⊢
        exact follow_6z S.x.cnt S.outs.length S.und.length g x nm d w L (hk.trans k6) (hp.trans q1) (by rw [hp]; exact q2) (by omega) (by omega)
      · exact follow_6 S.x.cnt S.x.piv S.outs.length S.und.length g x nm d w L (hk.trans k6) (hp.trans q1) (by rw [hp]; exact q2) (by omega) (by omega) (by omega) hz
    · obtain ⟨q1, q2⟩ := ho k3 k6
      rw [q1, q2]
      exact follow_o S.x.cnt S.x.piv S.outs.length S.und.length g x nm d w L (by rw [hk]; exact k3) (by rw [hk]; exact k6)
end Go.Proofs.YtgjlkkikgkbamaaDoor

/-
  SagaWhole: what Begin and Apply answer; memory that stays.
-/
namespace Go.Proofs.YtgjlkkikgkbamaaDoor
open Go Go.RowKit
open Wb

theorem begin_good (r : Rec) (hok : ok r.l) (hf : r.x.fit) (h : (beginP r).1 = 0) : chkS (beginP r).2 = true ∧ (beginP r).2.outs = [] ∧ (beginP r).2.und = [] ∧ (beginP r).2.nm.size ≤ 20000 := by
  unfold beginP at h ⊢
  by_cases h1 : (upP 3 r).1 = 0
  · rw [if_neg (by simpa using h1)] at h ⊢
    by_cases h2 : (upP 3 r).2.x.k = 1
    · rw [if_neg (by simpa using h2)] at h ⊢
      obtain ⟨hv, _, _, hs⟩ := up3 r hok h1
      obtain ⟨v1, v2, v3, vk⟩ := hv
      have hs2 : (upP 3 r).2.x.s ≤ 9223372036854775807 := by
        rw [hs]
        exact (hf 2 (by omega) (by omega)).2
      have hsm : (upP 3 r).2.nm.size ≤ 20000 := by
        obtain ⟨q1, _, _, _, q3⟩ := up_zero h1
        rw [q3]
        exact (carL_small _ r (small_of r hf q1)).1
      refine ⟨?_, rfl, rfl, hsm⟩
      rw [chkS_iff]
      rcases vk with k | k | k | k | k
      · refine ⟨⟨lab_zero k.2.2.2.2.2.2.2.2.2.1, ⟨v1, hs2⟩, ⟨k.2.2.2.2.2.1, k.2.2.2.2.2.2.1⟩, ⟨k.2.2.2.2.2.2.2.1, k.2.2.2.2.2.2.2.2.1⟩, ⟨v2, v3⟩, ⟨v2, v3⟩, ?_⟩, .inl ?_⟩
        · have := k.2.2.2.2.2.2.2.2.2.2
          simp [shortP, this]
        · have h9 := k.2.2.2.2.2.1
          simp [Gd1]
          omega
      all_goals omega
    · rw [if_pos h2] at h; simp at h
  · rw [if_pos h1] at h; exact absurd h h1
/-- a record that Apply takes -/
theorem apply_good (S : Sg) (r : Rec) (hok : ok r.l) (hk : r.x.k ≠ 1) (h : (applyP S r).1 = 0) : ∃ u : Rec, V3 u ∧ refP S.x u.x = 0 ∧ (applyP S r).2 = deedS S u ∧ u.x.k = r.x.k ∧ u.x.p = r.x.p := by
  unfold applyP at h ⊢
  cases hc : chkS S with
  | false => rw [hc, if_pos rfl] at h; simp at h
  | true =>
    rw [hc, if_neg (by simp)] at h
    rw [if_neg (by simp)]
    by_cases h1 : (upP 3 r).1 = 0
    · rw [if_neg (by simpa using h1)] at h ⊢
      by_cases h2 : refP S.x (upP 3 r).2.x = 0
      · rw [if_neg (by simpa using h2)]
        obtain ⟨hv, _, hk2, _⟩ := up3 r hok h1
        refine ⟨(upP 3 r).2, hv, h2, rfl, hk2, ?_⟩
        obtain ⟨q1, _, _, q2, q3⟩ := up_zero h1
        rw [q3]
        have q4 := (chk_exp r.x r.nm r.l).1 q1
        obtain hv | hv | hv : r.x.v = 1 ∨ r.x.v = 2 ∨ r.x.v = 3 := by omega
        · rw [car13 r hv]
          simp [cTwo, cOne, hk]
          split
          · rfl
          · split <;> rfl
        · rw [car23 r hv]; rfl
        · rw [car33 r hv]
      · rw [if_pos h2] at h; exact absurd h h2
    · rw [if_pos h1] at h; exact absurd h h1
theorem lb_ne {w : World} {a b : Nat} {t t2 : TypeId} {C C2 : List Value} (h : LB w a t C) (h2 : LB w b t2 C2) (ht : t ≠ t2) : a ≠ b := by
  rintro rfl
  unfold LB at h h2
  rw [h] at h2
  simp at h2
  exact ht h2.2
theorem Oth.sets (w : World) (g o : Nat) (vs : List Value) : Oth g w (w.setCells g o vs) := fun b hb _ => cells_other g vs o w b hb
theorem LB.oth {w w' : World} {a g : Nat} {t : TypeId} {C : List Value} (h : LB w a t C) (ho : Oth g w w') (hne : a ≠ g) : LB w' a t C := (ho a hne h.lt).trans h
theorem own_oth {w w' : World} {B g : Nat} {t : TypeId} {C : List Value} {d : Value} {l : List Nat} (h : Own B w d l) (L : LB w g t C) (ht : t ≠ 5) (ho : Oth g w w') : Own B w' d l := own_keptB h fun b e => ho b (by
  rintro rfl
  rcases h.row.2 with ⟨e3, _⟩ | ⟨g', cap, cur, e3, _, hg', _⟩
  · rw [e3] at e; simp [Value.ownBlock] at e
  · rw [e3] at e; simp [Value.ownBlock] at e; subst e; rw [L] at hg'; simp at hg'; exact ht hg'.2) (own_block h b e).2
theorem ownp_oth {w w' : World} {B g : Nat} {t : TypeId} {C : List Value} {v : Value} {ls : List (List Nat)} (h : OwnP B w v ls) (L : LB w g t C) (ht : t ≠ 5) (ht2 : t ≠ 23) (ho : Oth g w w') : OwnP B w' v ls := by
  obtain ⟨vs, r1, r2, r3⟩ := h
  refine ⟨vs, row_kept2 r1 fun b e => ho b ?_ (row_block r1 b e).2, r2, fun j a b => own_oth (r3 j a b) L ht ho⟩
  rintro rfl
  obtain ⟨cs, z, h4⟩ := row_typed r1 b e
  rw [L] at h4
  simp at h4
  exact ht2 h4.2.1
theorem SgO.oth {w w' : World} {B g : Nat} {t : TypeId} {C : List Value} {S : Sg} {h : SH} (k : SgO B w S h) (L : LB w g t C) (ht : t ≠ 5) (ht2 : t ≠ 23) (ho : Oth g w w') : SgO B w' S h := ⟨own_oth k.inp L ht ho, ownp_oth k.outs L ht ht2 ho, ownp_oth k.und L ht ht2 ho, own_oth k.fail L ht ho⟩
def recA : Rec := ⟨⟨3, 2, 7, 0, 1, 6, 0, 0, 0, 0⟩, ⟨#[]⟩, []⟩
def recB : Rec := ⟨⟨3, 3, 7, 0, 0, 6, 0, 0, 0, 0⟩, ⟨#[]⟩, []⟩
theorem recA_v : V3 recA := by simp [V3, recA]
theorem recB_v : V3 recB := by simp [V3, recB]
def sgA : Sg := deedS sg1 recA
def sgB : Sg := deedS sgA recB
theorem refA : refP sg1.x recA.x = 0 := by decide
theorem refB : refP sgA.x recB.x = 0 := by decide
theorem sgA_good : chkS sgA = true := chkS_deed sg1 recA sg1_good.1 recA_v refA
theorem apply_A : applyP sg1 recA = (0, sgA) := apply_v3 sg1 recA sg1_good.1 recA_v rfl refA
theorem apply_B : applyP sgA recB = (0, sgB) := apply_v3 sgA recB sgA_good recB_v rfl refB
end Go.Proofs.YtgjlkkikgkbamaaDoor
