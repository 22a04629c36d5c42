import Derived.Test.YtdnackjakfiffaaGreatDoorQC1
import Derived.Test.YtdnackjakfiffaaGreatDoorQS9
import Derived.Test.YtdnackjakfiffaaGreatDoorQS1
import Derived.Test.YtdnackjakfiffaaGreatDoorQSM
import Derived.Test.YtdnackjakfiffaaGreatDoorQPC
/-
  Package saga: Story's teller: what it has told; begin.
-/
namespace Go.Proofs.YtdnackjakfiffaaGreatDoor
open Go Go.RowKit
open Wb

/-- what the teller has told -/
def TS (B t : Nat) (S : Sg) (h : SH) (rs : List Rec) (w : World) : Prop := ∃ v ps, LB w t 65 (scl S h ++ [v]) ∧ OutT B w v ps ∧ ps.map Prod.fst = rs
theorem TS.kept {B t : Nat} {S : Sg} {h : SH} {rs : List Rec} {w w' : World} (k : TS B t S h rs w) (hb : Below w.heap.size w w') : TS B t S h rs w' := by
  obtain ⟨v, ps, h1, h2, h3⟩ := k
  exact ⟨v, ps, h1.kept hb, h2.kept hb, h3⟩
theorem TS.lt {B t : Nat} {S : Sg} {h : SH} {rs : List Rec} {w : World} (k : TS B t S h rs w) : t < w.heap.size := by
  obtain ⟨v, ps, h1, h2, h3⟩ := k
  exact h1.lt
theorem TS.range {B t : Nat} {S : Sg} {h : SH} {rs : List Rec} {w : World} (k : TS B t S h rs w) : w.rangeAt t 0 (scl S h) := by
  obtain ⟨v, ps, h1, h2, h3⟩ := k
  intro j u hu
  have hj : j < (scl S h).length := (List.getElem?_eq_some_iff.1 hu).1
  exact h1.range j u (by rw [List.getElem?_append_left hj]; exact hu)
theorem TS.cell {B t : Nat} {S : Sg} {h : SH} {rs : List Rec} {w : World} (k : TS B t S h rs w) (j : Nat) (u : Value) (hu : (scl S h)[j]? = some u) : w.cell? ⟨t, j, none⟩ = some u := by
  have := k.range j u hu
  rwa [Nat.zero_add] at this
def TP (B t : Nat) (S : Sg) (h : SH) (rs : List Rec) (w : World) (e : Ending) (w' : World) : Prop := e = .returned (.tuple #[]) ∧ TS B t S h rs w' ∧ Below B w w' ∧ Fr t w w'
/-- a record is told -/
theorem tell_T (B t : Nat) (S : Sg) (h : SH) (rs : List Rec) (r : Rec) (d : Value) (w : World) (k : TS B t S h rs w) (hB : B ≤ t) (hd : Bs w d r.l) (hl : r.l.length ≤ 16384) (hn : rs.length ≤ 10000) :
    Calls Tryz.prog 34 #[.pointer (some ⟨t, 0, none⟩), rv r.x r.nm d] w fun e w' => TP B t S h (rs ++ [told S r]) w e w' := by
  obtain ⟨v, ps, h1, h2, rfl⟩ := k
  refine (tell_any B t S h v ps r d w h1 h2 hB hd hl (by simpa using hn)).mono ?_
  rintro e w' ⟨v', d', he, q1, q2, q3, q4⟩
  exact ⟨he, ⟨v', _, q1, q2, by simp⟩, q3, q4⟩
theorem box1 (w : World) (t : TypeId) (Z D : List Value) (hl : D.length = Z.length) : LB ((w.alloc (.cells Z.toArray t)).setCells w.heap.size 0 D) w.heap.size t D ∧ Below w.heap.size w ((w.alloc (.cells Z.toArray t)).setCells w.heap.size 0 D) := ⟨(lb_new w Z t).sets D hl, below_cells (Nat.le_refl _) _ 0 _ (up0 _ _)⟩
set_option maxRecDepth 100000 in
set_option maxHeartbeats 4000000 in
/-- the first record -/
theorem tbegin_any (B t : Nat) (S : Sg) (h : SH) (w : World) (k : TS B t S h [] w) (hB : B ≤ t) (hd : Bs w (.slice h.ai S.inp.length h.ci) S.inp) (hl : S.inp.length ≤ 16384) :
    Calls Tryz.prog 33 #[.pointer (some ⟨t, 0, none⟩)] w fun e w' => TP B t S h [stB S] w e w' := by
  have HTE : Hid (∀ w', TS B t S h [] w' → Bs w' (.slice h.ai S.inp.length h.ci) S.inp → Calls Tryz.prog 34 #[.pointer (some ⟨t, 0, none⟩), .agg #[.int .i64 0, .int .i64 1, .int .i64 0, .int .i64 0, .int .i64 0, .int .i64 0, .int .i64 0, .int .i64 0, .int .i64 S.x.cnt, .int .i64 S.x.piv, .string S.nm, .slice h.ai S.inp.length h.ci]] w' fun e w'' => ∃ v' d', e = .returned (.tuple #[]) ∧ LB w'' t 65 (scl S h ++ [v']) ∧ OutT B w'' v' [(⟨⟨3, 1, S.x.id, 0, 0, S.x.la, 0, 0, S.x.cnt, S.x.piv⟩, S.nm, S.inp⟩, d')] ∧ Below B w' w'' ∧ Fr t w' w'') := fun w' k' hb => by
    obtain ⟨v, ps, h1, h2, h3⟩ := k'
    obtain rfl : ps = [] := by simpa using h3
    exact tell_any B t S h v [] ⟨⟨0, 1, 0, 0, 0, 0, 0, 0, S.x.cnt, S.x.piv⟩, S.nm, S.inp⟩ _ w' h1 h2 hB hb hl (by simp)
  obtain ⟨Z, hZ⟩ : ∃ Z, Z = zcl := ⟨_, rfl⟩
  have HZ : Hid (Z = zcl) := hZ
  obtain ⟨D, hD, hL, hE⟩ := sv_letter S h
  have HL : Hid _ := hL
  have HE : Hid (D = scl S h) := hE
  have HR : Hid (w.rangeAt t 0 D) := by show w.rangeAt t 0 D; rw [hE]; exact k.range
  have H1 : Hid (∀ v ∈ D, v.oneCell' = true) := by show ∀ v ∈ D, _; rw [hE]; exact scl_one _ _
  have HDZ : Hid (D.length = Z.length) := by show _ = _; rw [hE, hZ]; rfl
  have HT1 : Hid ((w.alloc (.cells Z.toArray 43)).there w.heap.size 0 D.toArray.size) := there_of (lb_new w Z _) (by simpa using HDZ.out)
  have H2 : Hid (∃ W2, W2 = (w.alloc (.cells Z.toArray 43)).setCells w.heap.size 0 D ∧ LB W2 w.heap.size 43 D ∧ TS B t S h [] W2 ∧ Bs W2 (.slice h.ai S.inp.length h.ci) S.inp ∧ Below w.heap.size w W2) := by
    obtain ⟨q1, q2⟩ := box1 w 43 Z D HDZ.out
    exact ⟨_, rfl, q1, k.kept q2, hd.kept q2, q2⟩
  have hlt : t < w.heap.size := k.lt
  have hne : w.heap.size ≠ t := by omega
  have HLT : Hid (t < w.heap.size) := hlt
  clear k hd hD hL hE hZ
  go_enter Tryz.func33, Tryz.ntmps33
  go_wp2_with (first | (refine wpList_load_mid rfl 43 _ rfl t 0 rfl D _ HR.out Tryz.underlying43 rfl HL.out ?_) | (refine wpList_alloc_Z HZ.out rfl rfl ?_) | (refine wpList_store_mid rfl 43 (.tmp 2) (.tmp 6) rfl w.heap.size 0 D.toArray rfl rfl HT1.out (by simpa using HL.out) (all_oneCell_toArray H1.out) ?_; (obtain ⟨W2, hW2, hq⟩ := H2.out); (have H3 : Hid _ := hq); (rw [List.toList_toArray, ← hW2]); (clear hW2 hq H2 HT1); (have c1 := H3.out.1.cell 1 (.string S.nm) (by rw [HE.out]; rfl)); (have c2 := H3.out.1.cell 2 (.int .i64 S.x.cnt) (by rw [HE.out]; rfl)); (have c3 := H3.out.1.cell 3 (.int .i64 S.x.piv) (by rw [HE.out]; rfl)); (have c6 := H3.out.1.cell 6 (.slice h.ai S.inp.length h.ci) (by rw [HE.out]; rfl))) | fail)
  refine (HTE.out _ H3.out.2.1 H3.out.2.2.1).mono ?_
  rintro e w1 ⟨v1, d1, rfl, l1, o1, b1, f1⟩
  obtain ⟨g, cap, rfl⟩ : ∃ g cap, v1 = .slice (some ⟨g, 0, none⟩) 1 cap := by
    rcases o1.1.2 with ⟨_, e⟩ | ⟨g, cap, _, e, _⟩
    · simp at e
    · exact ⟨g, cap, e⟩
  have hbl : Below B w w1 := (H3.out.2.2.2.mono (by omega)).trans b1
  have hfr : Fr t w w1 := (Fr.below H3.out.2.2.2).trans f1
  have HB4 : Hid (LB w1 w.heap.size 43 D) := f1 _ _ _ hne (by decide) H3.out.1
  have hgB : B ≤ g := (World.ownsRow.lt o1.1 g rfl).1
  have hgt : g ≠ t := fun e => by obtain ⟨cs, z, h9⟩ := rrow_typed o1.1 g rfl; rw [e, l1] at h9; simp at h9
  obtain ⟨hst, hgr⟩ := o1.1.stored 5 (.int .i64 S.x.beg)
  have HFIN : Hid (TP B t S h [stB S] w (.returned (.tuple #[])) (w1.setCell ⟨g, 5, none⟩ (.int .i64 S.x.beg)).drew) := by
    refine ⟨rfl, ⟨.slice (some ⟨g, 0, none⟩) 1 cap, [(stB S, d1)], ?_, ⟨?_, ?_⟩, rfl⟩, ?_, ?_⟩
    · exact (l1.other _ _ (Ne.symm hgt)).kept (Below.drew (Below.refl _ _))
    · exact World.ownsRow.drew hst
    · intro p hp
      obtain rfl := List.mem_singleton.1 hp
      have h1 := o1.2 _ (List.mem_singleton.2 rfl)
      refine (own_keptB h1 fun b e => set_other _ _ _ _ ?_).kept (Below.drew (Below.refl _ _))
      rintro rfl
      obtain ⟨cs, z, h8⟩ := own_typed h1 b e
      obtain ⟨cs', z', h9⟩ := rrow_typed o1.1 b rfl
      rw [h8] at h9
      simp at h9
    · exact Below.drew (Below.setCell hbl hgB _)
    · intro b ty C hbt hty hL
      have h1 := hfr b ty C hbt hty hL
      refine (h1.other _ _ ?_).kept (Below.drew (Below.refl _ _))
      rintro rfl
      obtain ⟨cs, z, h9⟩ := rrow_typed o1.1 b rfl
      rw [h1] at h9
      simp at h9
      exact hty h9.2.1
  have c16 := l1.cell 16 (.slice (some ⟨g, 0, none⟩) 1 cap) rfl
  have c4 := HB4.out.cell 4 (.int .i64 S.x.beg) (by rw [HE.out]; rfl)
  have g5 := o1.1.cellAt 5 (by decide)
  rw [show ([((⟨⟨3, 1, S.x.id, 0, 0, S.x.la, 0, 0, S.x.cnt, S.x.piv⟩, S.nm, S.inp⟩ : Rec), d1)].flatMap rcl)[5]? = some (.int .i64 S.x.la) from rfl] at g5
  have fg := o1.1.frozenAt 5
  clear c1 c2 c3 c6 H3 HTE hbl hfr hst hgr l1 o1 b1 f1
  go_wp2
  go_region
  go_wp2
  go_end0
  exact HFIN.out
end Go.Proofs.YtdnackjakfiffaaGreatDoor

/-
  Package saga: Story's teller: failure.
-/
namespace Go.Proofs.YtdnackjakfiffaaGreatDoor
open Go Go.RowKit
open Wb


set_option maxRecDepth 100000 in
set_option maxHeartbeats 4000000 in
theorem tfail_any (B t : Nat) (S : Sg) (h : SH) (rs : List Rec) (w : World) (k : TS B t S h rs w) (hB : B ≤ t) (w0 : World) (hB0 : B = w0.heap.size) (hA : SgAt w0 S h) (hb0 : Below B w0 w) (hf : S.fail.length ≤ 16384) (hu : shortP S.und = true) (hul : S.und.length ≤ 32) (hfs : 0 ≤ S.x.fs ∧ S.x.fs ≤ 32) (hfw : S.x.fwd = false) (hn : rs.length ≤ 5000) :
    Calls Tryz.prog 35 #[.pointer (some ⟨t, 0, none⟩)] w fun e w' => TP B t S h (rs ++ failL S) w e w' := by
  have HT1 : Hid (∀ (rs' : List Rec) (w' : World), TS B t S h rs' w' → rs'.length ≤ 10000 → Calls Tryz.prog 34 #[.pointer (some ⟨t, 0, none⟩), .agg #[.int .i64 0, .int .i64 2, .int .i64 0, .int .i64 S.x.fs, .int .i64 1, .int .i64 0, .int .i64 0, .int .i64 0, .int .i64 0, .int .i64 0, .string ⟨#[]⟩, .slice none 0 0]] w' fun e w'' => TP B t S h (rs' ++ [stR S 2 S.x.fs 1 0 0 []]) w' e w'') := fun rs' w' k' hn' => tell_T B t S h rs' ⟨⟨0, 2, 0, S.x.fs, 1, 0, 0, 0, 0, 0⟩, ⟨#[]⟩, []⟩ _ w' k' hB (Bs.nil _) (by simp) hn'
  have HT2 : Hid (∀ (rs' : List Rec) (w' : World), TS B t S h rs' w' → rs'.length ≤ 10000 → Bs w' (.slice h.af S.fail.length h.cf) S.fail → S.fail.length ≤ 16384 → Calls Tryz.prog 34 #[.pointer (some ⟨t, 0, none⟩), .agg #[.int .i64 0, .int .i64 4, .int .i64 0, .int .i64 S.x.fs, .int .i64 0, .int .i64 0, .int .i64 1, .int .i64 S.x.fc, .int .i64 0, .int .i64 0, .string ⟨#[]⟩, .slice h.af S.fail.length h.cf]] w' fun e w'' => TP B t S h (rs' ++ [stR S 4 S.x.fs 0 1 S.x.fc S.fail]) w' e w'') := fun rs' w' k' hn' hb hl => tell_T B t S h rs' ⟨⟨0, 4, 0, S.x.fs, 0, 0, 1, S.x.fc, 0, 0⟩, ⟨#[]⟩, S.fail⟩ _ w' k' hB hb hl hn'
  have HT3 : Hid (∀ (p : Int) (rs' : List Rec) (w' : World), TS B t S h rs' w' → rs'.length ≤ 10000 → Calls Tryz.prog 34 #[.pointer (some ⟨t, 0, none⟩), .agg #[.int .i64 0, .int .i64 5, .int .i64 0, .int .i64 p, .int .i64 1, .int .i64 0, .int .i64 0, .int .i64 0, .int .i64 0, .int .i64 0, .string ⟨#[]⟩, .slice none 0 0]] w' fun e w'' => TP B t S h (rs' ++ [stR S 5 p 1 0 0 []]) w' e w'') := fun p rs' w' k' hn' => tell_T B t S h rs' ⟨⟨0, 5, 0, p, 1, 0, 0, 0, 0, 0⟩, ⟨#[]⟩, []⟩ _ w' k' hB (Bs.nil _) (by simp) hn'
  have HT4 : Hid (∀ (p : Int) (d : Value) (o : List Nat) (rs' : List Rec) (w' : World), TS B t S h rs' w' → rs'.length ≤ 10000 → Bs w' (d) o → o.length ≤ 16384 → Calls Tryz.prog 34 #[.pointer (some ⟨t, 0, none⟩), .agg #[.int .i64 0, .int .i64 6, .int .i64 0, .int .i64 p, .int .i64 0, .int .i64 0, .int .i64 0, .int .i64 0, .int .i64 0, .int .i64 0, .string ⟨#[]⟩, d]] w' fun e w'' => TP B t S h (rs' ++ [stR S 6 p 0 0 0 o]) w' e w'') := fun p d o rs' w' k' hn' hb hl => tell_T B t S h rs' ⟨⟨0, 6, 0, p, 0, 0, 0, 0, 0, 0⟩, ⟨#[]⟩, o⟩ _ w' k' hB hb hl hn'
  have HK : Hid (∀ w', Below B w w' → Below w0.heap.size w0 w') := fun w' hb => by rw [← hB0]; exact hb0.trans hb
  have HU : Hid (∀ j (hj : j < S.und.length), ∃ b off d, h.au = some ⟨b, off, none⟩ ∧ (∀ w', Below B w w' → w'.cell? ⟨b, off + j, none⟩ = some d ∧ Bs w' d S.und[j]) ∧ S.und[j].length ≤ 16384) := fun j hj => by
    obtain ⟨a1, p1, e1, _, h1⟩ := hA.und.shape
    simp only [Value.slice.injEq] at e1
    obtain ⟨rfl, _, rfl⟩ := e1
    obtain ⟨b, off, r1, r2⟩ := h1 (by intro e; rw [e] at hj; simp at hj)
    obtain ⟨d, q1, q2⟩ := r2 j hj
    exact ⟨b, off, d, r1, fun w' hb => ⟨((HK.out w' hb).cell (World.block_lt_of_cell? _ _ q1)).trans q1, q2.kept (HK.out w' hb)⟩, by simpa using List.all_eq_true.1 hu _ (List.getElem_mem hj)⟩
  have HF : Hid (∀ w', Below B w w' → Bs w' (.slice h.af S.fail.length h.cf) S.fail) := fun w' hb => hA.fail.kept (HK.out w' hb)
  have HFL : Hid (failL S = stR S 2 S.x.fs 1 0 0 [] :: stR S 4 S.x.fs 0 1 S.x.fc S.fail :: undL S (S.x.fs - 1) S.und) := by show _ = _; unfold failL; rw [if_neg (by simp [hfw])]
  obtain ⟨Z, hZ⟩ : ∃ Z, Z = zcl := ⟨_, rfl⟩
  have HZ : Hid (Z = zcl) := hZ
  obtain ⟨D, hD, hL, hE⟩ := sv_letter S h
  have HL : Hid _ := hL
  have HE : Hid (D = scl S h) := hE
  have HR : Hid (w.rangeAt t 0 D) := by show w.rangeAt t 0 D; rw [hE]; exact k.range
  have H1 : Hid (∀ v ∈ D, v.oneCell' = true) := by show ∀ v ∈ D, _; rw [hE]; exact scl_one _ _
  have HDZ : Hid (D.length = Z.length) := by show _ = _; rw [hE, hZ]; rfl
  have HT : Hid ((w.alloc (.cells Z.toArray 43)).there w.heap.size 0 D.toArray.size) := there_of (lb_new w Z _) (by simpa using HDZ.out)
  have hlt : t < w.heap.size := k.lt
  have HNE : Hid (w.heap.size ≠ t ∧ B ≤ w.heap.size) := ⟨by omega, by omega⟩
  have H2 : Hid (∃ W2, W2 = (w.alloc (.cells Z.toArray 43)).setCells w.heap.size 0 D ∧ LB W2 w.heap.size 43 D ∧ TS B t S h rs W2 ∧ Below B w W2 ∧ Fr t w W2) := by
    obtain ⟨q1, q2⟩ := box1 w 43 Z D HDZ.out
    exact ⟨_, rfl, q1, k.kept q2, q2.mono HNE.out.2, Fr.below q2⟩
  clear k hA hb0 hB0 hu hfw hD hL hE hZ HK
  go_enter Tryz.func35, Tryz.ntmps35
  go_wp2_with (first | (refine wpList_load_mid rfl 43 _ rfl t 0 rfl D _ HR.out Tryz.underlying43 rfl HL.out ?_) | (refine wpList_alloc_Z HZ.out rfl rfl ?_) | (refine wpList_store_mid rfl 43 (.tmp 2) (.tmp 9) rfl w.heap.size 0 D.toArray rfl rfl HT.out (by simpa using HL.out) (all_oneCell_toArray H1.out) ?_; (obtain ⟨W2, hW2, hq⟩ := H2.out); (have H3 : Hid _ := hq); (rw [List.toList_toArray, ← hW2]); (clear hW2 hq H2 HT HR); (have c13 := H3.out.1.cell 13 (.int .i64 S.x.fs) (by rw [HE.out]; rfl))) | fail)
  refine (HT1.out _ _ H3.out.2.1 (by omega)).mono ?_
  rintro e w1 ⟨rfl, k1, b1, f1⟩
  have H4 : Hid (LB w1 w.heap.size 43 D ∧ TS B t S h (rs ++ [stR S 2 S.x.fs 1 0 0 []]) w1 ∧ Below B w w1 ∧ Fr t w w1) := ⟨f1 _ _ _ HNE.out.1 (by decide) H3.out.1, k1, H3.out.2.2.1.trans b1, H3.out.2.2.2.trans f1⟩
  clear k1 b1 f1 H3 HT1 c13
  have c13 := H4.out.1.cell 13 (.int .i64 S.x.fs) (by rw [HE.out]; rfl)
  have c14 := H4.out.1.cell 14 (.int .i64 S.x.fc) (by rw [HE.out]; rfl)
  have c15 := H4.out.1.cell 15 (.slice h.af S.fail.length h.cf) (by rw [HE.out]; rfl)
  go_wp2_with fail
  refine (HT2.out _ _ H4.out.2.1 (by simp; omega) (HF.out _ H4.out.2.2.1) (by assumption)).mono ?_
  rintro e w2 ⟨rfl, k2, b2, f2⟩
  have H5 : Hid (LB w2 w.heap.size 43 D ∧ TS B t S h (rs ++ [stR S 2 S.x.fs 1 0 0 []] ++ [stR S 4 S.x.fs 0 1 S.x.fc S.fail]) w2 ∧ Below B w w2 ∧ Fr t w w2) := ⟨f2 _ _ _ HNE.out.1 (by decide) H4.out.1, k2, H4.out.2.2.1.trans b2, H4.out.2.2.2.trans f2⟩
  clear k2 b2 f2 H4 HT2 HF c13 c14 c15
  have c12 := H5.out.1.cell 12 (.slice h.au S.und.length h.cu) (by rw [HE.out]; rfl)
  go_wp2
  clear c12
  go_loopw [27] (fun i wr => ∃ (n : Nat) (cur : List Rec), i = .int .i64 (n : Int) ∧ n ≤ S.und.length ∧ TS B t S h cur wr ∧ cur ++ undL S (S.x.fs - 1 - (n : Int)) (S.und.drop n) = rs ++ failL S ∧ cur.length ≤ rs.length + 2 + 2 * n ∧ LB wr w.heap.size 43 D ∧ Below B w wr ∧ Fr t w wr) (fun i _ => S.und.length - (intOf i).toNat)
  case atStart => exact ⟨0, _, rfl, Nat.zero_le _, H5.out.2.1, by rw [HFL.out]; simp, by simp, H5.out.1, H5.out.2.2.1, H5.out.2.2.2⟩
  case round =>
    obtain ⟨n, cur, rfl, hn2, kc, he, hcl, lb, bl, fr⟩ := hrel
    have HR : Hid (TS B t S h cur wr ∧ LB wr w.heap.size 43 D ∧ Below B w wr ∧ Fr t w wr) := ⟨kc, lb, bl, fr⟩
    have HEQ : Hid (cur ++ undL S (S.x.fs - 1 - (n : Int)) (S.und.drop n) = rs ++ failL S) := he
    clear kc lb bl fr he H5
    by_cases hlt2 : n < S.und.length
    · obtain ⟨b, off, d, hau, qw, q3⟩ := HU.out n hlt2
      obtain ⟨o, hoo⟩ : ∃ o, S.und[n] = o := ⟨_, rfl⟩
      have HDR : Hid (S.und.drop n = o :: S.und.drop (n + 1)) := by show _ = _; rw [List.drop_eq_getElem_cons hlt2, hoo]
      rw [hoo] at qw q3
      obtain ⟨q1, q2⟩ := qw _ HR.out.2.2.1
      have HQ : Hid (o.length ≤ 16384) := q3
      have c13 := HR.out.2.1.cell 13 (.int .i64 S.x.fs) (by rw [HE.out]; rfl)
      have i1 : IntKind.i64.wrap (S.x.fs - 1) = S.x.fs - 1 := IntWalk.i64_in _ (by omega)
      have i2 : IntKind.i64.wrap (S.x.fs - 1 - (n : Int)) = S.x.fs - 1 - (n : Int) := IntWalk.i64_in _ (by omega)
      obtain ⟨ad, cd, rfl, _⟩ := q2.shape
      have HQW : Hid _ := qw
      clear q2 q3 hoo qw
      rw [hau]
      go_wp2_with fail
      refine (HT3.out _ _ _ HR.out.1 (by omega)).mono ?_
      rintro e w3 ⟨rfl, k3, b3, f3⟩
      have H6 : Hid (LB w3 w.heap.size 43 D ∧ TS B t S h (cur ++ [stR S 5 (S.x.fs - 1 - (n : Int)) 1 0 0 []]) w3 ∧ Below B w w3 ∧ Fr t w w3) := ⟨f3 _ _ _ HNE.out.1 (by decide) HR.out.2.1, k3, HR.out.2.2.1.trans b3, HR.out.2.2.2.trans f3⟩
      have H7 : Hid (Bs w3 (.slice ad o.length cd) o ∧ o.length ≤ 16384) := ⟨(HQW.out _ H6.out.2.2.1).2, HQ.out⟩
      clear k3 b3 f3 c13 q1
      go_wp2_with fail
      refine (HT4.out _ _ o _ _ H6.out.2.1 (by simp; omega) H7.out.1 H7.out.2).mono ?_
      rintro e w4 ⟨rfl, k4, b4, f4⟩
      have H8 : Hid (LB w4 w.heap.size 43 D ∧ TS B t S h (cur ++ [stR S 5 (S.x.fs - 1 - (n : Int)) 1 0 0 []] ++ [stR S 6 (S.x.fs - 1 - (n : Int)) 0 0 0 o]) w4 ∧ Below B w w4 ∧ Fr t w w4) := ⟨f4 _ _ _ HNE.out.1 (by decide) H6.out.1, k4, H6.out.2.2.1.trans b4, H6.out.2.2.2.trans f4⟩
      clear k4 b4 f4 H6 H7
      go_wp2
      go_roundw
      case rel => exact ⟨n + 1, _, by go_num, by omega, H8.out.2.1, by rw [← HEQ.out, HDR.out]; simp [undL]; congr 1; omega, by simp; omega, H8.out.1, H8.out.2.2.1, H8.out.2.2.2⟩
      case measure => simp [intOf]; omega
    · obtain rfl : n = S.und.length := by omega
      have hfin : cur = rs ++ failL S := by
        have := HEQ.out
        rw [List.drop_length] at this
        simpa [undL] using this
      go_wp2
      go_end0
      exact ⟨rfl, by rw [← hfin]; exact HR.out.1, HR.out.2.2.1, HR.out.2.2.2⟩
end Go.Proofs.YtdnackjakfiffaaGreatDoor

/-
  Package saga: Story's teller: tries.
-/
namespace Go.Proofs.YtdnackjakfiffaaGreatDoor
open Go Go.RowKit
open Wb


theorem trl_step (S : Sg) (kk p : Int) (m n : Nat) : trL S kk p m (n + 1) = stR S kk p ((m : Int) + 1) 0 0 [] :: ((if n ≠ 0 ∨ S.x.fl = false then [stR S 4 p 0 0 0 []] else []) ++ trL S kk p (m + 1) n) := rfl
set_option maxRecDepth 100000 in
set_option maxHeartbeats 4000000 in
theorem tries_f (B t : Nat) (S : Sg) (h : SH) (rs : List Rec) (w : World) (k : TS B t S h rs w) (hB : B ≤ t) (hnx : 0 ≤ S.x.nx ∧ S.x.nx ≤ 32) (htr : 0 ≤ S.x.tr ∧ S.x.tr ≤ 1000) (hfw : S.x.fwd = true) (hn : rs.length ≤ 5000) :
    Calls Tryz.prog 36 #[.pointer (some ⟨t, 0, none⟩)] w fun e w' => TP B t S h (rs ++ trL S 2 S.x.turn 0 S.x.tr.toNat) w e w' := by
  obtain ⟨p, hp⟩ : ∃ p, S.x.turn = p := ⟨_, rfl⟩
  have HT1 : Hid (∀ (m : Int) (rs' : List Rec) (w' : World), TS B t S h rs' w' → rs'.length ≤ 10000 → Calls Tryz.prog 34 #[.pointer (some ⟨t, 0, none⟩), .agg #[.int .i64 0, .int .i64 2, .int .i64 0, .int .i64 p, .int .i64 m, .int .i64 0, .int .i64 0, .int .i64 0, .int .i64 0, .int .i64 0, .string ⟨#[]⟩, .slice none 0 0]] w' fun e w'' => TP B t S h (rs' ++ [stR S 2 p m 0 0 []]) w' e w'') := fun m rs' w' k' hn' => tell_T B t S h rs' ⟨⟨0, 2, 0, p, m, 0, 0, 0, 0, 0⟩, ⟨#[]⟩, []⟩ _ w' k' hB (Bs.nil _) (by simp) hn'
  have HT2 : Hid (∀ (rs' : List Rec) (w' : World), TS B t S h rs' w' → rs'.length ≤ 10000 → Calls Tryz.prog 34 #[.pointer (some ⟨t, 0, none⟩), .agg #[.int .i64 0, .int .i64 4, .int .i64 0, .int .i64 p, .int .i64 0, .int .i64 0, .int .i64 0, .int .i64 0, .int .i64 0, .int .i64 0, .string ⟨#[]⟩, .slice none 0 0]] w' fun e w'' => TP B t S h (rs' ++ [stR S 4 p 0 0 0 []]) w' e w'') := fun rs' w' k' hn' => tell_T B t S h rs' ⟨⟨0, 4, 0, p, 0, 0, 0, 0, 0, 0⟩, ⟨#[]⟩, []⟩ _ w' k' hB (Bs.nil _) (by simp) hn'
  have HTU0 : ∀ w', Calls Tryz.prog 57 #[sv S h] w' fun e w'' => e = .returned (.int .i64 p) ∧ Below w'.heap.size w' w'' := fun w' => by rw [← hp]; exact turn_any S h w' hnx
  have HFW0 : ∀ w', Calls Tryz.prog 30 #[sv S h] w' fun e w'' => e = .returned (.bool true) ∧ Below w'.heap.size w' w'' := fun w' => by rw [← hfw]; exact fwd_any S h w'
  obtain ⟨D, hD, hL, hE⟩ := sv_letter S h
  rw [hD] at HTU0 HFW0
  have HTU : Hid _ := HTU0
  have HFW : Hid _ := HFW0
  have HL : Hid _ := hL
  have HE : Hid (D = scl S h) := hE
  have HR : Hid (∀ rs' w', TS B t S h rs' w' → w'.rangeAt t 0 D) := fun rs' w' k' => by show w'.rangeAt t 0 D; rw [hE]; exact k'.range
  have H0 : Hid (TS B t S h rs w ∧ B ≤ w.heap.size) := ⟨k, by have := k.lt; omega⟩
  have HRw : Hid (w.rangeAt t 0 D) := HR.out _ _ k
  have hT : (S.x.tr.toNat : Int) = S.x.tr := by omega
  rw [hp]
  clear k hD hL hE hp hnx hfw HTU0 HFW0
  go_enter Tryz.func36, Tryz.ntmps36
  go_wp2_with (first | (refine wpList_load_mid rfl 43 _ rfl t 0 rfl D _ HRw.out Tryz.underlying43 rfl HL.out ?_) | fail)
  refine (HTU.out _).mono ?_
  rintro e w1 ⟨rfl, b1⟩
  have H1 : Hid (TS B t S h rs w1 ∧ Below w.heap.size w w1) := ⟨H0.out.1.kept b1, b1⟩
  have HR1 : Hid (w1.rangeAt t 0 D) := HR.out _ _ H1.out.1
  clear b1 HRw
  go_wp2_with (first | (refine wpList_load_mid rfl 43 _ rfl t 0 rfl D _ HR1.out Tryz.underlying43 rfl HL.out ?_) | fail)
  refine (HFW.out _).mono ?_
  rintro e w2 ⟨rfl, b2⟩
  have H2 : Hid (TS B t S h rs w2 ∧ Below w.heap.size w w2) := ⟨H1.out.1.kept b2, andThen H1.out.2 b2⟩
  clear b2 HR1 H1 HTU HFW
  go_wp2
  go_loopw [4] (fun i wr => ∃ (m : Nat) (cur : List Rec), i = .int .i64 ((m : Int) + 1) ∧ m ≤ S.x.tr.toNat ∧ TS B t S h cur wr ∧ cur ++ trL S 2 p m (S.x.tr.toNat - m) = rs ++ trL S 2 p 0 S.x.tr.toNat ∧ cur.length ≤ rs.length + 2 * m ∧ Below B w wr ∧ Fr t w wr) (fun i _ => S.x.tr.toNat + 1 - (intOf i).toNat)
  case atStart => exact ⟨0, rs, rfl, Nat.zero_le _, H2.out.1, by simp, by simp, H2.out.2.mono H0.out.2, Fr.below H2.out.2⟩
  case round =>
    obtain ⟨m, cur, rfl, hm, kc, he, hcl, bl, fr⟩ := hrel
    have HC : Hid (TS B t S h cur wr ∧ Below B w wr ∧ Fr t w wr) := ⟨kc, bl, fr⟩
    have HEQ : Hid (cur ++ trL S 2 p m (S.x.tr.toNat - m) = rs ++ trL S 2 p 0 S.x.tr.toNat) := he
    clear kc bl fr he H2
    have c10 := HC.out.1.cell 10 (.int .i64 S.x.tr) rfl
    by_cases hlt : m < S.x.tr.toNat
    · obtain ⟨n, hnn⟩ : ∃ n, S.x.tr.toNat - m = n + 1 := ⟨S.x.tr.toNat - m - 1, by omega⟩
      have hn2 : S.x.tr.toNat - (m + 1) = n := by omega
      rw [hnn, trl_step] at HEQ
      have d1 : decide ((m : Int) + 1 ≤ S.x.tr) = true := by simp; omega
      go_wp2_with fail
      refine (HT1.out _ _ _ HC.out.1 (by omega)).mono ?_
      rintro e w3 ⟨rfl, k3, b3, f3⟩
      have H3 : Hid (TS B t S h (cur ++ [stR S 2 p ((m : Int) + 1) 0 0 []]) w3 ∧ Below B w w3 ∧ Fr t w w3) := ⟨k3, HC.out.2.1.trans b3, HC.out.2.2.trans f3⟩
      clear k3 b3 f3 HC c10 d1
      have c10 := H3.out.1.cell 10 (.int .i64 S.x.tr) rfl
      by_cases hn0 : n = 0
      · have d2 : decide ((m : Int) + 1 < S.x.tr) = false := by simp; omega
        cases hfl : S.x.fl with
        | true =>
          have c9 := H3.out.1.cell 9 (.bool true) (by rw [← hfl]; rfl)
          rw [if_neg (by simp [hn0, hfl])] at HEQ
          go_wp2
          go_roundw
          case rel => exact ⟨m + 1, _, by go_num, by omega, H3.out.1, by rw [hn2, ← HEQ.out]; simp, by simp; omega, H3.out.2.1, H3.out.2.2⟩
          case measure => simp [intOf]; omega
        | false =>
          have c9 := H3.out.1.cell 9 (.bool false) (by rw [← hfl]; rfl)
          rw [if_pos (.inr hfl)] at HEQ
          go_wp2_with fail
          refine (HT2.out _ _ H3.out.1 (by simp; omega)).mono ?_
          rintro e w4 ⟨rfl, k4, b4, f4⟩
          have H4 : Hid (TS B t S h (cur ++ [stR S 2 p ((m : Int) + 1) 0 0 []] ++ [stR S 4 p 0 0 0 []]) w4 ∧ Below B w w4 ∧ Fr t w w4) := ⟨k4, H3.out.2.1.trans b4, H3.out.2.2.trans f4⟩
          clear k4 b4 f4 H3 c10 c9
          go_wp2
          go_roundw
          case rel => exact ⟨m + 1, _, by go_num, by omega, H4.out.1, by rw [hn2, ← HEQ.out]; simp, by simp; omega, H4.out.2.1, H4.out.2.2⟩
          case measure => simp [intOf]; omega
      · have d2 : decide ((m : Int) + 1 < S.x.tr) = true := by simp; omega
        rw [if_pos (.inl hn0)] at HEQ
        go_wp2_with fail
        refine (HT2.out _ _ H3.out.1 (by simp; omega)).mono ?_
        rintro e w4 ⟨rfl, k4, b4, f4⟩
        have H4 : Hid (TS B t S h (cur ++ [stR S 2 p ((m : Int) + 1) 0 0 []] ++ [stR S 4 p 0 0 0 []]) w4 ∧ Below B w w4 ∧ Fr t w w4) := ⟨k4, H3.out.2.1.trans b4, H3.out.2.2.trans f4⟩
        clear k4 b4 f4 H3 c10
        go_wp2
        go_roundw
        case rel => exact ⟨m + 1, _, by go_num, by omega, H4.out.1, by rw [hn2, ← HEQ.out]; simp, by simp; omega, H4.out.2.1, H4.out.2.2⟩
        case measure => simp [intOf]; omega
    · obtain rfl : m = S.x.tr.toNat := by omega
      have d1 : decide (((S.x.tr.toNat : Nat) : Int) + 1 ≤ S.x.tr) = false := by simp; omega
      have hfin : cur = rs ++ trL S 2 p 0 S.x.tr.toNat := by
        have := HEQ.out
        rw [Nat.sub_self] at this
        simpa [trL] using this
      go_wp2
      go_end0
      exact ⟨rfl, by rw [← hfin]; exact HC.out.1, HC.out.2.1, HC.out.2.2⟩
set_option maxRecDepth 100000 in
set_option maxHeartbeats 4000000 in
theorem tries_b (B t : Nat) (S : Sg) (h : SH) (rs : List Rec) (w : World) (k : TS B t S h rs w) (hB : B ≤ t) (hnx : 0 ≤ S.x.nx ∧ S.x.nx ≤ 32) (htr : 0 ≤ S.x.tr ∧ S.x.tr ≤ 1000) (hfw : S.x.fwd = false) (hn : rs.length ≤ 5000) :
    Calls Tryz.prog 36 #[.pointer (some ⟨t, 0, none⟩)] w fun e w' => TP B t S h (rs ++ trL S 5 S.x.turn 0 S.x.tr.toNat) w e w' := by
  obtain ⟨p, hp⟩ : ∃ p, S.x.turn = p := ⟨_, rfl⟩
  have HT1 : Hid (∀ (m : Int) (rs' : List Rec) (w' : World), TS B t S h rs' w' → rs'.length ≤ 10000 → Calls Tryz.prog 34 #[.pointer (some ⟨t, 0, none⟩), .agg #[.int .i64 0, .int .i64 5, .int .i64 0, .int .i64 p, .int .i64 m, .int .i64 0, .int .i64 0, .int .i64 0, .int .i64 0, .int .i64 0, .string ⟨#[]⟩, .slice none 0 0]] w' fun e w'' => TP B t S h (rs' ++ [stR S 5 p m 0 0 []]) w' e w'') := fun m rs' w' k' hn' => tell_T B t S h rs' ⟨⟨0, 5, 0, p, m, 0, 0, 0, 0, 0⟩, ⟨#[]⟩, []⟩ _ w' k' hB (Bs.nil _) (by simp) hn'
  have HT2 : Hid (∀ (rs' : List Rec) (w' : World), TS B t S h rs' w' → rs'.length ≤ 10000 → Calls Tryz.prog 34 #[.pointer (some ⟨t, 0, none⟩), .agg #[.int .i64 0, .int .i64 4, .int .i64 0, .int .i64 p, .int .i64 0, .int .i64 0, .int .i64 0, .int .i64 0, .int .i64 0, .int .i64 0, .string ⟨#[]⟩, .slice none 0 0]] w' fun e w'' => TP B t S h (rs' ++ [stR S 4 p 0 0 0 []]) w' e w'') := fun rs' w' k' hn' => tell_T B t S h rs' ⟨⟨0, 4, 0, p, 0, 0, 0, 0, 0, 0⟩, ⟨#[]⟩, []⟩ _ w' k' hB (Bs.nil _) (by simp) hn'
  have HTU0 : ∀ w', Calls Tryz.prog 57 #[sv S h] w' fun e w'' => e = .returned (.int .i64 p) ∧ Below w'.heap.size w' w'' := fun w' => by rw [← hp]; exact turn_any S h w' hnx
  have HFW0 : ∀ w', Calls Tryz.prog 30 #[sv S h] w' fun e w'' => e = .returned (.bool false) ∧ Below w'.heap.size w' w'' := fun w' => by rw [← hfw]; exact fwd_any S h w'
  obtain ⟨D, hD, hL, hE⟩ := sv_letter S h
  rw [hD] at HTU0 HFW0
  have HTU : Hid _ := HTU0
  have HFW : Hid _ := HFW0
  have HL : Hid _ := hL
  have HE : Hid (D = scl S h) := hE
  have HR : Hid (∀ rs' w', TS B t S h rs' w' → w'.rangeAt t 0 D) := fun rs' w' k' => by show w'.rangeAt t 0 D; rw [hE]; exact k'.range
  have H0 : Hid (TS B t S h rs w ∧ B ≤ w.heap.size) := ⟨k, by have := k.lt; omega⟩
  have HRw : Hid (w.rangeAt t 0 D) := HR.out _ _ k
  have hT : (S.x.tr.toNat : Int) = S.x.tr := by omega
  rw [hp]
  clear k hD hL hE hp hnx hfw HTU0 HFW0
  go_enter Tryz.func36, Tryz.ntmps36
  go_wp2_with (first | (refine wpList_load_mid rfl 43 _ rfl t 0 rfl D _ HRw.out Tryz.underlying43 rfl HL.out ?_) | fail)
  refine (HTU.out _).mono ?_
  rintro e w1 ⟨rfl, b1⟩
  have H1 : Hid (TS B t S h rs w1 ∧ Below w.heap.size w w1) := ⟨H0.out.1.kept b1, b1⟩
  have HR1 : Hid (w1.rangeAt t 0 D) := HR.out _ _ H1.out.1
  clear b1 HRw
  go_wp2_with (first | (refine wpList_load_mid rfl 43 _ rfl t 0 rfl D _ HR1.out Tryz.underlying43 rfl HL.out ?_) | fail)
  refine (HFW.out _).mono ?_
  rintro e w2 ⟨rfl, b2⟩
  have H2 : Hid (TS B t S h rs w2 ∧ Below w.heap.size w w2) := ⟨H1.out.1.kept b2, andThen H1.out.2 b2⟩
  clear b2 HR1 H1 HTU HFW
  go_wp2
  go_loopw [4] (fun i wr => ∃ (m : Nat) (cur : List Rec), i = .int .i64 ((m : Int) + 1) ∧ m ≤ S.x.tr.toNat ∧ TS B t S h cur wr ∧ cur ++ trL S 5 p m (S.x.tr.toNat - m) = rs ++ trL S 5 p 0 S.x.tr.toNat ∧ cur.length ≤ rs.length + 2 * m ∧ Below B w wr ∧ Fr t w wr) (fun i _ => S.x.tr.toNat + 1 - (intOf i).toNat)
  case atStart => exact ⟨0, rs, rfl, Nat.zero_le _, H2.out.1, by simp, by simp, H2.out.2.mono H0.out.2, Fr.below H2.out.2⟩
  case round =>
    obtain ⟨m, cur, rfl, hm, kc, he, hcl, bl, fr⟩ := hrel
    have HC : Hid (TS B t S h cur wr ∧ Below B w wr ∧ Fr t w wr) := ⟨kc, bl, fr⟩
    have HEQ : Hid (cur ++ trL S 5 p m (S.x.tr.toNat - m) = rs ++ trL S 5 p 0 S.x.tr.toNat) := he
    clear kc bl fr he H2
    have c10 := HC.out.1.cell 10 (.int .i64 S.x.tr) rfl
    by_cases hlt : m < S.x.tr.toNat
    · obtain ⟨n, hnn⟩ : ∃ n, S.x.tr.toNat - m = n + 1 := ⟨S.x.tr.toNat - m - 1, by omega⟩
      have hn2 : S.x.tr.toNat - (m + 1) = n := by omega
      rw [hnn, trl_step] at HEQ
      have d1 : decide ((m : Int) + 1 ≤ S.x.tr) = true := by simp; omega
      go_wp2_with fail
      refine (HT1.out _ _ _ HC.out.1 (by omega)).mono ?_
      rintro e w3 ⟨rfl, k3, b3, f3⟩
      have H3 : Hid (TS B t S h (cur ++ [stR S 5 p ((m : Int) + 1) 0 0 []]) w3 ∧ Below B w w3 ∧ Fr t w w3) := ⟨k3, HC.out.2.1.trans b3, HC.out.2.2.trans f3⟩
      clear k3 b3 f3 HC c10 d1
      have c10 := H3.out.1.cell 10 (.int .i64 S.x.tr) rfl
      by_cases hn0 : n = 0
      · have d2 : decide ((m : Int) + 1 < S.x.tr) = false := by simp; omega
        cases hfl : S.x.fl with
        | true =>
          have c9 := H3.out.1.cell 9 (.bool true) (by rw [← hfl]; rfl)
          rw [if_neg (by simp [hn0, hfl])] at HEQ
          go_wp2
          go_roundw
          case rel => exact ⟨m + 1, _, by go_num, by omega, H3.out.1, by rw [hn2, ← HEQ.out]; simp, by simp; omega, H3.out.2.1, H3.out.2.2⟩
          case measure => simp [intOf]; omega
        | false =>
          have c9 := H3.out.1.cell 9 (.bool false) (by rw [← hfl]; rfl)
          rw [if_pos (.inr hfl)] at HEQ
          go_wp2_with fail
          refine (HT2.out _ _ H3.out.1 (by simp; omega)).mono ?_
          rintro e w4 ⟨rfl, k4, b4, f4⟩
          have H4 : Hid (TS B t S h (cur ++ [stR S 5 p ((m : Int) + 1) 0 0 []] ++ [stR S 4 p 0 0 0 []]) w4 ∧ Below B w w4 ∧ Fr t w w4) := ⟨k4, H3.out.2.1.trans b4, H3.out.2.2.trans f4⟩
          clear k4 b4 f4 H3 c10 c9
          go_wp2
          go_roundw
          case rel => exact ⟨m + 1, _, by go_num, by omega, H4.out.1, by rw [hn2, ← HEQ.out]; simp, by simp; omega, H4.out.2.1, H4.out.2.2⟩
          case measure => simp [intOf]; omega
      · have d2 : decide ((m : Int) + 1 < S.x.tr) = true := by simp; omega
        rw [if_pos (.inl hn0)] at HEQ
        go_wp2_with fail
        refine (HT2.out _ _ H3.out.1 (by simp; omega)).mono ?_
        rintro e w4 ⟨rfl, k4, b4, f4⟩
        have H4 : Hid (TS B t S h (cur ++ [stR S 5 p ((m : Int) + 1) 0 0 []] ++ [stR S 4 p 0 0 0 []]) w4 ∧ Below B w w4 ∧ Fr t w w4) := ⟨k4, H3.out.2.1.trans b4, H3.out.2.2.trans f4⟩
        clear k4 b4 f4 H3 c10
        go_wp2
        go_roundw
        case rel => exact ⟨m + 1, _, by go_num, by omega, H4.out.1, by rw [hn2, ← HEQ.out]; simp, by simp; omega, H4.out.2.1, H4.out.2.2⟩
        case measure => simp [intOf]; omega
    · obtain rfl : m = S.x.tr.toNat := by omega
      have d1 : decide (((S.x.tr.toNat : Nat) : Int) + 1 ≤ S.x.tr) = false := by simp; omega
      have hfin : cur = rs ++ trL S 5 p 0 S.x.tr.toNat := by
        have := HEQ.out
        rw [Nat.sub_self] at this
        simpa [trL] using this
      go_wp2
      go_end0
      exact ⟨rfl, by rw [← hfin]; exact HC.out.1, HC.out.2.1, HC.out.2.2⟩
theorem tries_any (B t : Nat) (S : Sg) (h : SH) (rs : List Rec) (w : World) (k : TS B t S h rs w) (hB : B ≤ t) (hnx : 0 ≤ S.x.nx ∧ S.x.nx ≤ 32) (htr : 0 ≤ S.x.tr ∧ S.x.tr ≤ 1000) (hn : rs.length ≤ 5000) :
    Calls Tryz.prog 36 #[.pointer (some ⟨t, 0, none⟩)] w fun e w' => TP B t S h (rs ++ trL S (trK S) S.x.turn 0 S.x.tr.toNat) w e w' := by
  unfold trK
  cases hf : S.x.fwd with
  | true => exact tries_f B t S h rs w k hB hnx htr hf hn
  | false => exact tries_b B t S h rs w k hB hnx htr hf hn
end Go.Proofs.YtdnackjakfiffaaGreatDoor

/-
  Package saga: Story.
-/
namespace Go.Proofs.YtdnackjakfiffaaGreatDoor
open Go Go.RowKit
open Wb

theorem outL_lenC (S : Sg) : ∀ (r : List (List Nat)) (i : Nat), (outL S i r).length = 2 * r.length
  | [], _ => rfl
  | _ :: r, i => by simp only [outL, List.length_cons, outL_lenC S r (i + 1)]; omega
theorem undL_lenC (S : Sg) : ∀ (r : List (List Nat)) (p : Int), (undL S p r).length = 2 * r.length
  | [], _ => rfl
  | _ :: r, p => by simp only [undL, List.length_cons, undL_lenC S r (p - 1)]; omega
theorem trL_lenC (S : Sg) (kk p : Int) : ∀ (n m : Nat), (trL S kk p m n).length ≤ 2 * n
  | 0, _ => Nat.le_refl _
  | n + 1, m => by
    have := trL_lenC S kk p n (m + 1)
    rw [trl_step]
    split <;> (simp; omega)
theorem failL_lenC (S : Sg) : (failL S).length ≤ 2 + 2 * S.und.length := by
  unfold failL
  split
  · simp
  · simp [undL_lenC]; omega
/-- what Check says of the numbers -/
theorem story_bnds (S : Sg) (h : chkS S = true) : S.outs.length ≤ 32 ∧ S.und.length ≤ 32 ∧ (0 ≤ S.x.nx ∧ S.x.nx ≤ 32) ∧ (0 ≤ S.x.tr ∧ S.x.tr ≤ 1000) ∧ (S.x.fwd = false → 0 ≤ S.x.fs ∧ S.x.fs ≤ 32) ∧ S.inp.length ≤ 16384 ∧ S.fail.length ≤ 16384 ∧ shortP S.outs = true ∧ shortP S.und = true := by
  obtain ⟨⟨b1, b2, b3, b4, b5, b6, b7, b8, b9, b10, b11⟩, h1⟩ := (chkS_iff S).1 h
  refine ⟨?_, ?_, ?_, b7, ?_, b8, b9, b10, b11⟩
  all_goals rcases h1 with ⟨g, c1, c2, c3, c4, c5, c6, c7, _⟩ | ⟨g, c1, c2, c3, c4, c5, c6, _⟩ | ⟨g, c1, c2, c3, c4, c5, c6, _⟩ | ⟨g, g0, c1, c2, c3, c4, c5, c6, _⟩
  all_goals first | omega | (rw [c4]; simp) | (intro hf; simp [SN.fwd, g] at hf) | (intro _; omega)
def ztl : List Value := zcl ++ [.slice none 0 0]
theorem infoTeller : (Tryz.prog.info? 65).map (·.size) = some 17 := by kernel_rfl
/-- alloc of a teller, by a letter -/
theorem wpList_alloc_T {Z : List Value} (hZ : Z = ztl) {ops : Array Oper} {rest : List Oper} {op : Oper} {a : Act} {w : World} {Q : Exit → Act → World → Prop} (hgd : op.guard = none) (ho : op.op = .alloc 65)
    (h : wpList Tryz.prog ops Q rest (a.put op.dst (.pointer (some ⟨w.heap.size, 0, none⟩))) (w.alloc (.cells Z.toArray 65))) : wpList Tryz.prog ops Q (op :: rest) a w := by
  subst hZ
  refine wpList_plain hgd fun K hK => ?_
  obtain ⟨dst, op', ty, pos, after, guard⟩ := op
  simp only at ho hgd
  subst ho hgd
  have hK2 := hK _ _ h
  clear hK h
  unfold ztl zcl at hK2
  go_simp
  exact hK2
/-- build of a teller, by letters -/
theorem wpList_build_T {S : Sg} {h : SH} {D T : List Value} (hD : D = scl S h) (hT : T = D ++ [.slice none 0 0]) {ops : Array Oper} {rest : List Oper} {op : Oper} {a : Act} {w : World} {Q : Exit → Act → World → Prop} (hgd : op.guard = none) (n : Nat) (ho : op.op = .build 65 #[(0, .tmp n)]) (hx : a.tmps[n]?.getD undef = .agg D.toArray)
    (hh : wpList Tryz.prog ops Q rest (a.put op.dst (.agg T.toArray)) w) : wpList Tryz.prog ops Q (op :: rest) a w := by
  subst hT hD
  refine wpList_plain hgd fun K hK => ?_
  obtain ⟨dst, op', ty, pos, after, guard⟩ := op
  simp only at ho hgd
  subst ho hgd
  have hK2 := hK _ _ hh
  clear hK hh
  unfold scl at hK2 hx
  go_simp
  exact hK2
def StPost (S : Sg) (w : World) (e : Ending) (w' : World) : Prop := ∃ v ps, e = .returned (.tuple #[v, .int .i64 0]) ∧ OutT w.heap.size w' v ps ∧ ps.map Prod.fst = storyP S ∧ Below w.heap.size w w'

set_option maxRecDepth 100000 in
set_option maxHeartbeats 4000000 in
/-- a saga that Check refuses has no story -/
theorem story_bad (S : Sg) (h : SH) (w : World) (k : SgAt w S h) (hT : Text.TabP 2 .i32 Text.Tx.lets w) (hnm : S.nm.size ≤ 140737488355000) (hc : chkS S = false) : Calls Tryz.prog 16 #[sv S h] w fun e w' => e = .returned (.tuple #[.slice none 0 0, .int .i64 100]) ∧ Below w.heap.size w w' := by
  have HCK0 : ∀ w', Below w.heap.size w w' → Calls Tryz.prog 15 #[sv S h] w' fun e w'' => e = .returned (.int .i64 100) ∧ Below w'.heap.size w' w'' := fun w' hb => by
    have e := scheck_any S h w' (k.kept hb) (hT.kept hb) hnm
    rw [hc] at e
    exact e

  obtain ⟨D, hD, hL, hE⟩ := sv_letter S h
  rw [hD] at HCK0 ⊢
  have HCK : Hid _ := HCK0
  have HL : Hid _ := hL
  have HE : Hid (D = scl S h) := hE
  have HX : Hid (∀ t, (w.alloc (.cells D.toArray t)).rangeAt w.heap.size 0 D ∧ Below w.heap.size w (w.alloc (.cells D.toArray t))) := fun t => boxed w D t
  clear hD hL hE HCK0
  clear k hT hnm hc
  have HX1 : Hid _ := HX.out 43
  go_enter Tryz.func16, Tryz.ntmps16
  go_wp2_with (first | (refine wpList_load_mid rfl 43 _ rfl w.heap.size 0 rfl D _ HX1.out.1 Tryz.underlying43 rfl HL.out ?_) | fail)
  refine (HCK.out _ HX1.out.2).mono ?_
  rintro e w1 ⟨rfl, b1⟩
  have H1 : Hid (Below w.heap.size w w1) := andThen HX1.out.2 b1
  clear b1 HX1 HX
  go_wp2
  go_ret2
  exact ⟨rfl, H1.out⟩
set_option maxRecDepth 100000 in
set_option maxHeartbeats 8000000 in
theorem story_ok (S : Sg) (h : SH) (w : World) (k : SgAt w S h) (hT : Text.TabP 2 .i32 Text.Tx.lets w) (hnm : S.nm.size ≤ 140737488355000) (hc : chkS S = true) : Calls Tryz.prog 16 #[sv S h] w fun e w' => StPost S w e w' := by
  obtain ⟨q1, q2, q3, q4, q5, q6, q7, q8, q9⟩ := story_bnds S hc
  have HCK0 : ∀ w', Below w.heap.size w w' → Calls Tryz.prog 15 #[sv S h] w' fun e w'' => e = .returned (.int .i64 0) ∧ Below w'.heap.size w' w'' := fun w' hb => by
    have e := scheck_any S h w' (k.kept hb) (hT.kept hb) hnm
    rw [hc] at e
    exact e
  have HFW0 : ∀ w', Calls Tryz.prog 30 #[sv S h] w' fun e w'' => e = .returned (.bool S.x.fwd) ∧ Below w'.heap.size w' w'' := fun w' => fwd_any S h w'
  have HEN0 : ∀ w', Calls Tryz.prog 37 #[sv S h] w' fun e w'' => e = .returned (.bool S.x.ended) ∧ Below w'.heap.size w' w'' := fun w' => ended_any S h w'
  have HOC0 : ∀ w', Calls Tryz.prog 38 #[sv S h] w' fun e w'' => e = .returned (.int .i64 S.x.outcome) ∧ Below w'.heap.size w' w'' := fun w' => outcome_any S h w'
  obtain ⟨D, hD, hL, hE⟩ := sv_letter S h
  rw [hD] at HCK0 HFW0 HEN0 HOC0 ⊢
  have HCK : Hid _ := HCK0
  have HFW : Hid _ := HFW0
  have HEN : Hid _ := HEN0
  have HOC : Hid _ := HOC0
  have HL : Hid _ := hL
  have HE : Hid (D = scl S h) := hE
  have HX : Hid (∀ t, LB (w.alloc (.cells D.toArray t)) w.heap.size t D ∧ Below w.heap.size w (w.alloc (.cells D.toArray t))) := fun t => ⟨lb_new w D t, up0 _ _⟩
  have HU : Hid (∀ j (hj : j < S.outs.length), ∃ b off d, h.ao = some ⟨b, off, none⟩ ∧ (∀ w', Below w.heap.size w w' → w'.cell? ⟨b, off + j, none⟩ = some d ∧ Bs w' d S.outs[j]) ∧ S.outs[j].length ≤ 16384) := fun j hj => by
    obtain ⟨a1, p1, e1, _, h1⟩ := k.outs.shape
    simp only [Value.slice.injEq] at e1
    obtain ⟨rfl, _, rfl⟩ := e1
    obtain ⟨b, off, r1, r2⟩ := h1 (by intro e; rw [e] at hj; simp at hj)
    obtain ⟨d, q1, q2⟩ := r2 j hj
    exact ⟨b, off, d, r1, fun w' hb => ⟨(hb.cell (World.block_lt_of_cell? _ _ q1)).trans q1, q2.kept hb⟩, by simpa using List.all_eq_true.1 q8 _ (List.getElem_mem hj)⟩
  have HBG : Hid (∀ (t : Nat) (w' : World), w.heap.size ≤ t → TS w.heap.size t S h [] w' → Below w.heap.size w w' → Calls Tryz.prog 33 #[.pointer (some ⟨t, 0, none⟩)] w' fun e w'' => TP w.heap.size t S h [stB S] w' e w'') := fun t w' ht k' hb => tbegin_any _ t S h w' k' ht (k.inp.kept hb) q6
  have HTF : Hid (∀ (t : Nat) (rs : List Rec) (w' : World), w.heap.size ≤ t → TS w.heap.size t S h rs w' → Below w.heap.size w w' → S.x.fwd = false → rs.length ≤ 5000 → Calls Tryz.prog 35 #[.pointer (some ⟨t, 0, none⟩)] w' fun e w'' => TP w.heap.size t S h (rs ++ failL S) w' e w'') := fun t rs w' ht k' hb hf hn => tfail_any _ t S h rs w' k' ht w rfl k hb q7 q9 q2 (q5 hf) hf hn
  have HTR : Hid (∀ (t : Nat) (rs : List Rec) (w' : World), w.heap.size ≤ t → TS w.heap.size t S h rs w' → rs.length ≤ 5000 → Calls Tryz.prog 36 #[.pointer (some ⟨t, 0, none⟩)] w' fun e w'' => TP w.heap.size t S h (rs ++ trL S (trK S) S.x.turn 0 S.x.tr.toNat) w' e w'') := fun t rs w' ht k' hn => tries_any _ t S h rs w' k' ht q3 q4 hn
  have HT1 : Hid (∀ (t : Nat), w.heap.size ≤ t → ∀ (p : Int) (rs' : List Rec) (w' : World), TS w.heap.size t S h rs' w' → rs'.length ≤ 10000 → Calls Tryz.prog 34 #[.pointer (some ⟨t, 0, none⟩), .agg #[.int .i64 0, .int .i64 2, .int .i64 0, .int .i64 p, .int .i64 1, .int .i64 0, .int .i64 0, .int .i64 0, .int .i64 0, .int .i64 0, .string ⟨#[]⟩, .slice none 0 0]] w' fun e w'' => TP w.heap.size t S h (rs' ++ [stR S 2 p 1 0 0 []]) w' e w'') := fun t hB p rs' w' k' hn' => tell_T _ t S h rs' ⟨⟨0, 2, 0, p, 1, 0, 0, 0, 0, 0⟩, ⟨#[]⟩, []⟩ _ w' k' hB (Bs.nil _) (by simp) hn'
  have HT2 : Hid (∀ (t : Nat), w.heap.size ≤ t → ∀ (p : Int) (d : Value) (o : List Nat) (rs' : List Rec) (w' : World), TS w.heap.size t S h rs' w' → rs'.length ≤ 10000 → Bs w' (d) o → o.length ≤ 16384 → Calls Tryz.prog 34 #[.pointer (some ⟨t, 0, none⟩), .agg #[.int .i64 0, .int .i64 3, .int .i64 0, .int .i64 p, .int .i64 0, .int .i64 0, .int .i64 0, .int .i64 0, .int .i64 0, .int .i64 0, .string ⟨#[]⟩, d]] w' fun e w'' => TP w.heap.size t S h (rs' ++ [stR S 3 p 0 0 0 o]) w' e w'') := fun t hB p d o rs' w' k' hn' hb hl => tell_T _ t S h rs' ⟨⟨0, 3, 0, p, 0, 0, 0, 0, 0, 0⟩, ⟨#[]⟩, o⟩ _ w' k' hB hb hl hn'
  have HT3 : Hid (∀ (t : Nat), w.heap.size ≤ t → ∀ (c : Int) (rs' : List Rec) (w' : World), TS w.heap.size t S h rs' w' → rs'.length ≤ 10000 → Calls Tryz.prog 34 #[.pointer (some ⟨t, 0, none⟩), .agg #[.int .i64 0, .int .i64 7, .int .i64 0, .int .i64 0, .int .i64 0, .int .i64 0, .int .i64 0, .int .i64 c, .int .i64 0, .int .i64 0, .string ⟨#[]⟩, .slice none 0 0]] w' fun e w'' => TP w.heap.size t S h (rs' ++ [stR S 7 0 0 0 c []]) w' e w'') := fun t hB c rs' w' k' hn' => tell_T _ t S h rs' ⟨⟨0, 7, 0, 0, 0, 0, 0, c, 0, 0⟩, ⟨#[]⟩, []⟩ _ w' k' hB (Bs.nil _) (by simp) hn'
  have HLEN : Hid (S.outs.length ≤ 32 ∧ (failL S).length ≤ 66 ∧ (trL S (trK S) S.x.turn 0 S.x.tr.toNat).length ≤ 2000) := ⟨q1, by have := failL_lenC S; omega, by have := trL_lenC S (trK S) S.x.turn S.x.tr.toNat 0; omega⟩
  obtain ⟨Z, hZ⟩ : ∃ Z, Z = ztl := ⟨_, rfl⟩
  have HZ : Hid (Z = ztl) := hZ
  obtain ⟨TD, hTD⟩ : ∃ TD, TD = D ++ [.slice none 0 0] := ⟨_, rfl⟩
  have HTD : Hid (TD = D ++ [.slice none 0 0]) := hTD
  have HTL : Hid ((Tryz.prog.info? 65).map (·.size) = some TD.length) := by show _ = _; rw [hTD, hE]; exact infoTeller
  have HTZ : Hid (TD.length = Z.length) := by show _ = _; rw [hTD, hE, hZ]; rfl
  have HT1' : Hid (∀ v ∈ TD, v.oneCell' = true) := by
    show ∀ v ∈ TD, _
    rw [hTD, hE]
    intro v hv
    rcases List.mem_append.1 hv with hv | hv
    · exact scl_one _ _ v hv
    · obtain rfl := List.mem_singleton.1 hv; rfl
  clear k hT hnm hc hD hL hE hZ hTD HCK0 HFW0 HEN0 HOC0 q1 q2 q3 q4 q5 q6 q7 q8 q9
  have HX1 : Hid _ := HX.out 43
  go_enter Tryz.func16, Tryz.ntmps16
  go_wp2_with (first | (refine wpList_load_mid rfl 43 _ rfl w.heap.size 0 rfl D _ HX1.out.1.range Tryz.underlying43 rfl HL.out ?_) | fail)
  refine (HCK.out _ HX1.out.2).mono ?_
  rintro e w1 ⟨rfl, b1⟩
  have H1 : Hid (LB w1 w.heap.size 43 D ∧ Below w.heap.size w w1 ∧ w.heap.size ≤ w1.heap.size ∧ w.heap.size ≠ w1.heap.size) := ⟨HX1.out.1.kept b1, andThen HX1.out.2 b1, (andThen HX1.out.2 b1).size, Nat.ne_of_lt (HX1.out.1.kept b1).lt⟩
  clear b1 HX1 HX HCK
  have HTT : Hid ((w1.alloc (.cells Z.toArray 65)).there w1.heap.size 0 TD.toArray.size) := there_of (lb_new w1 Z _) (by simpa using HTZ.out)
  have H2 : Hid (∃ W2, W2 = (w1.alloc (.cells Z.toArray 65)).setCells w1.heap.size 0 TD ∧ LB W2 w.heap.size 43 D ∧ TS w.heap.size w1.heap.size S h [] W2 ∧ Below w.heap.size w W2) := by
    obtain ⟨q1, q2⟩ := box1 w1 65 Z TD HTZ.out
    exact ⟨_, rfl, H1.out.1.kept q2, ⟨.slice none 0 0, [], by rw [← HE.out, ← HTD.out]; exact q1, OutT.nil _ _, rfl⟩, andThen H1.out.2.1 q2⟩
  go_wp2_with (first | (refine wpList_load_mid rfl 43 _ rfl w.heap.size 0 rfl D _ H1.out.1.range Tryz.underlying43 rfl HL.out ?_) | (refine wpList_build_T HE.out HTD.out rfl 13 rfl rfl ?_) | (refine wpList_alloc_T HZ.out rfl rfl ?_) | (refine wpList_store_mid rfl 65 (.tmp 5) (.tmp 14) rfl w1.heap.size 0 TD.toArray rfl rfl HTT.out (by simpa using HTL.out) (all_oneCell_toArray HT1'.out) ?_; (obtain ⟨W2, hW2, hq⟩ := H2.out); (have H3 : Hid _ := hq); (rw [List.toList_toArray, ← hW2]); (clear hW2 hq H2 HTT)) | fail)
  refine (HBG.out _ _ H1.out.2.2.1 H3.out.2.1 H3.out.2.2).mono ?_
  rintro e w2 ⟨rfl, k2, b2, f2⟩
  have HN : Hid (w.heap.size ≤ w1.heap.size ∧ w.heap.size ≠ w1.heap.size) := H1.out.2.2
  have H4 : Hid (LB w2 w.heap.size 43 D ∧ TS w.heap.size w1.heap.size S h [stB S] w2 ∧ Below w.heap.size w w2) := ⟨f2 _ _ _ HN.out.2 (by decide) H3.out.1, k2, H3.out.2.2.trans b2⟩
  clear k2 b2 f2 H3 H1 HBG HTD HTL HTZ HT1' HZ
  generalize w1.heap.size = t at HN H4 ⊢
  have c11 := H4.out.1.cell 11 (.slice h.ao S.outs.length h.co) (by rw [HE.out]; rfl)
  go_wp2
  clear c11
  go_loopw [19] (fun i wr => ∃ (n : Nat) (cur : List Rec), i = .int .i64 (n : Int) ∧ n ≤ S.outs.length ∧ TS w.heap.size t S h cur wr ∧ cur ++ outL S n (S.outs.drop n) = stB S :: outL S 0 S.outs ∧ cur.length ≤ 1 + 2 * n ∧ LB wr w.heap.size 43 D ∧ Below w.heap.size w wr) (fun i _ => S.outs.length - (intOf i).toNat)
  case atStart => exact ⟨0, _, rfl, Nat.zero_le _, H4.out.2.1, by simp, by simp, H4.out.1, H4.out.2.2⟩
  case round =>
    obtain ⟨n, cur, rfl, hn2, kc, he, hcl, lb, bl⟩ := hrel
    have HR : Hid (TS w.heap.size t S h cur wr ∧ LB wr w.heap.size 43 D ∧ Below w.heap.size w wr) := ⟨kc, lb, bl⟩
    have HEQ : Hid (cur ++ outL S n (S.outs.drop n) = stB S :: outL S 0 S.outs) := he
    clear kc lb bl he H4
    have hol := HLEN.out.1
    by_cases hlt2 : n < S.outs.length
    · obtain ⟨b, off, d, hau, qw, q3⟩ := HU.out n hlt2
      obtain ⟨o, hoo⟩ : ∃ o, S.outs[n] = o := ⟨_, rfl⟩
      have HDR : Hid (S.outs.drop n = o :: S.outs.drop (n + 1)) := by show _ = _; rw [List.drop_eq_getElem_cons hlt2, hoo]
      rw [hoo] at qw q3
      obtain ⟨q1, q2⟩ := qw _ HR.out.2.2
      have HQ : Hid (o.length ≤ 16384) := q3
      obtain ⟨ad, cd, rfl, _⟩ := q2.shape
      have HQW : Hid _ := qw
      clear q2 q3 hoo qw
      rw [hau]
      go_wp2_with fail
      refine (HT1.out t HN.out.1 _ _ _ HR.out.1 (by omega)).mono ?_
      rintro e w3 ⟨rfl, k3, b3, f3⟩
      have H6 : Hid (LB w3 w.heap.size 43 D ∧ TS w.heap.size t S h (cur ++ [stR S 2 (n : Int) 1 0 0 []]) w3 ∧ Below w.heap.size w w3) := ⟨f3 _ _ _ HN.out.2 (by decide) HR.out.2.1, k3, HR.out.2.2.trans b3⟩
      have H7 : Hid (Bs w3 (.slice ad o.length cd) o ∧ o.length ≤ 16384) := ⟨(HQW.out _ H6.out.2.2).2, HQ.out⟩
      clear k3 b3 f3 q1
      go_wp2_with fail
      refine (HT2.out t HN.out.1 _ _ o _ _ H6.out.2.1 (by simp; omega) H7.out.1 H7.out.2).mono ?_
      rintro e w4 ⟨rfl, k4, b4, f4⟩
      have H8 : Hid (LB w4 w.heap.size 43 D ∧ TS w.heap.size t S h (cur ++ [stR S 2 (n : Int) 1 0 0 []] ++ [stR S 3 (n : Int) 0 0 0 o]) w4 ∧ Below w.heap.size w w4) := ⟨f4 _ _ _ HN.out.2 (by decide) H6.out.1, k4, H6.out.2.2.trans b4⟩
      clear k4 b4 f4 H6 H7
      go_wp2
      go_roundw
      case rel => exact ⟨n + 1, _, by go_num, by omega, H8.out.2.1, by rw [← HEQ.out, HDR.out]; simp [outL], by simp; omega, H8.out.1, H8.out.2.2⟩
      case measure => simp [intOf]; omega
    · obtain rfl : n = S.outs.length := by omega
      have hfin : cur = stB S :: outL S 0 S.outs := by
        have := HEQ.out
        rw [List.drop_length] at this
        simpa [outL] using this
      subst hfin
      clear HEQ HU HT1 HT2
      go_wp2_with (first | (refine wpList_load_mid rfl 43 _ rfl w.heap.size 0 rfl D _ HR.out.2.1.range Tryz.underlying43 rfl HL.out ?_) | fail)
      refine (HFW.out _).mono ?_
      rintro e x1 ⟨rfl, b1⟩
      have H1 : Hid (TS w.heap.size t S h (stB S :: outL S 0 S.outs) x1 ∧ LB x1 w.heap.size 43 D ∧ Below w.heap.size w x1) := ⟨HR.out.1.kept b1, HR.out.2.1.kept b1, andThen HR.out.2.2 b1⟩
      clear b1 HR HFW
      cases hf : S.x.fwd with
      | true =>
        go_wp2_with fail
        refine (HTR.out t _ _ HN.out.1 H1.out.1 (by simp only [List.length_cons, outL_lenC]; have := HLEN.out.2.1; omega)).mono ?_
        rintro e x3 ⟨rfl, k3, b3, f3⟩
        have H3 : Hid (TS w.heap.size t S h ((stB S :: outL S 0 S.outs) ++ trL S (trK S) S.x.turn 0 S.x.tr.toNat) x3 ∧ LB x3 w.heap.size 43 D ∧ Below w.heap.size w x3) := ⟨k3, f3 _ _ _ HN.out.2 (by decide) H1.out.2.1, H1.out.2.2.trans b3⟩
        clear k3 b3 f3 H1
        go_wp2_with (first | (refine wpList_load_mid rfl 43 _ rfl w.heap.size 0 rfl D _ H3.out.2.1.range Tryz.underlying43 rfl HL.out ?_) | fail)
        refine (HEN.out _).mono ?_
        rintro e x4 ⟨rfl, b4⟩
        have H4 : Hid (TS w.heap.size t S h ((stB S :: outL S 0 S.outs) ++ trL S (trK S) S.x.turn 0 S.x.tr.toNat) x4 ∧ LB x4 w.heap.size 43 D ∧ Below w.heap.size w x4) := ⟨H3.out.1.kept b4, H3.out.2.1.kept b4, andThen H3.out.2.2 b4⟩
        clear b4 H3
        cases he : S.x.ended with
        | false =>
          have hff : failL S = [] := by unfold failL; rw [if_pos hf]
          have hee : endL S = [] := by unfold endL; rw [if_neg (by simp [he])]
          obtain ⟨v9, ps9, l9, o9, e9⟩ := H4.out.1
          obtain ⟨a9, n9, p9, rfl⟩ : ∃ a n c, v9 = .slice a n c := by rcases o9.1.2 with ⟨e, _⟩ | ⟨_, _, _, e, _⟩ <;> exact ⟨_, _, _, e⟩
          have c16 := l9.cell 16 (.slice a9 n9 p9) rfl
          have HO9 : Hid (OutT w.heap.size _ (.slice a9 n9 p9) ps9 ∧ ps9.map Prod.fst = storyP S) := ⟨o9, e9.trans (by rw [storyP, storyT, hff, hee]; simp)⟩
          clear l9 o9 e9
          go_wp2
          go_ret2
          exact ⟨_, ps9, rfl, HO9.out.1, HO9.out.2, H4.out.2.2⟩
        | true =>
          have hff : failL S = [] := by unfold failL; rw [if_pos hf]
          have hee : endL S = [stR S 7 0 0 0 S.x.outcome []] := by unfold endL; rw [if_pos he]
          go_wp2_with (first | (refine wpList_load_mid rfl 43 _ rfl w.heap.size 0 rfl D _ H4.out.2.1.range Tryz.underlying43 rfl HL.out ?_) | fail)
          refine (HOC.out _).mono ?_
          rintro e x5 ⟨rfl, b5⟩
          have H5 : Hid (TS w.heap.size t S h ((stB S :: outL S 0 S.outs) ++ trL S (trK S) S.x.turn 0 S.x.tr.toNat) x5 ∧ LB x5 w.heap.size 43 D ∧ Below w.heap.size w x5) := ⟨H4.out.1.kept b5, H4.out.2.1.kept b5, andThen H4.out.2.2 b5⟩
          clear b5 H4
          go_wp2_with fail
          refine (HT3.out t HN.out.1 _ _ _ H5.out.1 (by simp only [List.length_append, List.length_cons, outL_lenC]; have := HLEN.out.2; omega)).mono ?_
          rintro e x6 ⟨rfl, k6, b6, f6⟩
          have H6 : Hid (TS w.heap.size t S h (((stB S :: outL S 0 S.outs) ++ trL S (trK S) S.x.turn 0 S.x.tr.toNat) ++ [stR S 7 0 0 0 S.x.outcome []]) x6 ∧ LB x6 w.heap.size 43 D ∧ Below w.heap.size w x6) := ⟨k6, f6 _ _ _ HN.out.2 (by decide) H5.out.2.1, H5.out.2.2.trans b6⟩
          clear k6 b6 f6 H5
          obtain ⟨v9, ps9, l9, o9, e9⟩ := H6.out.1
          obtain ⟨a9, n9, p9, rfl⟩ : ∃ a n c, v9 = .slice a n c := by rcases o9.1.2 with ⟨e, _⟩ | ⟨_, _, _, e, _⟩ <;> exact ⟨_, _, _, e⟩
          have c16 := l9.cell 16 (.slice a9 n9 p9) rfl
          have HO9 : Hid (OutT w.heap.size _ (.slice a9 n9 p9) ps9 ∧ ps9.map Prod.fst = storyP S) := ⟨o9, e9.trans (by rw [storyP, storyT, hff, hee]; simp)⟩
          clear l9 o9 e9
          go_wp2
          go_ret2
          exact ⟨_, ps9, rfl, HO9.out.1, HO9.out.2, H6.out.2.2⟩
      | false =>
        go_wp2_with fail
        refine (HTF.out t _ _ HN.out.1 H1.out.1 H1.out.2.2 hf (by simp only [List.length_cons, outL_lenC]; omega)).mono ?_
        rintro e x2 ⟨rfl, k2, b2, f2⟩
        have H2 : Hid (TS w.heap.size t S h ((stB S :: outL S 0 S.outs) ++ failL S) x2 ∧ LB x2 w.heap.size 43 D ∧ Below w.heap.size w x2) := ⟨k2, f2 _ _ _ HN.out.2 (by decide) H1.out.2.1, H1.out.2.2.trans b2⟩
        clear k2 b2 f2 H1
        go_wp2_with fail
        refine (HTR.out t _ _ HN.out.1 H2.out.1 (by simp only [List.length_append, List.length_cons, outL_lenC]; have := HLEN.out.2.1; omega)).mono ?_
        rintro e x3 ⟨rfl, k3, b3, f3⟩
        have H3 : Hid (TS w.heap.size t S h (((stB S :: outL S 0 S.outs) ++ failL S) ++ trL S (trK S) S.x.turn 0 S.x.tr.toNat) x3 ∧ LB x3 w.heap.size 43 D ∧ Below w.heap.size w x3) := ⟨k3, f3 _ _ _ HN.out.2 (by decide) H2.out.2.1, H2.out.2.2.trans b3⟩
        clear k3 b3 f3 H2
        go_wp2_with (first | (refine wpList_load_mid rfl 43 _ rfl w.heap.size 0 rfl D _ H3.out.2.1.range Tryz.underlying43 rfl HL.out ?_) | fail)
        refine (HEN.out _).mono ?_
        rintro e x4 ⟨rfl, b4⟩
        have H4 : Hid (TS w.heap.size t S h (((stB S :: outL S 0 S.outs) ++ failL S) ++ trL S (trK S) S.x.turn 0 S.x.tr.toNat) x4 ∧ LB x4 w.heap.size 43 D ∧ Below w.heap.size w x4) := ⟨H3.out.1.kept b4, H3.out.2.1.kept b4, andThen H3.out.2.2 b4⟩
        clear b4 H3
        cases he : S.x.ended with
        | false =>
          have hee : endL S = [] := by unfold endL; rw [if_neg (by simp [he])]
          obtain ⟨v9, ps9, l9, o9, e9⟩ := H4.out.1
          obtain ⟨a9, n9, p9, rfl⟩ : ∃ a n c, v9 = .slice a n c := by rcases o9.1.2 with ⟨e, _⟩ | ⟨_, _, _, e, _⟩ <;> exact ⟨_, _, _, e⟩
          have c16 := l9.cell 16 (.slice a9 n9 p9) rfl
          have HO9 : Hid (OutT w.heap.size _ (.slice a9 n9 p9) ps9 ∧ ps9.map Prod.fst = storyP S) := ⟨o9, e9.trans (by rw [storyP, storyT, hee]; simp)⟩
          clear l9 o9 e9
          go_wp2
          go_ret2
          exact ⟨_, ps9, rfl, HO9.out.1, HO9.out.2, H4.out.2.2⟩
        | true =>
          have hee : endL S = [stR S 7 0 0 0 S.x.outcome []] := by unfold endL; rw [if_pos he]
          go_wp2_with (first | (refine wpList_load_mid rfl 43 _ rfl w.heap.size 0 rfl D _ H4.out.2.1.range Tryz.underlying43 rfl HL.out ?_) | fail)
          refine (HOC.out _).mono ?_
          rintro e x5 ⟨rfl, b5⟩
          have H5 : Hid (TS w.heap.size t S h (((stB S :: outL S 0 S.outs) ++ failL S) ++ trL S (trK S) S.x.turn 0 S.x.tr.toNat) x5 ∧ LB x5 w.heap.size 43 D ∧ Below w.heap.size w x5) := ⟨H4.out.1.kept b5, H4.out.2.1.kept b5, andThen H4.out.2.2 b5⟩
          clear b5 H4
          go_wp2_with fail
          refine (HT3.out t HN.out.1 _ _ _ H5.out.1 (by simp only [List.length_append, List.length_cons, outL_lenC]; have := HLEN.out.2; omega)).mono ?_
          rintro e x6 ⟨rfl, k6, b6, f6⟩
          have H6 : Hid (TS w.heap.size t S h ((((stB S :: outL S 0 S.outs) ++ failL S) ++ trL S (trK S) S.x.turn 0 S.x.tr.toNat) ++ [stR S 7 0 0 0 S.x.outcome []]) x6 ∧ LB x6 w.heap.size 43 D ∧ Below w.heap.size w x6) := ⟨k6, f6 _ _ _ HN.out.2 (by decide) H5.out.2.1, H5.out.2.2.trans b6⟩
          clear k6 b6 f6 H5
          obtain ⟨v9, ps9, l9, o9, e9⟩ := H6.out.1
          obtain ⟨a9, n9, p9, rfl⟩ : ∃ a n c, v9 = .slice a n c := by rcases o9.1.2 with ⟨e, _⟩ | ⟨_, _, _, e, _⟩ <;> exact ⟨_, _, _, e⟩
          have c16 := l9.cell 16 (.slice a9 n9 p9) rfl
          have HO9 : Hid (OutT w.heap.size _ (.slice a9 n9 p9) ps9 ∧ ps9.map Prod.fst = storyP S) := ⟨o9, e9.trans (by rw [storyP, storyT, hee]; simp)⟩
          clear l9 o9 e9
          go_wp2
          go_ret2
          exact ⟨_, ps9, rfl, HO9.out.1, HO9.out.2, H6.out.2.2⟩
end Go.Proofs.YtdnackjakfiffaaGreatDoor

/-
  The reference's saga: bytes, lists, Clone.
-/
namespace Go.Proofs.YtdnackjakfiffaaGreatDoor
open Go Go.RowKit
open Wb

theorem rxbytes_any (v : Value) (l : List Nat) (w : World) (h : Bs w v l) (hlen : l.length ≤ 140737488355328) :
    Calls Tryz.prog 39 #[v] w fun e w' => ∃ a, ∃ c : Nat, e = .returned (.slice a l.length c) ∧ Own w.heap.size w' (.slice a l.length c) l ∧ Below w.heap.size w w' := by
  have hin := info5
  have HB : Hid (Bs w v l) := h
  obtain ⟨ao, cap, rfl, _⟩ := h.shape
  clear h
  go_enter Tryz.func39, Tryz.ntmps39
  go_wp2_with (at_builtin; refine wpList_append _ rfl (.tmp 4) (.tmp 5) 30 rfl w.heap.size hin Tryz.underlying30 _ [] rfl (Own.nil _ _) _ l rfl HB.out (by simp; omega) (Nat.le_refl _) ?_)
  intro v' w' ho hb _
  obtain ⟨a, c, rfl, _⟩ := ho.bs.shape
  have HO : Hid (Own w.heap.size w' (.slice a l.length c) l ∧ Below w.heap.size w w') := ⟨ho, hb⟩
  clear ho hb
  go_wp2
  go_ret
  exact ⟨_, _, rfl, HO.out.1, HO.out.2⟩
set_option maxRecDepth 100000 in
set_option maxHeartbeats 2000000 in
theorem rxlists_any (v : Value) (ls : List (List Nat)) (w : World) (h : Ps w v ls) (hall : ∀ x ∈ ls, x.length ≤ 16777216) (hnl : ls.length ≤ 100000000) :
    Calls Tryz.prog 40 #[v] w fun e w' => ∃ a, ∃ c : Nat, e = .returned (.slice a ls.length c) ∧ OwnP w.heap.size w' (.slice a ls.length c) ls ∧ Below w.heap.size w w' := by
  have hin := info22
  obtain ⟨ao, cap, rfl, hmx, hc⟩ := h.shape
  unfold maxLen at hmx
  clear h
  go_enter Tryz.func40, Tryz.ntmps40
  go_wp2
  go_loopw [3, 4] (fun o i wr => ∃ k : Nat, k ≤ ls.length ∧ i = .int .i64 (k : Int) ∧ OwnP w.heap.size wr o (ls.take k) ∧ Below w.heap.size w wr) (fun _ i _ => ls.length - (intOf i).toNat)
  case atStart => exact ⟨0, Nat.zero_le _, rfl, ⟨[], Row.nil _ _, rfl, fun j h => absurd h (Nat.not_lt_zero _)⟩, Below.refl _ _⟩
  case round =>
    obtain ⟨k, hk, rfl, hown, hbel⟩ := hrel
    by_cases hlt : k < ls.length
    · obtain ⟨b, off, rfl, hcell⟩ := hc (List.ne_nil_of_length_pos (by omega))
      obtain ⟨vk, hck, hbk⟩ := hcell k hlt
      have H1 : Hid (∀ w', Below w.heap.size w w' → Bs w' vk ls[k]) := fun w' hb => hbk.kept hb
      have q1 : wr.cell? ⟨b, off + k, none⟩ = some vk := (hbel.cell (p := ⟨b, off + k, none⟩) (World.block_lt_of_cell? _ _ hck)).trans hck
      obtain ⟨aok, capk, rfl, hlk, hmk, hx1, hx2⟩ := hbk.shape
      have hkl : ls[k].length ≤ 16777216 := hall _ (List.getElem_mem hlt)
      have HS : Hid (ls.take (k + 1) = ls.take k ++ [ls[k]]) := List.take_succ_eq_append_getElem hlt
      have hdl : (ls.take k).length = k := by simp; omega
      obtain ⟨vs, hrow, hvl, hel⟩ := hown
      have hvs : vs.length ≤ 5000000000 := by omega
      have HVL : Hid (vs.length = (ls.take k).length) := hvl
      have HR : Hid (Row w.heap.size wr u3 vs ∧ (∀ j (h : j < vs.length) (h2 : j < (ls.take k).length), Own w.heap.size wr vs[j] (ls.take k)[j]) ∧ Below w.heap.size w wr) := ⟨hrow, hel, hbel⟩
      clear hx1 hx2 hc hcell hbk hck hel hrow hbel hvl
      generalize ls[k] = x at *
      generalize ls.take k = done at *
      go_wp2_with fail
      refine (rxbytes_any _ x _ (H1.out _ HR.out.2.2) (Nat.le_trans hkl (by decide))).mono ?_
      rintro e w2 ⟨ao2, cap2, rfl, ho2, b2⟩
      have HRA : Hid (∀ o, Row w.heap.size (w2.alloc o) u3 vs) := fun o => HR.out.1.kept (up b2 _)
      have HC2 : Hid (∀ t, (w2.alloc (.cells #[.slice ao2 x.length cap2] t)).cell? ⟨w2.heap.size, 0, none⟩ = some (.slice ao2 x.length cap2)) := fun t => World.cell?_alloc_new w2 _ _ 0
      have hs2 : w.heap.size ≤ w2.heap.size := (andThen HR.out.2.2 b2).size
      have HB2 : Hid (Own w.heap.size w2 (.slice ao2 x.length cap2) x ∧ Below wr.heap.size wr w2) := ⟨own_weak ho2 HR.out.2.2.size, b2⟩
      clear ho2 b2
      go_wp2_with (at_builtin; refine wpList_push _ rfl (.tmp 17) (.tmp 19) 41 rfl w.heap.size hin Tryz.underlying41 _ vs rfl (HRA.out _) w2.heap.size (.slice ao2 x.length cap2) rfl (HC2.out _) rfl hvs (by simp; omega) ?_)
      intro v3 w3 hr3 b3 hg3
      have R : Hid (OwnP w.heap.size w3 v3 (ls.take (k + 1)) ∧ Below w.heap.size w w3) := by
        rw [HS.out]
        exact ⟨OwnP.push (HR.out.1.kept (up HB2.out.2 _)) HVL.out (fun j a b => (HR.out.2.1 j a b).kept (up HB2.out.2 _)) (HB2.out.1.kept (up0 _ _)) hr3 hg3, (up (andThen HR.out.2.2 HB2.out.2) _).trans b3⟩
      clear hr3 b3 hg3 HR H1 q1 HS HRA HC2 HB2
      go_wp2
      go_roundw
      case rel => exact ⟨k + 1, by omega, by go_num, R.out.1, R.out.2⟩
      case measure => simp [intOf]; omega
    · rw [List.take_of_length_le (by omega)] at hown
      obtain ⟨a, c, e9⟩ := hown.shape
      obtain rfl : k = ls.length := by omega
      subst e9
      have HO : Hid (OwnP w.heap.size wr (.slice a ls.length c) ls ∧ Below w.heap.size w wr) := ⟨hown, hbel⟩
      clear hown hbel hc
      go_wp2
      go_ret
      exact ⟨a, c, rfl, HO.out.1, HO.out.2⟩
set_option maxRecDepth 100000 in
set_option maxHeartbeats 4000000 in
theorem rxclone_any (S : Sg) (h : SH) (w : World) (k : SgAt w S h) (hi : S.inp.length ≤ 16777216) (hf : S.fail.length ≤ 16777216) (ho : ∀ x ∈ S.outs, x.length ≤ 16777216) (hu : ∀ x ∈ S.und, x.length ≤ 16777216) (hol : S.outs.length ≤ 100000000) (hul : S.und.length ≤ 100000000) :
    Calls Tryz.prog 17 #[sv S h] w fun e w' => ∃ h', e = .returned (sv S h') ∧ SgOwn w.heap.size w' S h' ∧ Below w.heap.size w w' := by
  have HK : Hid (∀ w', Below w.heap.size w w' → SgAt w' S h) := fun w' hb => k.kept hb
  have HBY : Hid (∀ (v : Value) (l : List Nat) (w' : World), Bs w' v l → l.length ≤ 16777216 → Calls Tryz.prog 39 #[v] w' fun e w'' => ∃ a, ∃ c : Nat, e = .returned (.slice a l.length c) ∧ Own w'.heap.size w'' (.slice a l.length c) l ∧ Below w'.heap.size w' w'') := fun v l w' h1 h2 => rxbytes_any v l w' h1 (by omega)
  have HLO : Hid (∀ w', Below w.heap.size w w' → Calls Tryz.prog 40 #[.slice h.ao S.outs.length h.co] w' fun e w'' => ∃ a, ∃ c : Nat, e = .returned (.slice a S.outs.length c) ∧ OwnP w'.heap.size w'' (.slice a S.outs.length c) S.outs ∧ Below w'.heap.size w' w'') := fun w' hb => rxlists_any _ S.outs w' (k.kept hb).outs ho hol
  have HLU : Hid (∀ w', Below w.heap.size w w' → Calls Tryz.prog 40 #[.slice h.au S.und.length h.cu] w' fun e w'' => ∃ a, ∃ c : Nat, e = .returned (.slice a S.und.length c) ∧ OwnP w'.heap.size w'' (.slice a S.und.length c) S.und ∧ Below w'.heap.size w' w'') := fun w' hb => rxlists_any _ S.und w' (k.kept hb).und hu hul
  clear k ho hu hol hul
  obtain ⟨Z, hZ⟩ : ∃ Z, Z = zcl := ⟨_, rfl⟩
  have HZ : Hid (Z = zcl) := hZ
  have HZL : Hid (Z.length = 16) := by show _ = _; rw [hZ]; rfl
  obtain ⟨D, hD, hL, hE⟩ := sv_letter S h
  rw [hD]
  have HE : Hid (D = scl S h) := hE
  have HX : Hid (LB ((w.alloc (.cells D.toArray 43)).alloc (.cells Z.toArray 43)) w.heap.size 43 D ∧ LB ((w.alloc (.cells D.toArray 43)).alloc (.cells Z.toArray 43)) (w.heap.size + 1) 43 Z ∧ Below w.heap.size w ((w.alloc (.cells D.toArray 43)).alloc (.cells Z.toArray 43))) := lb_new2 w D Z _ _
  clear hD hL hE hZ
  go_enter Tryz.func17, Tryz.ntmps17
  go_wp2_with (first | (refine wpList_alloc_Z HZ.out rfl rfl ?_; (try simp only [heap_one]); (obtain ⟨W1, hW1⟩ : ∃ W1, (w.alloc (.cells D.toArray 43)).alloc (.cells Z.toArray 43) = W1 := ⟨_, rfl⟩); (rw [hW1] at HX ⊢); (clear hW1); (have c6 := HX.out.1.cell 6 (.slice h.ai S.inp.length h.ci) (by rw [HE.out]; rfl))) | fail)
  refine (HBY.out _ _ _ (HK.out _ HX.out.2.2).inp hi).mono ?_
  rintro e w1 ⟨a1, c1, rfl, o1, b1⟩
  have H1 : Hid (LB w1 w.heap.size 43 D ∧ LB w1 (w.heap.size + 1) 43 Z ∧ Below w.heap.size w w1 ∧ Own (w.heap.size + 2) w1 (.slice a1 S.inp.length c1) S.inp) := ⟨HX.out.1.kept b1, HX.out.2.1.kept b1, andThen HX.out.2.2 b1, own_weak o1 HX.out.2.1.lt⟩
  clear b1 o1 HX c6
  have c6 := H1.out.1.cell 6 (.slice h.ai S.inp.length h.ci) (by rw [HE.out]; rfl)
  have f6 := H1.out.1.free 6
  have HV2 : Hid (∃ W2, W2 = w1.setCell ⟨w.heap.size, 6, none⟩ (.slice a1 S.inp.length c1) ∧ LB W2 w.heap.size 43 (D.set 6 (.slice a1 S.inp.length c1)) ∧ LB W2 (w.heap.size + 1) 43 Z ∧ Below w.heap.size w W2 ∧ Own (w.heap.size + 2) W2 (.slice a1 S.inp.length c1) S.inp) := ⟨_, rfl, H1.out.1.set _ _, H1.out.2.1.other _ _ (show w.heap.size + 1 ≠ w.heap.size by omega), Below.setCell H1.out.2.2.1 (Nat.le_refl _) _, own_set H1.out.2.2.2 _ _ (show w.heap.size < w.heap.size + 2 by omega)⟩
  obtain ⟨W2, hW2, hq2⟩ := HV2.out
  have H2 : Hid _ := hq2
  have c11 := H2.out.1.cell 11 (.slice h.ao S.outs.length h.co) (by rw [HE.out]; rfl)
  rw [hW2] at c11
  go_wp2_with fail
  rw [← hW2]
  clear hW2 hq2 HV2 H1 c6 f6 c11
  refine (HLO.out _ H2.out.2.2.1).mono ?_
  rintro e w3 ⟨a3, c3, rfl, o3, b3⟩
  have H3 : Hid (LB w3 w.heap.size 43 (D.set 6 (.slice a1 S.inp.length c1)) ∧ LB w3 (w.heap.size + 1) 43 Z ∧ Below w.heap.size w w3 ∧ Own (w.heap.size + 2) w3 (.slice a1 S.inp.length c1) S.inp ∧ OwnP (w.heap.size + 2) w3 (.slice a3 S.outs.length c3) S.outs) := ⟨H2.out.1.kept b3, H2.out.2.1.kept b3, andThen H2.out.2.2.1 b3, H2.out.2.2.2.kept b3, o3.weak H2.out.2.1.lt⟩
  clear b3 o3 H2
  have c11 := H3.out.1.cell 11 (.slice h.ao S.outs.length h.co) (by rw [HE.out]; rfl)
  have f11 := H3.out.1.free 11
  have HV4 : Hid (∃ W4, W4 = w3.setCell ⟨w.heap.size, 11, none⟩ (.slice a3 S.outs.length c3) ∧ LB W4 w.heap.size 43 ((D.set 6 (.slice a1 S.inp.length c1)).set 11 (.slice a3 S.outs.length c3)) ∧ LB W4 (w.heap.size + 1) 43 Z ∧ Below w.heap.size w W4 ∧ Own (w.heap.size + 2) W4 (.slice a1 S.inp.length c1) S.inp ∧ OwnP (w.heap.size + 2) W4 (.slice a3 S.outs.length c3) S.outs) := ⟨_, rfl, H3.out.1.set _ _, H3.out.2.1.other _ _ (show w.heap.size + 1 ≠ w.heap.size by omega), Below.setCell H3.out.2.2.1 (Nat.le_refl _) _, own_set H3.out.2.2.2.1 _ _ (show w.heap.size < w.heap.size + 2 by omega), H3.out.2.2.2.2.setB _ _ (show w.heap.size < w.heap.size + 2 by omega)⟩
  obtain ⟨W4, hW4, hq4⟩ := HV4.out
  have H4 : Hid _ := hq4
  have c12 := H4.out.1.cell 12 (.slice h.au S.und.length h.cu) (by rw [HE.out]; rfl)
  rw [hW4] at c12
  go_wp2_with fail
  rw [← hW4]
  clear hW4 hq4 HV4 H3 c11 f11 c12
  refine (HLU.out _ H4.out.2.2.1).mono ?_
  rintro e w5 ⟨a5, c5, rfl, o5, b5⟩
  have HAP : Hid (∀ g, (Value.slice a3 S.outs.length c3).ownBlock = some g → (Value.slice a5 S.und.length c5).ownBlock ≠ some g) := fun g e1 e2 => by
    have q1 := (H4.out.2.2.2.2.block g e1).2
    have q2 := (o5.block g e2).1
    omega
  have H5 : Hid (LB w5 w.heap.size 43 ((D.set 6 (.slice a1 S.inp.length c1)).set 11 (.slice a3 S.outs.length c3)) ∧ LB w5 (w.heap.size + 1) 43 Z ∧ Below w.heap.size w w5 ∧ Own (w.heap.size + 2) w5 (.slice a1 S.inp.length c1) S.inp ∧ OwnP (w.heap.size + 2) w5 (.slice a3 S.outs.length c3) S.outs ∧ OwnP (w.heap.size + 2) w5 (.slice a5 S.und.length c5) S.und) := ⟨H4.out.1.kept b5, H4.out.2.1.kept b5, andThen H4.out.2.2.1 b5, H4.out.2.2.2.1.kept b5, H4.out.2.2.2.2.kept b5, o5.weak H4.out.2.1.lt⟩
  clear b5 o5 H4
  have c12 := H5.out.1.cell 12 (.slice h.au S.und.length h.cu) (by rw [HE.out]; rfl)
  have f12 := H5.out.1.free 12
  have HV6 : Hid (∃ W6, W6 = w5.setCell ⟨w.heap.size, 12, none⟩ (.slice a5 S.und.length c5) ∧ LB W6 w.heap.size 43 (((D.set 6 (.slice a1 S.inp.length c1)).set 11 (.slice a3 S.outs.length c3)).set 12 (.slice a5 S.und.length c5)) ∧ LB W6 (w.heap.size + 1) 43 Z ∧ Below w.heap.size w W6 ∧ Own (w.heap.size + 2) W6 (.slice a1 S.inp.length c1) S.inp ∧ OwnP (w.heap.size + 2) W6 (.slice a3 S.outs.length c3) S.outs ∧ OwnP (w.heap.size + 2) W6 (.slice a5 S.und.length c5) S.und) := ⟨_, rfl, H5.out.1.set _ _, H5.out.2.1.other _ _ (show w.heap.size + 1 ≠ w.heap.size by omega), Below.setCell H5.out.2.2.1 (Nat.le_refl _) _, own_set H5.out.2.2.2.1 _ _ (show w.heap.size < w.heap.size + 2 by omega), H5.out.2.2.2.2.1.setB _ _ (show w.heap.size < w.heap.size + 2 by omega), H5.out.2.2.2.2.2.setB _ _ (show w.heap.size < w.heap.size + 2 by omega)⟩
  obtain ⟨W6, hW6, hq6⟩ := HV6.out
  have H6 : Hid _ := hq6
  have c15 := H6.out.1.cell 15 (.slice h.af S.fail.length h.cf) (by rw [HE.out]; rfl)
  rw [hW6] at c15
  go_wp2_with fail
  rw [← hW6]
  clear hW6 hq6 HV6 H5 c12 f12 c15
  refine (HBY.out _ _ _ (HK.out _ H6.out.2.2.1).fail hf).mono ?_
  rintro e w7 ⟨a7, c7, rfl, o7, b7⟩
  have H7 : Hid (LB w7 w.heap.size 43 (((D.set 6 (.slice a1 S.inp.length c1)).set 11 (.slice a3 S.outs.length c3)).set 12 (.slice a5 S.und.length c5)) ∧ LB w7 (w.heap.size + 1) 43 Z ∧ Below w.heap.size w w7 ∧ Own (w.heap.size + 2) w7 (.slice a1 S.inp.length c1) S.inp ∧ OwnP (w.heap.size + 2) w7 (.slice a3 S.outs.length c3) S.outs ∧ OwnP (w.heap.size + 2) w7 (.slice a5 S.und.length c5) S.und ∧ Own (w.heap.size + 2) w7 (.slice a7 S.fail.length c7) S.fail) := ⟨H6.out.1.kept b7, H6.out.2.1.kept b7, andThen H6.out.2.2.1 b7, H6.out.2.2.2.1.kept b7, H6.out.2.2.2.2.1.kept b7, H6.out.2.2.2.2.2.kept b7, own_weak o7 H6.out.2.1.lt⟩
  clear b7 o7 H6 HBY HLO HLU HK
  have c15 := H7.out.1.cell 15 (.slice h.af S.fail.length h.cf) (by rw [HE.out]; rfl)
  have f15 := H7.out.1.free 15
  obtain ⟨M, hM, hML, hME⟩ := sv_letter S ⟨a1, c1, a3, c3, a5, c5, a7, c7⟩
  have HMV : Hid (sv S ⟨a1, c1, a3, c3, a5, c5, a7, c7⟩ = .agg M.toArray) := hM
  have HML : Hid _ := hML
  have HME : Hid ((((D.set 6 (.slice a1 S.inp.length c1)).set 11 (.slice a3 S.outs.length c3)).set 12 (.slice a5 S.und.length c5)).set 15 (.slice a7 S.fail.length c7) = M) := by show _ = _; rw [HE.out, hME]; rfl
  have HM1 : Hid (∀ v ∈ M, v.oneCell' = true) := by show ∀ v ∈ M, _; rw [hME]; exact scl_one _ _
  have HMZ : Hid (M.length = Z.length) := by show _ = _; rw [hME, HZL.out]; rfl
  clear hM hML hME
  go_wp2_with (first | (obtain ⟨W8, hW8⟩ : ∃ W8, w7.setCell ⟨w.heap.size, 15, none⟩ (.slice a7 S.fail.length c7) = W8 := ⟨_, rfl⟩; (have H8 : Hid (LB W8 w.heap.size 43 M ∧ LB W8 (w.heap.size + 1) 43 Z ∧ Below w.heap.size w W8 ∧ Own (w.heap.size + 2) W8 (.slice a1 S.inp.length c1) S.inp ∧ OwnP (w.heap.size + 2) W8 (.slice a3 S.outs.length c3) S.outs ∧ OwnP (w.heap.size + 2) W8 (.slice a5 S.und.length c5) S.und ∧ Own (w.heap.size + 2) W8 (.slice a7 S.fail.length c7) S.fail) := by rw [← hW8, ← HME.out]; exact ⟨H7.out.1.set _ _, H7.out.2.1.other _ _ (show w.heap.size + 1 ≠ w.heap.size by omega), Below.setCell H7.out.2.2.1 (Nat.le_refl _) _, own_set H7.out.2.2.2.1 _ _ (show w.heap.size < w.heap.size + 2 by omega), H7.out.2.2.2.2.1.setB _ _ (show w.heap.size < w.heap.size + 2 by omega), H7.out.2.2.2.2.2.1.setB _ _ (show w.heap.size < w.heap.size + 2 by omega), own_set H7.out.2.2.2.2.2.2 _ _ (show w.heap.size < w.heap.size + 2 by omega)⟩); (rw [hW8]); (clear hW8); (refine wpList_load_mid rfl 43 _ rfl w.heap.size 0 rfl M _ H8.out.1.range Tryz.underlying43 rfl HML.out ?_)) | (refine wpList_store_mid rfl 43 (.tmp 2) (.tmp 19) rfl (w.heap.size + 1) 0 M.toArray rfl rfl (there_of H8.out.2.1 (by simpa using HMZ.out)) (by simpa using HML.out) (all_oneCell_toArray HM1.out) ?_; (rw [List.toList_toArray])) | fail)
  have HR9 : Hid ((W8.setCells (w.heap.size + 1) 0 M).rangeAt (w.heap.size + 1) 0 M) := (H8.out.2.1.sets M HMZ.out).range
  refine bodyPost_ret (results_cell_mid rfl _ (W8.setCells (w.heap.size + 1) 0 M) (w.heap.size + 1) M _ rfl HR9.out Tryz.underlying43 rfl HML.out) rfl ?_
  exact ⟨⟨a1, c1, a3, c3, a5, c5, a7, c7⟩, by rw [HMV.out], ⟨own_weak (B2 := w.heap.size + 2) (Own.cells H8.out.2.2.2.1 (w.heap.size + 1) 0 M (by omega)) (by omega), (H8.out.2.2.2.2.1.setsB (w.heap.size + 1) 0 M (by omega)).weak (by omega), (H8.out.2.2.2.2.2.1.setsB (w.heap.size + 1) 0 M (by omega)).weak (by omega), own_weak (B2 := w.heap.size + 2) (Own.cells H8.out.2.2.2.2.2.2 (w.heap.size + 1) 0 M (by omega)) (by omega), HAP.out⟩, below_cells (by omega) _ 0 _ H8.out.2.2.1⟩
end Go.Proofs.YtdnackjakfiffaaGreatDoor

/-
  Replay: a saga's story folds to it.
-/
namespace Go.Proofs.YtdnackjakfiffaaGreatDoor
open Go Go.RowKit Go.ChangeShapes
open Wb

theorem apply_v3 (S : Sg) (r : Rec) (hc : chkS S = true) (hv : V3 r) (h3 : r.x.v = 3) (h0 : refP S.x r.x = 0) : applyP S r = (0, deedS S r) := by
  unfold applyP
  rw [up_v3 r hv h3, if_neg (by simp [hc]), if_neg (by simp), if_neg (by simpa using h0)]
theorem fit_v3 (r : Rec) (hv : V3 r) (hs : r.x.s ≤ 9223372036854775807) : r.x.fit := by
  obtain ⟨v1, v2, v3, vk⟩ := hv
  intro t h1 h9
  unfold Nums.tag
  obtain rfl | rfl | rfl | rfl | rfl | rfl | rfl | rfl | rfl : t = 1 ∨ t = 2 ∨ t = 3 ∨ t = 4 ∨ t = 5 ∨ t = 6 ∨ t = 7 ∨ t = 8 ∨ t = 9 := by omega
  all_goals
    simp
    omega
theorem v3_stB (S : Sg) (h : chkS S = true) : V3 (stB S) ∧ (stB S).x.fit := by
  obtain ⟨⟨b1, b2, b3, b4, b5, b6, b7, b8, b9, b10, b11⟩, h1⟩ := (chkS_iff S).1 h
  have hv : V3 (stB S) := ⟨b2.1, b5.1, b5.2, .inl ⟨rfl, rfl, rfl, rfl, rfl, b3.1, b3.2, b4.1, b4.2, by show lab S.nm = 0; unfold lab; rw [if_pos b1], b8⟩⟩
  exact ⟨hv, fit_v3 _ hv b2.2⟩
theorem begin_stB (S : Sg) (h : chkS S = true) : beginP (stB S) = (0, stO S S.x.beg 0) := by
  unfold beginP
  rw [up_v3 _ (v3_stB S h).1 rfl, if_neg (by simp), if_neg (by simp [stB])]
  simp [stO, stB]
theorem v3_nm (r : Rec) (h : V3 r) (hk : r.x.k ≠ 1) : r.nm.size ≤ 140737488355000 := by
  obtain ⟨_, _, _, h1 | h1 | h1 | h1 | h1⟩ := h
  · exact absurd h1.1 hk
  · rw [h1.2.2.2.2.2.2.2.2.2.1]; decide
  · rw [h1.2.2.2.2.2.2.2.2.1]; decide
  · rw [h1.2.2.2.2.2.2.2.2.2.2.1]; decide
  · rw [h1.2.2.2.2.2.2.2.2.1]; decide
theorem story_lenC (S : Sg) (h : chkS S = true) : (storyP S).length ≤ 3000 := by
  obtain ⟨q1, q2, q3, q4, _⟩ := story_bnds S h
  have h1 := failL_lenC S
  have h2 := trL_lenC S (trK S) S.x.turn S.x.tr.toNat 0
  have h3 : (endL S).length ≤ 1 := by unfold endL; split <;> simp
  simp only [storyP, storyT, List.length_cons, List.length_append, outL_lenC]
  omega
/-- what Apply makes of it -/
theorem story_step (Q S : Sg) (r : Rec) (rs : List Rec) (hc : chkS Q = true) (hl : Leads Q (r :: rs) S) : applyP Q r = (0, deedS Q r) ∧ chkS (deedS Q r) = true ∧ r.nm.size ≤ 140737488355000 ∧ r.x.fit ∧ Leads (deedS Q r) rs S := by
  obtain ⟨hv, h3, h0, h4⟩ := hl
  have hz := ref_zero h0
  obtain ⟨⟨_, b2, _⟩, _⟩ := (chkS_iff Q).1 hc
  exact ⟨apply_v3 Q r hc hv h3 h0, chkS_deed Q r hc hv h0, v3_nm r hv hz.2.1, fit_v3 r hv (by rw [hz.1]; exact b2.2), h4⟩
namespace Rp
theorem put_put {α : Type} : ∀ (l : Mv.L α) (k : Int) (a b : α), Mv.put (Mv.put l k a) k b = Mv.put l k b
  | [], k, a, b => by simp [Mv.put]
  | (k', c) :: r, k, a, b => by
    by_cases h1 : k < k'
    · simp [Mv.put, h1]
    · by_cases h2 : k' = k
      · subst h2
        simp [Mv.put]
      · simp [Mv.put, h1, h2, put_put r k a b]
theorem put_mid {α : Type} (id : Int) (S : α) : ∀ (G : Mv.L α) (j : Nat), (∀ p ∈ G.take j, p.1 < id) → (∀ p ∈ G.drop j, id < p.1) → Mv.put G id S = G.take j ++ (id, S) :: G.drop j
  | [], j, _, _ => by simp [Mv.put]
  | (k', c) :: r, 0, _, h => by
    have : id < k' := h (k', c) (by simp)
    simp [Mv.put, this]
  | (k', c) :: r, j + 1, h1, h2 => by
    have h3 : k' < id := h1 (k', c) (by simp)
    have h4 : ¬ id < k' := by omega
    have h5 : ¬ k' = id := by omega
    have e := put_mid id S r j (fun p hp => h1 p (by simp [hp])) (fun p hp => h2 p (by simpa using hp))
    simp [Mv.put, h4, h5, e]
theorem deed_id (S : Sg) (r : Rec) : (deedS S r).x.id = S.x.id := by
  unfold deedS
  repeat' split
  all_goals rfl
theorem fold_leads : ∀ (rs : List Rec) (Q S : Sg) (G : Gs), chkS Q = true → Leads Q rs S → fold (Mv.put G Q.x.id Q) rs = (rs.length, Mv.put G Q.x.id S) ∧ S.x.id = Q.x.id
  | [], Q, S, G, _, h => by cases h; exact ⟨rfl, rfl⟩
  | r :: rs, Q, S, G, hc, h => by
    obtain ⟨h1, h2, _, _, h5⟩ := story_step Q S r rs hc h
    have hs : r.x.s = Q.x.id := (ref_zero h.2.2.1).1
    have e : step (Mv.put G Q.x.id Q) r = (0, deedS Q r) := by
      unfold step
      rw [hs, Mv.get_put, if_pos rfl]
      exact h1
    have ih := fold_leads rs (deedS Q r) S G h2 h5
    rw [deed_id] at ih
    rw [fold_cons, e, if_pos rfl]
    simp only
    rw [hs, put_put, ih.1]
    exact ⟨rfl, ih.2⟩
theorem fold_story (G : Gs) (S : Sg) (hc : chkS S = true) (hok : ok S.inp) (hfc : -9223372036854775808 ≤ S.x.fc ∧ S.x.fc ≤ 9223372036854775807) (hn : Mv.get G S.x.id = none) : fold G (storyP S) = ((storyP S).length, Mv.put G S.x.id S) := by
  have hb := begin_stB S hc
  have e : step G (stB S) = (0, stO S S.x.beg 0) := by
    unfold step
    rw [show (stB S).x.s = S.x.id from rfl, hn]
    exact hb
  have hg := begin_good (stB S) hok (v3_stB S hc).2 (by rw [hb])
  rw [hb] at hg
  have hl := (fold_leads (storyT S) (stO S S.x.beg 0) S G hg.1 (story_leads S hc hfc)).1
  rw [show (stO S S.x.beg 0).x.id = S.x.id from rfl] at hl
  unfold storyP
  rw [fold_cons, e, if_pos rfl]
  simp only
  rw [show (stB S).x.s = S.x.id from rfl, hl]
  rfl
theorem fold_app : ∀ (a b : List Rec) (G G' : Gs), fold G a = (a.length, G') → fold G (a ++ b) = (a.length + (fold G' b).1, (fold G' b).2)
  | [], b, G, G', h => by
    simp only [fold, Prod.mk.injEq] at h
    obtain ⟨_, rfl⟩ := h
    simp
  | r :: a, b, G, G', h => by
    rw [fold_cons] at h
    rw [List.cons_append, fold_cons]
    split at h
    · rename_i h0
      rw [if_pos h0]
      simp only [Prod.mk.injEq, List.length_cons] at h
      have ih := fold_app a b _ G' (Prod.ext (by simpa using h.1) h.2)
      rw [ih, List.length_cons]
      simp only [Prod.mk.injEq, and_true]
      omega
    · simp at h
theorem leads_fg : ∀ (rs : List Rec) (Q S : Sg), chkS Q = true → Leads Q rs S → Fg rs
  | [], _, _, _, _ => fun r h => by cases h
  | r :: rs, Q, S, hc, h => by
    obtain ⟨_, h2, h3, h4, h5⟩ := story_step Q S r rs hc h
    intro q hq
    rcases List.mem_cons.1 hq with rfl | hq
    · exact ⟨h3, h4⟩
    · exact leads_fg rs (deedS Q r) S h2 h5 q hq
theorem story_fg (S : Sg) (hc : chkS S = true) (hok : ok S.inp) (hfc : -9223372036854775808 ≤ S.x.fc ∧ S.x.fc ≤ 9223372036854775807) (hnm : S.nm.size ≤ 140737488355000) : Fg (storyP S) := by
  have hb := begin_stB S hc
  have hg := begin_good (stB S) hok (v3_stB S hc).2 (by rw [hb])
  rw [hb] at hg
  intro q hq
  rcases List.mem_cons.1 hq with rfl | hq
  · exact ⟨hnm, (v3_stB S hc).2⟩
  · exact leads_fg _ _ _ hg.1 (story_leads S hc hfc) q hq
end Rp
end Go.Proofs.YtdnackjakfiffaaGreatDoor

/-
  Replay: sagas to be read anywhere; a row of sagas whose bytes lie anywhere.
-/
namespace Go.Proofs.YtdnackjakfiffaaGreatDoor
open Go Go.RowKit Go.ChangeShapes
open Wb

/-- sagas to be read, anywhere -/
def SgQ (w : World) (v : Value) (Ss : List Sg) : Prop := ∃ ao, ∃ cap : Nat, v = .slice ao Ss.length cap ∧ Ss.length ≤ maxLen ∧ ∀ k S, Ss[k]? = some S → ∃ b off h, ao = some ⟨b, off, none⟩ ∧ w.rangeAt b (off + k * 16) (scl S h) ∧ SgAt w S h
theorem SgQ.kept {w w' : World} {v : Value} {Ss : List Sg} (h : SgQ w v Ss) (hb : Below w.heap.size w w') : SgQ w' v Ss := by
  obtain ⟨ao, cap, e, hm, hc⟩ := h
  refine ⟨ao, cap, e, hm, fun k S hk => ?_⟩
  obtain ⟨b, off, sh, e2, h1, h2⟩ := hc k S hk
  exact ⟨b, off, sh, e2, range_kept h1 hb, h2.kept hb⟩
set_option maxRecDepth 100000 in
set_option maxHeartbeats 8000000 in
theorem rysame_q (c : Int) (v v2 : Value) (Ss : List Sg) (w : World) (h : SgR w v Ss) (h2 : SgQ w v2 Ss) :
    Calls Tryz.prog 12 #[.agg #[.int .i64 c, v], .agg #[.int .i64 c, v2]] w fun e w' => e = .returned (.bool true) ∧ Below w.heap.size w w' := by
  have HR1 : Hid (∀ W, Below w.heap.size w W → SgR W v Ss) := fun W hW => h.kept hW
  have HR2 : Hid (∀ W, Below w.heap.size w W → SgQ W v2 Ss) := fun W hW => h2.kept hW
  have HCL : Hid (∀ (S : Sg) (s s2 : SH) (W : World), SgO 0 W S s → SgAt W S s2 → Calls Tryz.prog 19 #[sv S s, sv S s2] W fun e w' => e = .returned (.bool true) ∧ Below W.heap.size W w') := fun S s s2 W k k2 => same_any S s s2 W k.at k2
  obtain ⟨a1, c1, rfl, hm, -⟩ := h
  obtain ⟨a2, c2, rfl, -⟩ := h2
  unfold maxLen at hm
  have HX : Hid (LB ((w.alloc (.cells #[.int .i64 c, .slice a1 Ss.length c1] 27)).alloc (.cells #[.int .i64 c, .slice a2 Ss.length c2] 27)) w.heap.size 27 [.int .i64 c, .slice a1 Ss.length c1] ∧ LB ((w.alloc (.cells #[.int .i64 c, .slice a1 Ss.length c1] 27)).alloc (.cells #[.int .i64 c, .slice a2 Ss.length c2] 27)) (w.heap.size + 1) 27 [.int .i64 c, .slice a2 Ss.length c2] ∧ Below w.heap.size w ((w.alloc (.cells #[.int .i64 c, .slice a1 Ss.length c1] 27)).alloc (.cells #[.int .i64 c, .slice a2 Ss.length c2] 27))) := lb_new2 w _ _ _ _
  have x0 := HX.out.1.cell 0 _ rfl
  have x1 := HX.out.1.cell 1 _ rfl
  have y0 := HX.out.2.1.cell 0 _ rfl
  have y1 := HX.out.2.1.cell 1 _ rfl
  have d0 : (c != c) = false := by simp
  have d1 : ((Ss.length : Int) != (Ss.length : Int)) = false := by simp
  go_enter Tryz.func12, Tryz.ntmps12
  go_wp2_with fail
  clear x0 x1 y0 y1 d0 d1
  go_loopw [5] (fun i wr => ∃ k : Nat, k ≤ Ss.length ∧ i = .int .i64 (k : Int) ∧ LB wr w.heap.size 27 [.int .i64 c, .slice a1 Ss.length c1] ∧ LB wr (w.heap.size + 1) 27 [.int .i64 c, .slice a2 Ss.length c2] ∧ Below w.heap.size w wr) (fun i _ => Ss.length - (mInt i).toNat)
  case atStart => exact ⟨0, Nat.zero_le _, rfl, HX.out⟩
  case round =>
    obtain ⟨k, hk, rfl, q1, q2, q3⟩ := hrel
    have HI : Hid (LB wr w.heap.size 27 [.int .i64 c, .slice a1 Ss.length c1] ∧ LB wr (w.heap.size + 1) 27 [.int .i64 c, .slice a2 Ss.length c2] ∧ Below w.heap.size w wr) := ⟨q1, q2, q3⟩
    have x1 := HI.out.1.cell 1 _ rfl
    have y1 := HI.out.2.1.cell 1 _ rfl
    clear q1 q2 q3 HX
    by_cases hlt : k < Ss.length
    · obtain ⟨b9, c9, e9, -, -, hc1⟩ := HR1.out _ HI.out.2.2
      obtain ⟨b8, c8, e8, -, hc2⟩ := HR2.out _ HI.out.2.2
      simp only [Value.slice.injEq, true_and] at e9 e8
      obtain ⟨rfl, rfl⟩ := e9
      obtain ⟨rfl, rfl⟩ := e8
      obtain ⟨b1, o1, s1, rfl, hr1, hs1⟩ := hc1 k Ss[k] (List.getElem?_eq_getElem hlt)
      obtain ⟨b2, o2, s2, rfl, hr2, hs2⟩ := hc2 k Ss[k] (List.getElem?_eq_getElem hlt)
      obtain ⟨S, hS⟩ : ∃ S, Ss[k] = S := ⟨_, rfl⟩
      rw [hS] at hr1 hr2 hs1 hs2
      obtain ⟨D1, hD1, hL1, hE1⟩ := sv_letter S s1
      obtain ⟨D2, hD2, hL2, hE2⟩ := sv_letter S s2
      have HL1 : Hid _ := hL1
      have HL2 : Hid _ := hL2
      have HG1 : Hid (∀ W, Below wr.heap.size wr W → W.rangeAt b1 (o1 + k * 16) D1) := fun W hW j u hj => by
        rw [hE1] at hj
        exact (hW.cell (p := ⟨b1, o1 + k * 16 + j, none⟩) (World.block_lt_of_cell? _ _ (hr1 j u hj))).trans (hr1 j u hj)
      have HG2 : Hid (∀ W, Below wr.heap.size wr W → W.rangeAt b2 (o2 + k * 16) D2) := fun W hW j u hj => by
        rw [hE2] at hj
        exact (hW.cell (p := ⟨b2, o2 + k * 16 + j, none⟩) (World.block_lt_of_cell? _ _ (hr2 j u hj))).trans (hr2 j u hj)
      have HC : Hid (∀ W, Below wr.heap.size wr W → Calls Tryz.prog 19 #[.agg D1.toArray, .agg D2.toArray] W fun e w' => e = .returned (.bool true) ∧ Below W.heap.size W w') := fun W hW => by
        have e := HCL.out S s1 s2 W (hs1.kept hW) (hs2.kept hW)
        rw [hD1, hD2] at e
        exact e
      clear hc1 hc2 hr1 hr2 hs1 hs2 hS hD1 hL1 hE1 hD2 hL2 hE2 HR1 HR2
      go_upto_region 6 with fail
      clear x1 y1
      have HCK : Hid (∀ W, Below wr.heap.size wr W → (fun w' : World => w'.cell? ⟨w.heap.size, 1, none⟩ = some (.slice (some ⟨b1, o1, none⟩) Ss.length c1) ∧ w'.cell? ⟨w.heap.size + 1, 1, none⟩ = some (.slice (some ⟨b2, o2, none⟩) Ss.length c2) ∧ w'.rangeAt b1 (o1 + k * 16) D1 ∧ w'.rangeAt b2 (o2 + k * 16) D2) W) := fun W hW => ⟨(HI.out.1.kept hW).cell 1 _ rfl, (HI.out.2.1.kept hW).cell 1 _ rfl, HG1.out W hW, HG2.out W hW⟩
      refine wp_region_held_drew (S := fun w' : World => w'.cell? ⟨w.heap.size, 1, none⟩ = some (.slice (some ⟨b1, o1, none⟩) Ss.length c1) ∧ w'.cell? ⟨w.heap.size + 1, 1, none⟩ = some (.slice (some ⟨b2, o2, none⟩) Ss.length c2) ∧ w'.rangeAt b1 (o1 + k * 16) D1 ∧ w'.rangeAt b2 (o2 + k * 16) D2) (by kernel_rfl) (HCK.out _ (Below.drew (Below.refl _ _))) (fun hH => ?_)
      obtain ⟨WV, hWV⟩ : ∃ x, x = wr.drew := ⟨_, rfl⟩
      have HBV : Hid (Below wr.heap.size wr WV) := by rw [hWV]; exact Below.drew (Below.refl _ _)
      rw [← hWV]
      clear hWV hH
      have kv := HCK.out WV HBV.out
      refine zqk 0 rfl kv ?_
      try simp only [Act.put, zq1, zq2, zq3, zq4, zq5]
      refine zqk 1 rfl kv ?_
      try simp only [Act.put, zq1, zq2, zq3, zq4, zq5, zq6]
      refine zqk 2 rfl kv ?_
      try simp only [Act.put, zq1, zq2, zq3, zq4, zq5, zq6]
      refine zqk 3 rfl kv ?_
      try simp only [Act.put, zq1, zq2, zq3, zq4, zq5, zq6]
      refine zql 4 rfl (yieldsIf_load_mid rfl 43 (.tmp 30) rfl b1 (o1 + k * 16) rfl D1 _ (fun w' hw => hw.2.2.1) Tryz.underlying43 rfl HL1.out) kv ?_
      try simp only [Act.put, zq1, zq2, zq3, zq4, zq5, zq6]
      refine zqk 5 rfl kv ?_
      try simp only [Act.put, zq1, zq2, zq3, zq4, zq5, zq6]
      refine zqk 6 rfl kv ?_
      try simp only [Act.put, zq1, zq2, zq3, zq4, zq5, zq6]
      refine zqk 7 rfl kv ?_
      try simp only [Act.put, zq1, zq2, zq3, zq4, zq5, zq6]
      refine zqk 8 rfl kv ?_
      try simp only [Act.put, zq1, zq2, zq3, zq4, zq5, zq6]
      refine zql 9 rfl (yieldsIf_load_mid rfl 43 (.tmp 35) rfl b2 (o2 + k * 16) rfl D2 _ (fun w' hw => hw.2.2.2) Tryz.underlying43 rfl HL2.out) kv ?_
      try simp only [Act.put, zq1, zq2, zq3, zq4, zq5, zq6]
      refine zqr 10 rfl (fun K hK => ?_)
      go_simp
      refine (HC.out _ HBV.out).mono ?_
      rintro e w4 ⟨rfl, b4⟩
      have HB4 : Hid (Below wr.heap.size wr w4) := andThen HBV.out b4
      refine hK.out _ _ (HCK.out _ HB4.out) fun _ => ?_
      clear hK K b4
      try simp only [Act.put, zq1, zq2, zq3, zq4, zq5, zq6]
      have kv := HCK.out w4 HB4.out
      refine zqk 11 rfl kv ?_
      try simp only [Act.put, zq1, zq2, zq3, zq4, zq5, zq6]
      refine wpAnyH_done (by kernel_rfl) ?_ _
      try simp only [Act.put, zq1, zq2, zq3, zq4, zq5, zq6]
      clear kv HCK
      go_wp2_with fail
      go_roundw
      case rel => exact ⟨k + 1, by omega, by go_num, HI.out.1.kept HB4.out, HI.out.2.1.kept HB4.out, andThen HI.out.2.2 HB4.out⟩
      case measure => simp [mInt]; omega
    · obtain rfl : k = Ss.length := by omega
      go_wp2_with fail
      go_ret
      exact ⟨rfl, HI.out.2.2⟩
/-- blocks of other types stay -/
def TK (t0 : TypeId) (w w' : World) : Prop := ∀ (b : Nat) (cs : Array Value) (t : TypeId) (z : Nat × Nat), t ≠ t0 → w.heap[b]? = some (.cells cs t z) → w'.heap[b]? = w.heap[b]?
/-- a row of sagas of the call's own -/
def Wt (B : Nat) (w : World) (v : Value) (ps : List (Sg × SH)) : Prop := w.ownsRow B 43 16 v ps.length (ps.flatMap scf)
theorem Wt.nil (B : Nat) (w : World) : Wt B w (.slice none 0 0) [] := World.ownsRow_nil _ _ _ _
theorem Wt.kept {B : Nat} {w w' : World} {v : Value} {ps : List (Sg × SH)} (h : Wt B w v ps) (hb : Below w.heap.size w w') : Wt B w' v ps := rowG_keptB h fun g e => hb.block g (World.ownsRow.lt h g e).2
theorem Wt.at {B : Nat} {w : World} {v : Value} {ps : List (Sg × SH)} (h : Wt B w v ps) (hne : 0 < ps.length) : ∃ g, ∃ cap : Nat, v = .slice (some ⟨g, 0, none⟩) ps.length cap ∧ B ≤ g ∧ g < w.heap.size ∧ ps.length ≤ cap ∧ cap ≤ maxLen ∧ (∃ cs z, w.heap[g]? = some (.cells cs 43 z)) ∧ ∀ k (hk : k < ps.length), w.rangeAt g (k * 16) (scf ps[k]) := by
  have h0 := h
  rcases h.2 with ⟨_, h1⟩ | ⟨g, cap, cur, rfl, hb, hg, h1, h2, h3, h4⟩
  · omega
  · refine ⟨g, cap, rfl, hb, (Array.getElem?_eq_some_iff.1 hg).1, h1, h2, ⟨_, _, hg⟩, fun k hk j u hu => ?_⟩
    have hj : j < 16 := (List.getElem?_eq_some_iff.1 hu).1
    have hl := scf_len ps
    rw [← hu, ← scf_get ps k hk j hj]
    exact World.ownsRow.cellAt h0 (k * 16 + j) (by rw [Nat.mul_comm]; omega)
theorem Wt.sgq {B : Nat} {w : World} {v : Value} {ps : List (Sg × SH)} (h : Wt B w v ps) (hs : ∀ p ∈ ps, SgAt w p.1 p.2) : SgQ w v (ps.map (·.1)) := by
  rcases Nat.eq_zero_or_pos ps.length with h0 | h0
  · obtain rfl := List.length_eq_zero_iff.1 h0
    rcases h.2 with ⟨rfl, _⟩ | ⟨g, cap, cur, rfl, hb, hg, h1, h2, h3, h4⟩
    · exact ⟨none, 0, rfl, by simp [maxLen], fun k S e => by simp at e⟩
    · exact ⟨_, cap, rfl, by simp [maxLen], fun k S e => by simp at e⟩
  · obtain ⟨g, cap, rfl, _, _, h1, h2, _, hr⟩ := h.at h0
    refine ⟨_, cap, by rw [List.length_map], by rw [List.length_map]; exact Nat.le_trans h1 h2, fun k S e => ?_⟩
    rw [List.getElem?_map] at e
    obtain ⟨p, hp, rfl⟩ := Option.map_eq_some_iff.1 e
    obtain ⟨hk, rfl⟩ := List.getElem?_eq_some_iff.1 hp
    exact ⟨g, 0, _, rfl, by rw [Nat.zero_add]; exact hr k hk, hs _ (List.getElem_mem hk)⟩
/-- one of them is another one -/
theorem Wt.put {B g : Nat} {w : World} {v : Value} {n cap : Nat} {ps : List (Sg × SH)} (h : Wt B w v ps) (hv : v = .slice (some ⟨g, 0, none⟩) n cap) (k : Nat) (hk : k < ps.length) (q : Sg × SH) : Wt B (w.setCells g (k * 16) (scf q)) v (ps.set k q) := by
  have hl0 := scf_len ps
  have hl1 := scf_len (ps.set k q)
  rw [List.length_set] at hl1
  have hq : (scf q).length = 16 := rfl
  rcases h.2 with ⟨e, h1⟩ | ⟨g', cap', cur, e, hb, hg, h1, h2, h3, h4⟩
  · rw [hv] at e
    cases e
  · rw [hv] at e
    simp only [Value.slice.injEq, Option.some.injEq, Addr.mk.injEq, and_true] at e
    obtain ⟨rfl, hn, rfl⟩ := e
    have hcur : cur.toList.length = cap * 16 := by simpa using h3
    have L : LB w g 43 cur.toList := by
      show w.heap[g]? = _
      rw [hg, Array.toArray_toList]
    have L2 := LB.sets_at (scf q) (k * 16) w cur.toList L (by rw [hq]; omega)
    have hA : ((ps.take k).flatMap scf).length = k * 16 := by rw [scf_len, List.length_take, Nat.min_eq_left (Nat.le_of_lt hk)]
    have e1 : ps.flatMap scf = (ps.take k).flatMap scf ++ (scf ps[k] ++ (ps.drop (k + 1)).flatMap scf) := by
      have e2 : ps = ps.take k ++ ps[k] :: ps.drop (k + 1) := by rw [← List.drop_eq_getElem_cons hk, List.take_append_drop]
      have e3 : ps.flatMap scf = (ps.take k ++ ps[k] :: ps.drop (k + 1)).flatMap scf := congrArg (List.flatMap scf) e2
      rw [e3, List.flatMap_append, List.flatMap_cons]
    have e4 : (ps.set k q).flatMap scf = (ps.take k).flatMap scf ++ (scf q ++ (ps.drop (k + 1)).flatMap scf) := by
      rw [List.set_eq_take_append_cons_drop, if_pos hk, List.flatMap_append, List.flatMap_cons]
    have e5 : cur.toList = (ps.take k).flatMap scf ++ (scf ps[k] ++ ((ps.drop (k + 1)).flatMap scf ++ cur.toList.drop (ps.length * 16))) := by
      have e6 := List.take_append_drop (ps.length * 16) cur.toList
      rw [h4, e1, List.append_assoc, List.append_assoc] at e6
      exact e6.symm
    have e7 : cur.toList.take (k * 16) = (ps.take k).flatMap scf := by
      rw [e5, ← hA]
      exact List.take_left
    have e8 : cur.toList.drop (k * 16 + (scf q).length) = (ps.drop (k + 1)).flatMap scf ++ cur.toList.drop (ps.length * 16) := by
      have e9 : cur.toList.drop (k * 16) = scf ps[k] ++ ((ps.drop (k + 1)).flatMap scf ++ cur.toList.drop (ps.length * 16)) := by
        have e10 := congrArg (List.drop (k * 16)) e5
        rw [e10, ← hA]
        exact List.drop_left
      rw [← List.drop_drop, e9]
      exact List.drop_left (l₁ := scf ps[k])
    have e11 : cur.toList.take (k * 16) ++ scf q ++ cur.toList.drop (k * 16 + (scf q).length) = (ps.set k q).flatMap scf ++ cur.toList.drop (ps.length * 16) := by
      rw [e7, e8, e4, List.append_assoc, List.append_assoc, List.append_assoc]
    rw [e11] at L2
    refine ⟨by rw [List.length_set]; exact hl1, .inr ⟨g, cap, _, by rw [hv, List.length_set, hn], hb, L2, by rw [List.length_set]; exact h1, h2, ?_, ?_⟩⟩
    · rw [List.size_toArray, List.length_append, hl1, List.length_drop, hcur]
      have : ps.length * 16 ≤ cap * 16 := Nat.mul_le_mul_right 16 h1
      omega
    · rw [List.length_set, ← hl1]
      exact List.take_left
/-- append(v, x...) of records, a statement -/
theorem wpList_append_rrs {w : World} {ops : Array Oper} {rest : List Oper} {o : Oper} {a : Act} {Q : Exit → Act → World → Prop} (hgd : o.guard = none) (s x : Operand)
    (ho : o.op = .call { callee := .builtin .append, args := #[s, x], argTypes := #[22, 22] })
    (B : Nat) (v v2 : Value) (ps : List (Rec × Value)) (qs : List Rec) (hv : a.eval s = v) (hx : a.eval x = v2) (h : Rr B w v ps) (h2 : RcY w v2 qs)
    (hmax : (ps.length + qs.length) * 120 ≤ 140737488355328) (hB : B ≤ w.heap.size)
    (hK : ∀ v' w' ps', Rr B w' v' ps' → ps'.map Prod.fst = ps.map Prod.fst ++ qs → Below B w w' → TK 32 w w' → wpList Tryz.prog ops Q rest (a.put o.dst v') w') : wpList Tryz.prog ops Q (o :: rest) a w := by
  refine wpList_plain hgd fun K hK2 => ?_
  obtain ⟨i0, hi, hz0, hz1, hz2⟩ := Lft.info_parts3 infoR12
  obtain ⟨qs', hq1, hq2, ao, cap, rfl, hqn, hqm, hcap0, hq3⟩ := rcy_choose h2
  have hql : qs'.length = qs.length := by rw [← hq1, List.length_map]
  cases ao with
  | none =>
    have hq0 : qs' = [] := by
      cases qs' with
      | nil => rfl
      | cons p r =>
        obtain ⟨b, off, e, _⟩ := hq3 0 (by simp)
        cases e
    subst hq0
    obtain rfl : qs = [] := by rw [← hq1]; rfl
    have hx0 : a.eval x = .slice none 0 0 := by
      rw [hx, hcap0 rfl]
      rfl
    have hrun := run_append_owned_none (P := Tryz.prog) (w := w) B 22 o.type 32 i0 12 Tryz.underlying22 hi v ps.length (ps.flatMap rcl) h.1
    unfold Oper.wp
    simp [execOp, ho, resolve, invoke, builtin, hv, hx0, hrun, Result.andThen]
    exact hK2 _ _ (hK v w ps h (by rw [List.append_nil]) (Below.refl _ _) fun _ _ _ _ _ _ => rfl)
  | some a2 =>
    obtain ⟨v', w', hrun, h3, h4, _⟩ := run_append_own (P := Tryz.prog) w B 22 o.type 32 i0 _ 12 120 Tryz.underlying22 hi hz0 hz1 hz2 rfl (by decide) v ps.length (ps.flatMap rcl) h.1 a2 qs.length cap (qs'.flatMap rcl) (by rw [rcls_len, hql]) (by
      intro j u hj
      have hjl := (List.getElem?_eq_some_iff.1 hj).1
      rw [rcls_len] at hjl
      have hk : j / 12 < qs'.length := by omega
      have hj2 : j = j / 12 * 12 + j % 12 := by omega
      obtain ⟨b, off, e, hr⟩ := hq3 (j / 12) hk
      obtain rfl := Option.some.inj e
      rw [hj2, rcls_get qs' (j / 12) hk (j % 12) (by omega)] at hj
      have h9 := hr (j % 12) u hj
      rw [Addr.add_mid, show off + j = off + j / 12 * 12 + j % 12 by omega]
      exact h9) (by
      intro u hu
      obtain ⟨q, hq, hu⟩ := List.mem_flatMap.1 hu
      have hqo : q.2.oneCell' = true := by
        obtain ⟨ao, cp, e, _⟩ := (hq2 q hq).1.shape
        rw [e]; rfl
      simp only [rcl, List.mem_cons, List.not_mem_nil, or_false] at hu
      rcases hu with rfl | rfl | rfl | rfl | rfl | rfl | rfl | rfl | rfl | rfl | rfl | rfl
      all_goals first | rfl | exact hqo) (by unfold maxLen; omega) (by omega) hB
    unfold Oper.wp
    simp [execOp, ho, resolve, invoke, builtin, hv, hx, hrun, Result.andThen]
    have hk : KTB w w' := KTB.grown h4 fun b e cs ty z e2 => by
      obtain ⟨cs', z', h9⟩ := rrow_typed h.1 b e
      rw [h9] at e2
      simp at e2
      obtain ⟨-, rfl, -⟩ := e2
      decide
    refine hK2 _ _ (hK v' w' (ps ++ qs') ⟨by rw [List.length_append, List.flatMap_append, hql]; exact h3, fun p hp => ?_⟩ (by rw [List.map_append, hq1]) ((Below.refl B w).grown h4 hB (fun k hk => (World.ownsRow.lt h.1 k hk).1)) fun b cs t z ht e => h4.block b (Array.getElem?_eq_some_iff.1 e).1 fun e3 => ?_)
    · rcases List.mem_append.1 hp with hp | hp
      · exact (h.2 p hp).keep hk
      · exact (hq2 p hp).keep hk
    · obtain ⟨cs', z', h9⟩ := rrow_typed h.1 b e3.symm
      rw [h9] at e
      simp at e
      exact ht e.2.1.symm
/-- append(v, x) of one saga, a statement -/
theorem wpList_append_wt {w : World} {ops : Array Oper} {rest : List Oper} {o : Oper} {a : Act} {Q : Exit → Act → World → Prop} (hgd : o.guard = none) (s x : Operand)
    (ho : o.op = .call { callee := .builtin .append, args := #[s, x], argTypes := #[25, 25] })
    (B : Nat) (v : Value) (ps : List (Sg × SH)) (q : Sg × SH) (hv : a.eval s = v) (h : Wt B w v ps) (g : Nat) (hx : a.eval x = .slice (some ⟨g, 0, none⟩) 1 1)
    (hc : w.rangeAt g 0 (scf q)) (hmax : (ps.length + 1) * 200 ≤ 140737488355328) (hB : B ≤ w.heap.size)
    (hK : ∀ v' w', Wt B w' v' (ps ++ [q]) → Below B w w' → TK 43 w w' → wpList Tryz.prog ops Q rest (a.put o.dst v') w') : wpList Tryz.prog ops Q (o :: rest) a w := by
  refine wpList_plain hgd fun K hK2 => ?_
  obtain ⟨i0, hi, hz0, hz1, hz2⟩ := Lft.info_parts3 infoSg
  obtain ⟨v', w', hrun, h2, h3, _⟩ := run_append_own (P := Tryz.prog) w B 25 o.type 43 i0 _ 16 200 Tryz.underlying25 hi hz0 hz1 hz2 rfl (by decide) v ps.length (ps.flatMap scf) h ⟨g, 0, none⟩ 1 1 (scf q) rfl (by
    intro j u hj
    have := hc j u hj
    rw [Addr.add_lit]
    exact this) (fun u hu => scl_one q.1 q.2 u hu) (by unfold maxLen; omega) (by omega) hB
  unfold Oper.wp
  simp [execOp, ho, resolve, invoke, builtin, hv, hx, hrun, Result.andThen]
  have hown : w'.ownsRow B 43 16 v' (ps ++ [q]).length ((ps ++ [q]).flatMap scf) := by
    rw [List.length_append, List.flatMap_append, List.flatMap_cons, List.flatMap_nil, List.append_nil]
    exact h2
  refine hK2 _ _ (hK v' w' hown ((Below.refl B w).grown h3 hB (fun k hk => (World.ownsRow.lt h k hk).1)) fun b cs t z ht e => h3.block b (Array.getElem?_eq_some_iff.1 e).1 fun e3 => ?_)
  rcases h.2 with ⟨e4, _⟩ | ⟨g', cap', cur', e4, _, hg', _⟩
  · rw [e4] at e3
    simp [Value.ownBlock] at e3
  · rw [e4] at e3
    simp [Value.ownBlock] at e3
    subst e3
    rw [hg'] at e
    simp at e
    exact ht e.2.1.symm
end Go.Proofs.YtdnackjakfiffaaGreatDoor
