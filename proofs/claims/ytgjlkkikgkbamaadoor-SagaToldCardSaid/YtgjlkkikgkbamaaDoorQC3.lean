import Derived.Test.YtgjlkkikgkbamaaDoorQC1
/-
  Package saga: Story's teller: failure.
-/
namespace Go.Proofs.YtgjlkkikgkbamaaDoor
open Go Go.RowKit
open Wb


set_option maxRecDepth 100000 in
set_option maxHeartbeats 4000000 in
theorem tfail_any (B t : Nat) (S : Sg) (h : SH) (rs : List Rec) (w : World) (k : TS B t S h rs w) (hB : B ≤ t) (w0 : World) (hB0 : B = w0.heap.size) (hA : SgAt w0 S h) (hb0 : Below B w0 w) (hf : S.fail.length ≤ 16384) (hu : shortP S.und = true) (hul : S.und.length ≤ 32) (hfs : 0 ≤ S.x.fs ∧ S.x.fs ≤ 32) (hfw : S.x.fwd = false) (hn : rs.length ≤ 5000) :
    Calls Tryd.prog 37 #[.pointer (some ⟨t, 0, none⟩)] w fun e w' => TP B t S h (rs ++ failL S) w e w' := by
  have HT1 : Hid (∀ (rs' : List Rec) (w' : World), TS B t S h rs' w' → rs'.length ≤ 10000 → Calls Tryd.prog 36 #[.pointer (some ⟨t, 0, none⟩), .agg #[.int .i64 0, .int .i64 2, .int .i64 0, .int .i64 S.x.fs, .int .i64 1, .int .i64 0, .int .i64 0, .int .i64 0, .int .i64 0, .int .i64 0, .string ⟨#[]⟩, .slice none 0 0]] w' fun e w'' => TP B t S h (rs' ++ [stR S 2 S.x.fs 1 0 0 []]) w' e w'') := fun rs' w' k' hn' => tell_T B t S h rs' ⟨⟨0, 2, 0, S.x.fs, 1, 0, 0, 0, 0, 0⟩, ⟨#[]⟩, []⟩ _ w' k' hB (Bs.nil _) (by simp) hn'
  have HT2 : Hid (∀ (rs' : List Rec) (w' : World), TS B t S h rs' w' → rs'.length ≤ 10000 → Bs w' (.slice h.af S.fail.length h.cf) S.fail → S.fail.length ≤ 16384 → Calls Tryd.prog 36 #[.pointer (some ⟨t, 0, none⟩), .agg #[.int .i64 0, .int .i64 4, .int .i64 0, .int .i64 S.x.fs, .int .i64 0, .int .i64 0, .int .i64 1, .int .i64 S.x.fc, .int .i64 0, .int .i64 0, .string ⟨#[]⟩, .slice h.af S.fail.length h.cf]] w' fun e w'' => TP B t S h (rs' ++ [stR S 4 S.x.fs 0 1 S.x.fc S.fail]) w' e w'') := fun rs' w' k' hn' hb hl => tell_T B t S h rs' ⟨⟨0, 4, 0, S.x.fs, 0, 0, 1, S.x.fc, 0, 0⟩, ⟨#[]⟩, S.fail⟩ _ w' k' hB hb hl hn'
  have HT3 : Hid (∀ (p : Int) (rs' : List Rec) (w' : World), TS B t S h rs' w' → rs'.length ≤ 10000 → Calls Tryd.prog 36 #[.pointer (some ⟨t, 0, none⟩), .agg #[.int .i64 0, .int .i64 5, .int .i64 0, .int .i64 p, .int .i64 1, .int .i64 0, .int .i64 0, .int .i64 0, .int .i64 0, .int .i64 0, .string ⟨#[]⟩, .slice none 0 0]] w' fun e w'' => TP B t S h (rs' ++ [stR S 5 p 1 0 0 []]) w' e w'') := fun p rs' w' k' hn' => tell_T B t S h rs' ⟨⟨0, 5, 0, p, 1, 0, 0, 0, 0, 0⟩, ⟨#[]⟩, []⟩ _ w' k' hB (Bs.nil _) (by simp) hn'
  have HT4 : Hid (∀ (p : Int) (d : Value) (o : List Nat) (rs' : List Rec) (w' : World), TS B t S h rs' w' → rs'.length ≤ 10000 → Bs w' (d) o → o.length ≤ 16384 → Calls Tryd.prog 36 #[.pointer (some ⟨t, 0, none⟩), .agg #[.int .i64 0, .int .i64 6, .int .i64 0, .int .i64 p, .int .i64 0, .int .i64 0, .int .i64 0, .int .i64 0, .int .i64 0, .int .i64 0, .string ⟨#[]⟩, d]] w' fun e w'' => TP B t S h (rs' ++ [stR S 6 p 0 0 0 o]) w' e w'') := fun p d o rs' w' k' hn' hb hl => tell_T B t S h rs' ⟨⟨0, 6, 0, p, 0, 0, 0, 0, 0, 0⟩, ⟨#[]⟩, o⟩ _ w' k' hB hb hl hn'
  have HK : Hid (∀ w', Below B w w' → Below w0.heap.size w0 w') := fun w' hb => by rw [← hB0]; exact hb0.trans hb
  have HU : Hid (∀ j (hj : j < S.und.length), ∃ b off d, h.au = some ⟨b, off, none⟩ ∧ (∀ w', Below B w w' → w'.cell? ⟨b, off + j, none⟩ = some d ∧ Bs w' d S.und[j]) ∧ S.und[j].length ≤ 16384) := fun j hj => by
    obtain ⟨a1, p1, e1, _, h1⟩ := hA.und.shape
    simp only [Value.slice.injEq] at e1
    obtain ⟨rfl, _, rfl⟩ := e1
    obtain ⟨b, off, r1, r2⟩ := h1 (by intro e; rw [e] at hj; simp at hj)
    obtain ⟨d, q1, q2⟩ := r2 j hj
    exact ⟨b, off, d, r1, fun w' hb => ⟨((HK.out w' hb).cell (World.block_lt_of_cell? _ _ q1)).trans q1, q2.kept (HK.out w' hb)⟩, by simpa using List.all_eq_true.1 hu _ (List.getElem_mem hj)⟩
  have HF : Hid (∀ w', Below B w w' → Bs w' (.slice h.af S.fail.length h.cf) S.fail) := fun w' hb => hA.fail.kept (HK.out w' hb)
  have HFL : Hid (failL S = stR S 2 S.x.fs 1 0 0 [] :: stR S 4 S.x.fs 0 1 S.x.fc S.fail :: undL S (S.x.fs - 1) S.und) := by show _ = _; unfold failL; rw [if_neg (by simp [hfw])]
  obtain ⟨Z, hZ⟩ : ∃ Z, Z = zcl := ⟨_, rfl⟩
  have HZ : Hid (Z = zcl) := hZ
  obtain ⟨D, hD, hL, hE⟩ := sv_letter S h
  have HL : Hid _ := hL
  have HE : Hid (D = scl S h) := hE
  have HR : Hid (w.rangeAt t 0 D) := by show w.rangeAt t 0 D; rw [hE]; exact k.range
  have H1 : Hid (∀ v ∈ D, v.oneCell' = true) := by show ∀ v ∈ D, _; rw [hE]; exact scl_one _ _
  have HDZ : Hid (D.length = Z.length) := by show _ = _; rw [hE, hZ]; rfl
  have HT : Hid ((w.alloc (.cells Z.toArray 28)).there w.heap.size 0 D.toArray.size) := there_of (lb_new w Z _) (by simpa using HDZ.out)
  have hlt : t < w.heap.size := k.lt
  have HNE : Hid (w.heap.size ≠ t ∧ B ≤ w.heap.size) := ⟨by omega, by omega⟩
  have H2 : Hid (∃ W2, W2 = (w.alloc (.cells Z.toArray 28)).setCells w.heap.size 0 D ∧ LB W2 w.heap.size 28 D ∧ TS B t S h rs W2 ∧ Below B w W2 ∧ Fr t w W2) := by
    obtain ⟨q1, q2⟩ := box1 w 28 Z D HDZ.out
    exact ⟨_, rfl, q1, k.kept q2, q2.mono HNE.out.2, Fr.below q2⟩
  clear k hA hb0 hB0 hu hfw hD hL hE hZ HK
  go_enter Tryd.func37, Tryd.ntmps37
  go_wp2_with (first | (refine wpList_load_mid rfl 28 _ rfl t 0 rfl D _ HR.out Tryd.underlying28 rfl HL.out ?_) | (refine wpList_alloc_Z HZ.out rfl rfl ?_) | (refine wpList_store_mid rfl 28 (.tmp 2) (.tmp 9) rfl w.heap.size 0 D.toArray rfl rfl HT.out (by simpa using HL.out) (all_oneCell_toArray H1.out) ?_; (obtain ⟨W2, hW2, hq⟩ := H2.out); (have H3 : Hid _ := hq); (rw [List.toList_toArray, ← hW2]); (clear hW2 hq H2 HT HR); (have c13 := H3.out.1.cell 13 (.int .i64 S.x.fs) (by rw [HE.out]; rfl))) | fail)
  refine (HT1.out _ _ H3.out.2.1 (by omega)).mono ?_
  rintro e w1 ⟨rfl, k1, b1, f1⟩
  have H4 : Hid (LB w1 w.heap.size 28 D ∧ TS B t S h (rs ++ [stR S 2 S.x.fs 1 0 0 []]) w1 ∧ Below B w w1 ∧ Fr t w w1) := ⟨f1 _ _ _ HNE.out.1 (by decide) H3.out.1, k1, H3.out.2.2.1.trans b1, H3.out.2.2.2.trans f1⟩
  clear k1 b1 f1 H3 HT1 c13
  have c13 := H4.out.1.cell 13 (.int .i64 S.x.fs) (by rw [HE.out]; rfl)
  have c14 := H4.out.1.cell 14 (.int .i64 S.x.fc) (by rw [HE.out]; rfl)
  have c15 := H4.out.1.cell 15 (.slice h.af S.fail.length h.cf) (by rw [HE.out]; rfl)
  go_wp2_with fail
  refine (HT2.out _ _ H4.out.2.1 (by simp; omega) (HF.out _ H4.out.2.2.1) (by assumption)).mono ?_
  rintro e w2 ⟨rfl, k2, b2, f2⟩
  have H5 : Hid (LB w2 w.heap.size 28 D ∧ TS B t S h (rs ++ [stR S 2 S.x.fs 1 0 0 []] ++ [stR S 4 S.x.fs 0 1 S.x.fc S.fail]) w2 ∧ Below B w w2 ∧ Fr t w w2) := ⟨f2 _ _ _ HNE.out.1 (by decide) H4.out.1, k2, H4.out.2.2.1.trans b2, H4.out.2.2.2.trans f2⟩
  clear k2 b2 f2 H4 HT2 HF c13 c14 c15
  have c12 := H5.out.1.cell 12 (.slice h.au S.und.length h.cu) (by rw [HE.out]; rfl)
  go_wp2
  clear c12
  go_loopw [27] (fun i wr => ∃ (n : Nat) (cur : List Rec), i = .int .i64 (n : Int) ∧ n ≤ S.und.length ∧ TS B t S h cur wr ∧ cur ++ undL S (S.x.fs - 1 - (n : Int)) (S.und.drop n) = rs ++ failL S ∧ cur.length ≤ rs.length + 2 + 2 * n ∧ LB wr w.heap.size 28 D ∧ Below B w wr ∧ Fr t w wr) (fun i _ => S.und.length - (intOf i).toNat)
  case atStart => exact ⟨0, _, rfl, Nat.zero_le _, H5.out.2.1, by rw [HFL.out]; simp, by simp, H5.out.1, H5.out.2.2.1, H5.out.2.2.2⟩
  case round =>
    obtain ⟨n, cur, rfl, hn2, kc, he, hcl, lb, bl, fr⟩ := hrel
    have HR : Hid (TS B t S h cur wr ∧ LB wr w.heap.size 28 D ∧ Below B w wr ∧ Fr t w wr) := ⟨kc, lb, bl, fr⟩
    have HEQ : Hid (cur ++ undL S (S.x.fs - 1 - (n : Int)) (S.und.drop n) = rs ++ failL S) := he
    clear kc lb bl fr he H5
    by_cases hlt2 : n < S.und.length
    · obtain ⟨b, off, d, hau, qw, q3⟩ := HU.out n hlt2
      obtain ⟨o, hoo⟩ : ∃ o, S.und[n] = o := ⟨_, rfl⟩
      have HDR : Hid (S.und.drop n = o :: S.und.drop (n + 1)) := by show _ = _; rw [List.drop_eq_getElem_cons hlt2, hoo]
      rw [hoo] at qw q3
      obtain ⟨q1, q2⟩ := qw _ HR.out.2.2.1
      have HQ : Hid (o.length ≤ 16384) := q3
      have c13 := HR.out.2.1.cell 13 (.int .i64 S.x.fs) (by rw [HE.out]; rfl)
      have i1 : IntKind.i64.wrap (S.x.fs - 1) = S.x.fs - 1 := IntWalk.i64_in _ (by omega)
      have i2 : IntKind.i64.wrap (S.x.fs - 1 - (n : Int)) = S.x.fs - 1 - (n : Int) := IntWalk.i64_in _ (by omega)
      obtain ⟨ad, cd, rfl, _⟩ := q2.shape
      have HQW : Hid _ := qw
      clear q2 q3 hoo qw
      rw [hau]
      go_wp2_with fail
      refine (HT3.out _ _ _ HR.out.1 (by omega)).mono ?_
      rintro e w3 ⟨rfl, k3, b3, f3⟩
      have H6 : Hid (LB w3 w.heap.size 28 D ∧ TS B t S h (cur ++ [stR S 5 (S.x.fs - 1 - (n : Int)) 1 0 0 []]) w3 ∧ Below B w w3 ∧ Fr t w w3) := ⟨f3 _ _ _ HNE.out.1 (by decide) HR.out.2.1, k3, HR.out.2.2.1.trans b3, HR.out.2.2.2.trans f3⟩
      have H7 : Hid (Bs w3 (.slice ad o.length cd) o ∧ o.length ≤ 16384) := ⟨(HQW.out _ H6.out.2.2.1).2, HQ.out⟩
      clear k3 b3 f3 c13 q1
      go_wp2_with fail
      refine (HT4.out _ _ o _ _ H6.out.2.1 (by simp; omega) H7.out.1 H7.out.2).mono ?_
      rintro e w4 ⟨rfl, k4, b4, f4⟩
      have H8 : Hid (LB w4 w.heap.size 28 D ∧ TS B t S h (cur ++ [stR S 5 (S.x.fs - 1 - (n : Int)) 1 0 0 []] ++ [stR S 6 (S.x.fs - 1 - (n : Int)) 0 0 0 o]) w4 ∧ Below B w w4 ∧ Fr t w w4) := ⟨f4 _ _ _ HNE.out.1 (by decide) H6.out.1, k4, H6.out.2.2.1.trans b4, H6.out.2.2.2.trans f4⟩
      clear k4 b4 f4 H6 H7
      go_wp2
      go_roundw
      case rel => exact ⟨n + 1, _, by go_num, by omega, H8.out.2.1, by rw [← HEQ.out, HDR.out]; simp [undL]; congr 1; omega, by simp; omega, H8.out.1, H8.out.2.2.1, H8.out.2.2.2⟩
      case measure => simp [intOf]; omega
    · obtain rfl : n = S.und.length := by omega
      have hfin : cur = rs ++ failL S := by
        have := HEQ.out
        rw [List.drop_length] at this
        simpa [undL] using this
      go_wp2
      go_end0
      exact ⟨rfl, by rw [← hfin]; exact HR.out.1, HR.out.2.2.1, HR.out.2.2.2⟩
end Go.Proofs.YtgjlkkikgkbamaaDoor

/-
  Package saga: Story's teller: tries.
-/
namespace Go.Proofs.YtgjlkkikgkbamaaDoor
open Go Go.RowKit
open Wb


theorem trl_step (S : Sg) (kk p : Int) (m n : Nat) : trL S kk p m (n + 1) = stR S kk p ((m : Int) + 1) 0 0 [] :: ((if n ≠ 0 ∨ S.x.fl = false then [stR S 4 p 0 0 0 []] else []) ++ trL S kk p (m + 1) n) := rfl
set_option maxRecDepth 100000 in
set_option maxHeartbeats 4000000 in
theorem tries_f (B t : Nat) (S : Sg) (h : SH) (rs : List Rec) (w : World) (k : TS B t S h rs w) (hB : B ≤ t) (hnx : 0 ≤ S.x.nx ∧ S.x.nx ≤ 32) (htr : 0 ≤ S.x.tr ∧ S.x.tr ≤ 1000) (hfw : S.x.fwd = true) (hn : rs.length ≤ 5000) :
    Calls Tryd.prog 38 #[.pointer (some ⟨t, 0, none⟩)] w fun e w' => TP B t S h (rs ++ trL S 2 S.x.turn 0 S.x.tr.toNat) w e w' := by
  obtain ⟨p, hp⟩ : ∃ p, S.x.turn = p := ⟨_, rfl⟩
  have HT1 : Hid (∀ (m : Int) (rs' : List Rec) (w' : World), TS B t S h rs' w' → rs'.length ≤ 10000 → Calls Tryd.prog 36 #[.pointer (some ⟨t, 0, none⟩), .agg #[.int .i64 0, .int .i64 2, .int .i64 0, .int .i64 p, .int .i64 m, .int .i64 0, .int .i64 0, .int .i64 0, .int .i64 0, .int .i64 0, .string ⟨#[]⟩, .slice none 0 0]] w' fun e w'' => TP B t S h (rs' ++ [stR S 2 p m 0 0 []]) w' e w'') := fun m rs' w' k' hn' => tell_T B t S h rs' ⟨⟨0, 2, 0, p, m, 0, 0, 0, 0, 0⟩, ⟨#[]⟩, []⟩ _ w' k' hB (Bs.nil _) (by simp) hn'
  have HT2 : Hid (∀ (rs' : List Rec) (w' : World), TS B t S h rs' w' → rs'.length ≤ 10000 → Calls Tryd.prog 36 #[.pointer (some ⟨t, 0, none⟩), .agg #[.int .i64 0, .int .i64 4, .int .i64 0, .int .i64 p, .int .i64 0, .int .i64 0, .int .i64 0, .int .i64 0, .int .i64 0, .int .i64 0, .string ⟨#[]⟩, .slice none 0 0]] w' fun e w'' => TP B t S h (rs' ++ [stR S 4 p 0 0 0 []]) w' e w'') := fun rs' w' k' hn' => tell_T B t S h rs' ⟨⟨0, 4, 0, p, 0, 0, 0, 0, 0, 0⟩, ⟨#[]⟩, []⟩ _ w' k' hB (Bs.nil _) (by simp) hn'
  have HTU0 : ∀ w', Calls Tryd.prog 57 #[sv S h] w' fun e w'' => e = .returned (.int .i64 p) ∧ Below w'.heap.size w' w'' := fun w' => by rw [← hp]; exact turn_any S h w' hnx
  have HFW0 : ∀ w', Calls Tryd.prog 32 #[sv S h] w' fun e w'' => e = .returned (.bool true) ∧ Below w'.heap.size w' w'' := fun w' => by rw [← hfw]; exact fwd_any S h w'
  obtain ⟨D, hD, hL, hE⟩ := sv_letter S h
  rw [hD] at HTU0 HFW0
  have HTU : Hid _ := HTU0
  have HFW : Hid _ := HFW0
  have HL : Hid _ := hL
  have HE : Hid (D = scl S h) := hE
  have HR : Hid (∀ rs' w', TS B t S h rs' w' → w'.rangeAt t 0 D) := fun rs' w' k' => by show w'.rangeAt t 0 D; rw [hE]; exact k'.range
  have H0 : Hid (TS B t S h rs w ∧ B ≤ w.heap.size) := ⟨k, by have := k.lt; omega⟩
  have HRw : Hid (w.rangeAt t 0 D) := HR.out _ _ k
  have hT : (S.x.tr.toNat : Int) = S.x.tr := by omega
  rw [hp]
  clear k hD hL hE hp hnx hfw HTU0 HFW0
  go_enter Tryd.func38, Tryd.ntmps38
  go_wp2_with (first | (refine wpList_load_mid rfl 28 _ rfl t 0 rfl D _ HRw.out Tryd.underlying28 rfl HL.out ?_) | fail)
  refine (HTU.out _).mono ?_
  rintro e w1 ⟨rfl, b1⟩
  have H1 : Hid (TS B t S h rs w1 ∧ Below w.heap.size w w1) := ⟨H0.out.1.kept b1, b1⟩
  have HR1 : Hid (w1.rangeAt t 0 D) := HR.out _ _ H1.out.1
  clear b1 HRw
  go_wp2_with (first | (refine wpList_load_mid rfl 28 _ rfl t 0 rfl D _ HR1.out Tryd.underlying28 rfl HL.out ?_) | fail)
  refine (HFW.out _).mono ?_
  rintro e w2 ⟨rfl, b2⟩
  have H2 : Hid (TS B t S h rs w2 ∧ Below w.heap.size w w2) := ⟨H1.out.1.kept b2, andThen H1.out.2 b2⟩
  clear b2 HR1 H1 HTU HFW
  go_wp2
  go_loopw [4] (fun i wr => ∃ (m : Nat) (cur : List Rec), i = .int .i64 ((m : Int) + 1) ∧ m ≤ S.x.tr.toNat ∧ TS B t S h cur wr ∧ cur ++ trL S 2 p m (S.x.tr.toNat - m) = rs ++ trL S 2 p 0 S.x.tr.toNat ∧ cur.length ≤ rs.length + 2 * m ∧ Below B w wr ∧ Fr t w wr) (fun i _ => S.x.tr.toNat + 1 - (intOf i).toNat)
  case atStart => exact ⟨0, rs, rfl, Nat.zero_le _, H2.out.1, by simp, by simp, H2.out.2.mono H0.out.2, Fr.below H2.out.2⟩
  case round =>
    obtain ⟨m, cur, rfl, hm, kc, he, hcl, bl, fr⟩ := hrel
    have HC : Hid (TS B t S h cur wr ∧ Below B w wr ∧ Fr t w wr) := ⟨kc, bl, fr⟩
    have HEQ : Hid (cur ++ trL S 2 p m (S.x.tr.toNat - m) = rs ++ trL S 2 p 0 S.x.tr.toNat) := he
    clear kc bl fr he H2
    have c10 := HC.out.1.cell 10 (.int .i64 S.x.tr) rfl
    by_cases hlt : m < S.x.tr.toNat
    · obtain ⟨n, hnn⟩ : ∃ n, S.x.tr.toNat - m = n + 1 := ⟨S.x.tr.toNat - m - 1, by omega⟩
      have hn2 : S.x.tr.toNat - (m + 1) = n := by omega
      rw [hnn, trl_step] at HEQ
      have d1 : decide ((m : Int) + 1 ≤ S.x.tr) = true := by simp; omega
      go_wp2_with fail
      refine (HT1.out _ _ _ HC.out.1 (by omega)).mono ?_
      rintro e w3 ⟨rfl, k3, b3, f3⟩
      have H3 : Hid (TS B t S h (cur ++ [stR S 2 p ((m : Int) + 1) 0 0 []]) w3 ∧ Below B w w3 ∧ Fr t w w3) := ⟨k3, HC.out.2.1.trans b3, HC.out.2.2.trans f3⟩
      clear k3 b3 f3 HC c10 d1
      have c10 := H3.out.1.cell 10 (.int .i64 S.x.tr) rfl
      by_cases hn0 : n = 0
      · have d2 : decide ((m : Int) + 1 < S.x.tr) = false := by simp; omega
        cases hfl : S.x.fl with
        | true =>
          have c9 := H3.out.1.cell 9 (.bool true) (by rw [← hfl]; rfl)
          rw [if_neg (by simp [hn0, hfl])] at HEQ
          go_wp2
          go_roundw
          case rel => exact ⟨m + 1, _, by go_num, by omega, H3.out.1, by rw [hn2, ← HEQ.out]; simp, by simp; omega, H3.out.2.1, H3.out.2.2⟩
          case measure => simp [intOf]; omega
        | false =>
          have c9 := H3.out.1.cell 9 (.bool false) (by rw [← hfl]; rfl)
          rw [if_pos (.inr hfl)] at HEQ
          go_wp2_with fail
          refine (HT2.out _ _ H3.out.1 (by simp; omega)).mono ?_
          rintro e w4 ⟨rfl, k4, b4, f4⟩
          have H4 : Hid (TS B t S h (cur ++ [stR S 2 p ((m : Int) + 1) 0 0 []] ++ [stR S 4 p 0 0 0 []]) w4 ∧ Below B w w4 ∧ Fr t w w4) := ⟨k4, H3.out.2.1.trans b4, H3.out.2.2.trans f4⟩
          clear k4 b4 f4 H3 c10 c9
          go_wp2
          go_roundw
          case rel => exact ⟨m + 1, _, by go_num, by omega, H4.out.1, by rw [hn2, ← HEQ.out]; simp, by simp; omega, H4.out.2.1, H4.out.2.2⟩
          case measure => simp [intOf]; omega
      · have d2 : decide ((m : Int) + 1 < S.x.tr) = true := by simp; omega
        rw [if_pos (.inl hn0)] at HEQ
        go_wp2_with fail
        refine (HT2.out _ _ H3.out.1 (by simp; omega)).mono ?_
        rintro e w4 ⟨rfl, k4, b4, f4⟩
        have H4 : Hid (TS B t S h (cur ++ [stR S 2 p ((m : Int) + 1) 0 0 []] ++ [stR S 4 p 0 0 0 []]) w4 ∧ Below B w w4 ∧ Fr t w w4) := ⟨k4, H3.out.2.1.trans b4, H3.out.2.2.trans f4⟩
        clear k4 b4 f4 H3 c10
        go_wp2
        go_roundw
        case rel => exact ⟨m + 1, _, by go_num, by omega, H4.out.1, by rw [hn2, ← HEQ.out]; simp, by simp; omega, H4.out.2.1, H4.out.2.2⟩
        case measure => simp [intOf]; omega
    · obtain rfl : m = S.x.tr.toNat := by omega
      have d1 : decide (((S.x.tr.toNat : Nat) : Int) + 1 ≤ S.x.tr) = false := by simp; omega
      have hfin : cur = rs ++ trL S 2 p 0 S.x.tr.toNat := by
        have := HEQ.out
        rw [Nat.sub_self] at this
        simpa [trL] using this
      go_wp2
      go_end0
      exact ⟨rfl, by rw [← hfin]; exact HC.out.1, HC.out.2.1, HC.out.2.2⟩
set_option maxRecDepth 100000 in
set_option maxHeartbeats 4000000 in
theorem tries_b (B t : Nat) (S : Sg) (h : SH) (rs : List Rec) (w : World) (k : TS B t S h rs w) (hB : B ≤ t) (hnx : 0 ≤ S.x.nx ∧ S.x.nx ≤ 32) (htr : 0 ≤ S.x.tr ∧ S.x.tr ≤ 1000) (hfw : S.x.fwd = false) (hn : rs.length ≤ 5000) :
    Calls Tryd.prog 38 #[.pointer (some ⟨t, 0, none⟩)] w fun e w' => TP B t S h (rs ++ trL S 5 S.x.turn 0 S.x.tr.toNat) w e w' := by
  obtain ⟨p, hp⟩ : ∃ p, S.x.turn = p := ⟨_, rfl⟩
  have HT1 : Hid (∀ (m : Int) (rs' : List Rec) (w' : World), TS B t S h rs' w' → rs'.length ≤ 10000 → Calls Tryd.prog 36 #[.pointer (some ⟨t, 0, none⟩), .agg #[.int .i64 0, .int .i64 5, .int .i64 0, .int .i64 p, .int .i64 m, .int .i64 0, .int .i64 0, .int .i64 0, .int .i64 0, .int .i64 0, .string ⟨#[]⟩, .slice none 0 0]] w' fun e w'' => TP B t S h (rs' ++ [stR S 5 p m 0 0 []]) w' e w'') := fun m rs' w' k' hn' => tell_T B t S h rs' ⟨⟨0, 5, 0, p, m, 0, 0, 0, 0, 0⟩, ⟨#[]⟩, []⟩ _ w' k' hB (Bs.nil _) (by simp) hn'
  have HT2 : Hid (∀ (rs' : List Rec) (w' : World), TS B t S h rs' w' → rs'.length ≤ 10000 → Calls Tryd.prog 36 #[.pointer (some ⟨t, 0, none⟩), .agg #[.int .i64 0, .int .i64 4, .int .i64 0, .int .i64 p, .int .i64 0, .int .i64 0, .int .i64 0, .int .i64 0, .int .i64 0, .int .i64 0, .string ⟨#[]⟩, .slice none 0 0]] w' fun e w'' => TP B t S h (rs' ++ [stR S 4 p 0 0 0 []]) w' e w'') := fun rs' w' k' hn' => tell_T B t S h rs' ⟨⟨0, 4, 0, p, 0, 0, 0, 0, 0, 0⟩, ⟨#[]⟩, []⟩ _ w' k' hB (Bs.nil _) (by simp) hn'
  have HTU0 : ∀ w', Calls Tryd.prog 57 #[sv S h] w' fun e w'' => e = .returned (.int .i64 p) ∧ Below w'.heap.size w' w'' := fun w' => by rw [← hp]; exact turn_any S h w' hnx
  have HFW0 : ∀ w', Calls Tryd.prog 32 #[sv S h] w' fun e w'' => e = .returned (.bool false) ∧ Below w'.heap.size w' w'' := fun w' => by rw [← hfw]; exact fwd_any S h w'
  obtain ⟨D, hD, hL, hE⟩ := sv_letter S h
  rw [hD] at HTU0 HFW0
  have HTU : Hid _ := HTU0
  have HFW : Hid _ := HFW0
  have HL : Hid _ := hL
  have HE : Hid (D = scl S h) := hE
  have HR : Hid (∀ rs' w', TS B t S h rs' w' → w'.rangeAt t 0 D) := fun rs' w' k' => by show w'.rangeAt t 0 D; rw [hE]; exact k'.range
  have H0 : Hid (TS B t S h rs w ∧ B ≤ w.heap.size) := ⟨k, by have := k.lt; omega⟩
  have HRw : Hid (w.rangeAt t 0 D) := HR.out _ _ k
  have hT : (S.x.tr.toNat : Int) = S.x.tr := by omega
  rw [hp]
  clear k hD hL hE hp hnx hfw HTU0 HFW0
  go_enter Tryd.func38, Tryd.ntmps38
  go_wp2_with (first | (refine wpList_load_mid rfl 28 _ rfl t 0 rfl D _ HRw.out Tryd.underlying28 rfl HL.out ?_) | fail)
  refine (HTU.out _).mono ?_
  rintro e w1 ⟨rfl, b1⟩
  have H1 : Hid (TS B t S h rs w1 ∧ Below w.heap.size w w1) := ⟨H0.out.1.kept b1, b1⟩
  have HR1 : Hid (w1.rangeAt t 0 D) := HR.out _ _ H1.out.1
  clear b1 HRw
  go_wp2_with (first | (refine wpList_load_mid rfl 28 _ rfl t 0 rfl D _ HR1.out Tryd.underlying28 rfl HL.out ?_) | fail)
  refine (HFW.out _).mono ?_
  rintro e w2 ⟨rfl, b2⟩
  have H2 : Hid (TS B t S h rs w2 ∧ Below w.heap.size w w2) := ⟨H1.out.1.kept b2, andThen H1.out.2 b2⟩
  clear b2 HR1 H1 HTU HFW
  go_wp2
  go_loopw [4] (fun i wr => ∃ (m : Nat) (cur : List Rec), i = .int .i64 ((m : Int) + 1) ∧ m ≤ S.x.tr.toNat ∧ TS B t S h cur wr ∧ cur ++ trL S 5 p m (S.x.tr.toNat - m) = rs ++ trL S 5 p 0 S.x.tr.toNat ∧ cur.length ≤ rs.length + 2 * m ∧ Below B w wr ∧ Fr t w wr) (fun i _ => S.x.tr.toNat + 1 - (intOf i).toNat)
  case atStart => exact ⟨0, rs, rfl, Nat.zero_le _, H2.out.1, by simp, by simp, H2.out.2.mono H0.out.2, Fr.below H2.out.2⟩
  case round =>
    obtain ⟨m, cur, rfl, hm, kc, he, hcl, bl, fr⟩ := hrel
    have HC : Hid (TS B t S h cur wr ∧ Below B w wr ∧ Fr t w wr) := ⟨kc, bl, fr⟩
    have HEQ : Hid (cur ++ trL S 5 p m (S.x.tr.toNat - m) = rs ++ trL S 5 p 0 S.x.tr.toNat) := he
    clear kc bl fr he H2
    have c10 := HC.out.1.cell 10 (.int .i64 S.x.tr) rfl
    by_cases hlt : m < S.x.tr.toNat
    · obtain ⟨n, hnn⟩ : ∃ n, S.x.tr.toNat - m = n + 1 := ⟨S.x.tr.toNat - m - 1, by omega⟩
      have hn2 : S.x.tr.toNat - (m + 1) = n := by omega
      rw [hnn, trl_step] at HEQ
      have d1 : decide ((m : Int) + 1 ≤ S.x.tr) = true := by simp; omega
      go_wp2_with fail
      refine (HT1.out _ _ _ HC.out.1 (by omega)).mono ?_
      rintro e w3 ⟨rfl, k3, b3, f3⟩
      have H3 : Hid (TS B t S h (cur ++ [stR S 5 p ((m : Int) + 1) 0 0 []]) w3 ∧ Below B w w3 ∧ Fr t w w3) := ⟨k3, HC.out.2.1.trans b3, HC.out.2.2.trans f3⟩
      clear k3 b3 f3 HC c10 d1
      have c10 := H3.out.1.cell 10 (.int .i64 S.x.tr) rfl
      by_cases hn0 : n = 0
      · have d2 : decide ((m : Int) + 1 < S.x.tr) = false := by simp; omega
        cases hfl : S.x.fl with
        | true =>
          have c9 := H3.out.1.cell 9 (.bool true) (by rw [← hfl]; rfl)
          rw [if_neg (by simp [hn0, hfl])] at HEQ
          go_wp2
          go_roundw
          case rel => exact ⟨m + 1, _, by go_num, by omega, H3.out.1, by rw [hn2, ← HEQ.out]; simp, by simp; omega, H3.out.2.1, H3.out.2.2⟩
          case measure => simp [intOf]; omega
        | false =>
          have c9 := H3.out.1.cell 9 (.bool false) (by rw [← hfl]; rfl)
          rw [if_pos (.inr hfl)] at HEQ
          go_wp2_with fail
          refine (HT2.out _ _ H3.out.1 (by simp; omega)).mono ?_
          rintro e w4 ⟨rfl, k4, b4, f4⟩
          have H4 : Hid (TS B t S h (cur ++ [stR S 5 p ((m : Int) + 1) 0 0 []] ++ [stR S 4 p 0 0 0 []]) w4 ∧ Below B w w4 ∧ Fr t w w4) := ⟨k4, H3.out.2.1.trans b4, H3.out.2.2.trans f4⟩
          clear k4 b4 f4 H3 c10 c9
          go_wp2
          go_roundw
          case rel => exact ⟨m + 1, _, by go_num, by omega, H4.out.1, by rw [hn2, ← HEQ.out]; simp, by simp; omega, H4.out.2.1, H4.out.2.2⟩
          case measure => simp [intOf]; omega
      · have d2 : decide ((m : Int) + 1 < S.x.tr) = true := by simp; omega
        rw [if_pos (.inl hn0)] at HEQ
        go_wp2_with fail
        refine (HT2.out _ _ H3.out.1 (by simp; omega)).mono ?_
        rintro e w4 ⟨rfl, k4, b4, f4⟩
        have H4 : Hid (TS B t S h (cur ++ [stR S 5 p ((m : Int) + 1) 0 0 []] ++ [stR S 4 p 0 0 0 []]) w4 ∧ Below B w w4 ∧ Fr t w w4) := ⟨k4, H3.out.2.1.trans b4, H3.out.2.2.trans f4⟩
        clear k4 b4 f4 H3 c10
        go_wp2
        go_roundw
        case rel => exact ⟨m + 1, _, by go_num, by omega, H4.out.1, by rw [hn2, ← HEQ.out]; simp, by simp; omega, H4.out.2.1, H4.out.2.2⟩
        case measure => simp [intOf]; omega
    · obtain rfl : m = S.x.tr.toNat := by omega
      have d1 : decide (((S.x.tr.toNat : Nat) : Int) + 1 ≤ S.x.tr) = false := by simp; omega
      have hfin : cur = rs ++ trL S 5 p 0 S.x.tr.toNat := by
        have := HEQ.out
        rw [Nat.sub_self] at this
        simpa [trL] using this
      go_wp2
      go_end0
      exact ⟨rfl, by rw [← hfin]; exact HC.out.1, HC.out.2.1, HC.out.2.2⟩
theorem tries_any (B t : Nat) (S : Sg) (h : SH) (rs : List Rec) (w : World) (k : TS B t S h rs w) (hB : B ≤ t) (hnx : 0 ≤ S.x.nx ∧ S.x.nx ≤ 32) (htr : 0 ≤ S.x.tr ∧ S.x.tr ≤ 1000) (hn : rs.length ≤ 5000) :
    Calls Tryd.prog 38 #[.pointer (some ⟨t, 0, none⟩)] w fun e w' => TP B t S h (rs ++ trL S (trK S) S.x.turn 0 S.x.tr.toNat) w e w' := by
  unfold trK
  cases hf : S.x.fwd with
  | true => exact tries_f B t S h rs w k hB hnx htr hf hn
  | false => exact tries_b B t S h rs w k hB hnx htr hf hn
end Go.Proofs.YtgjlkkikgkbamaaDoor

/-
  Package saga: Story.
-/
namespace Go.Proofs.YtgjlkkikgkbamaaDoor
open Go Go.RowKit
open Wb

theorem outL_len (S : Sg) : ∀ (r : List (List Nat)) (i : Nat), (outL S i r).length = 2 * r.length
  | [], _ => rfl
  | _ :: r, i => by simp only [outL, List.length_cons, outL_len S r (i + 1)]; omega
theorem undL_len (S : Sg) : ∀ (r : List (List Nat)) (p : Int), (undL S p r).length = 2 * r.length
  | [], _ => rfl
  | _ :: r, p => by simp only [undL, List.length_cons, undL_len S r (p - 1)]; omega
theorem trL_len (S : Sg) (kk p : Int) : ∀ (n m : Nat), (trL S kk p m n).length ≤ 2 * n
  | 0, _ => Nat.le_refl _
  | n + 1, m => by
    have := trL_len S kk p n (m + 1)
    rw [trl_step]
    split <;> (simp; omega)
theorem failL_len (S : Sg) : (failL S).length ≤ 2 + 2 * S.und.length := by
  unfold failL
  split
  · simp
  · simp [undL_len]; omega
/-- what Check says of the numbers -/
theorem story_bnds (S : Sg) (h : chkS S = true) : S.outs.length ≤ 32 ∧ S.und.length ≤ 32 ∧ (0 ≤ S.x.nx ∧ S.x.nx ≤ 32) ∧ (0 ≤ S.x.tr ∧ S.x.tr ≤ 1000) ∧ (S.x.fwd = false → 0 ≤ S.x.fs ∧ S.x.fs ≤ 32) ∧ S.inp.length ≤ 16384 ∧ S.fail.length ≤ 16384 ∧ shortP S.outs = true ∧ shortP S.und = true := by
  obtain ⟨⟨b1, b2, b3, b4, b5, b6, b7, b8, b9, b10, b11⟩, h1⟩ := (chkS_iff S).1 h
  refine ⟨?_, ?_, ?_, b7, ?_, b8, b9, b10, b11⟩
  all_goals rcases h1 with ⟨g, c1, c2, c3, c4, c5, c6, c7, _⟩ | ⟨g, c1, c2, c3, c4, c5, c6, _⟩ | ⟨g, c1, c2, c3, c4, c5, c6, _⟩ | ⟨g, g0, c1, c2, c3, c4, c5, c6, _⟩
  all_goals first | omega | (rw [c4]; simp) | (intro hf; simp [SN.fwd, g] at hf) | (intro _; omega)
def ztl : List Value := zcl ++ [.slice none 0 0]
theorem infoTeller : (Tryd.prog.info? 68).map (·.size) = some 17 := by kernel_rfl
/-- alloc of a teller, by a letter -/
theorem wpList_alloc_T {Z : List Value} (hZ : Z = ztl) {ops : Array Oper} {rest : List Oper} {op : Oper} {a : Act} {w : World} {Q : Exit → Act → World → Prop} (hgd : op.guard = none) (ho : op.op = .alloc 68)
    (h : wpList Tryd.prog ops Q rest (a.put op.dst (.pointer (some ⟨w.heap.size, 0, none⟩))) (w.alloc (.cells Z.toArray 68))) : wpList Tryd.prog ops Q (op :: rest) a w := by
  subst hZ
  refine wpList_plain hgd fun K hK => ?_
  obtain ⟨dst, op', ty, pos, after, guard⟩ := op
  simp only at ho hgd
  subst ho hgd
  have hK2 := hK _ _ h
  clear hK h
  unfold ztl zcl at hK2
  go_simp
  exact hK2
/-- build of a teller, by letters -/
theorem wpList_build_T {S : Sg} {h : SH} {D T : List Value} (hD : D = scl S h) (hT : T = D ++ [.slice none 0 0]) {ops : Array Oper} {rest : List Oper} {op : Oper} {a : Act} {w : World} {Q : Exit → Act → World → Prop} (hgd : op.guard = none) (n : Nat) (ho : op.op = .build 68 #[(0, .tmp n)]) (hx : a.tmps[n]?.getD undef = .agg D.toArray)
    (hh : wpList Tryd.prog ops Q rest (a.put op.dst (.agg T.toArray)) w) : wpList Tryd.prog ops Q (op :: rest) a w := by
  subst hT hD
  refine wpList_plain hgd fun K hK => ?_
  obtain ⟨dst, op', ty, pos, after, guard⟩ := op
  simp only at ho hgd
  subst ho hgd
  have hK2 := hK _ _ hh
  clear hK hh
  unfold scl at hK2 hx
  go_simp
  exact hK2
def StPost (S : Sg) (w : World) (e : Ending) (w' : World) : Prop := ∃ v ps, e = .returned (.tuple #[v, .int .i64 0]) ∧ OutT w.heap.size w' v ps ∧ ps.map Prod.fst = storyP S ∧ Below w.heap.size w w'

set_option maxRecDepth 100000 in
set_option maxHeartbeats 4000000 in
/-- a saga that Check refuses has no story -/
theorem story_bad (S : Sg) (h : SH) (w : World) (k : SgAt w S h) (hT : Text.TabP 3 .i32 Text.Tx.lets w) (hnm : S.nm.size ≤ 140737488355000) (hc : chkS S = false) : Calls Tryd.prog 19 #[sv S h] w fun e w' => e = .returned (.tuple #[.slice none 0 0, .int .i64 100]) ∧ Below w.heap.size w w' := by
  have HCK0 : ∀ w', Below w.heap.size w w' → Calls Tryd.prog 18 #[sv S h] w' fun e w'' => e = .returned (.int .i64 100) ∧ Below w'.heap.size w' w'' := fun w' hb => by
    have e := scheck_any S h w' (k.kept hb) (hT.kept hb) hnm
    rw [hc] at e
    exact e

  obtain ⟨D, hD, hL, hE⟩ := sv_letter S h
  rw [hD] at HCK0 ⊢
  have HCK : Hid _ := HCK0
  have HL : Hid _ := hL
  have HE : Hid (D = scl S h) := hE
  have HX : Hid (∀ t, (w.alloc (.cells D.toArray t)).rangeAt w.heap.size 0 D ∧ Below w.heap.size w (w.alloc (.cells D.toArray t))) := fun t => boxed w D t
  clear hD hL hE HCK0
  clear k hT hnm hc
  have HX1 : Hid _ := HX.out 28
  go_enter Tryd.func19, Tryd.ntmps19
  go_wp2_with (first | (refine wpList_load_mid rfl 28 _ rfl w.heap.size 0 rfl D _ HX1.out.1 Tryd.underlying28 rfl HL.out ?_) | fail)
  refine (HCK.out _ HX1.out.2).mono ?_
  rintro e w1 ⟨rfl, b1⟩
  have H1 : Hid (Below w.heap.size w w1) := andThen HX1.out.2 b1
  clear b1 HX1 HX
  go_wp2
  go_ret2
  exact ⟨rfl, H1.out⟩
set_option maxRecDepth 100000 in
set_option maxHeartbeats 8000000 in
theorem story_ok (S : Sg) (h : SH) (w : World) (k : SgAt w S h) (hT : Text.TabP 3 .i32 Text.Tx.lets w) (hnm : S.nm.size ≤ 140737488355000) (hc : chkS S = true) : Calls Tryd.prog 19 #[sv S h] w fun e w' => StPost S w e w' := by
  obtain ⟨q1, q2, q3, q4, q5, q6, q7, q8, q9⟩ := story_bnds S hc
  have HCK0 : ∀ w', Below w.heap.size w w' → Calls Tryd.prog 18 #[sv S h] w' fun e w'' => e = .returned (.int .i64 0) ∧ Below w'.heap.size w' w'' := fun w' hb => by
    have e := scheck_any S h w' (k.kept hb) (hT.kept hb) hnm
    rw [hc] at e
    exact e
  have HFW0 : ∀ w', Calls Tryd.prog 32 #[sv S h] w' fun e w'' => e = .returned (.bool S.x.fwd) ∧ Below w'.heap.size w' w'' := fun w' => fwd_any S h w'
  have HEN0 : ∀ w', Calls Tryd.prog 25 #[sv S h] w' fun e w'' => e = .returned (.bool S.x.ended) ∧ Below w'.heap.size w' w'' := fun w' => ended_any S h w'
  have HOC0 : ∀ w', Calls Tryd.prog 39 #[sv S h] w' fun e w'' => e = .returned (.int .i64 S.x.outcome) ∧ Below w'.heap.size w' w'' := fun w' => outcome_any S h w'
  obtain ⟨D, hD, hL, hE⟩ := sv_letter S h
  rw [hD] at HCK0 HFW0 HEN0 HOC0 ⊢
  have HCK : Hid _ := HCK0
  have HFW : Hid _ := HFW0
  have HEN : Hid _ := HEN0
  have HOC : Hid _ := HOC0
  have HL : Hid _ := hL
  have HE : Hid (D = scl S h) := hE
  have HX : Hid (∀ t, LB (w.alloc (.cells D.toArray t)) w.heap.size t D ∧ Below w.heap.size w (w.alloc (.cells D.toArray t))) := fun t => ⟨lb_new w D t, up0 _ _⟩
  have HU : Hid (∀ j (hj : j < S.outs.length), ∃ b off d, h.ao = some ⟨b, off, none⟩ ∧ (∀ w', Below w.heap.size w w' → w'.cell? ⟨b, off + j, none⟩ = some d ∧ Bs w' d S.outs[j]) ∧ S.outs[j].length ≤ 16384) := fun j hj => by
    obtain ⟨a1, p1, e1, _, h1⟩ := k.outs.shape
    simp only [Value.slice.injEq] at e1
    obtain ⟨rfl, _, rfl⟩ := e1
    obtain ⟨b, off, r1, r2⟩ := h1 (by intro e; rw [e] at hj; simp at hj)
    obtain ⟨d, q1, q2⟩ := r2 j hj
    exact ⟨b, off, d, r1, fun w' hb => ⟨(hb.cell (World.block_lt_of_cell? _ _ q1)).trans q1, q2.kept hb⟩, by simpa using List.all_eq_true.1 q8 _ (List.getElem_mem hj)⟩
  have HBG : Hid (∀ (t : Nat) (w' : World), w.heap.size ≤ t → TS w.heap.size t S h [] w' → Below w.heap.size w w' → Calls Tryd.prog 35 #[.pointer (some ⟨t, 0, none⟩)] w' fun e w'' => TP w.heap.size t S h [stB S] w' e w'') := fun t w' ht k' hb => tbegin_any _ t S h w' k' ht (k.inp.kept hb) q6
  have HTF : Hid (∀ (t : Nat) (rs : List Rec) (w' : World), w.heap.size ≤ t → TS w.heap.size t S h rs w' → Below w.heap.size w w' → S.x.fwd = false → rs.length ≤ 5000 → Calls Tryd.prog 37 #[.pointer (some ⟨t, 0, none⟩)] w' fun e w'' => TP w.heap.size t S h (rs ++ failL S) w' e w'') := fun t rs w' ht k' hb hf hn => tfail_any _ t S h rs w' k' ht w rfl k hb q7 q9 q2 (q5 hf) hf hn
  have HTR : Hid (∀ (t : Nat) (rs : List Rec) (w' : World), w.heap.size ≤ t → TS w.heap.size t S h rs w' → rs.length ≤ 5000 → Calls Tryd.prog 38 #[.pointer (some ⟨t, 0, none⟩)] w' fun e w'' => TP w.heap.size t S h (rs ++ trL S (trK S) S.x.turn 0 S.x.tr.toNat) w' e w'') := fun t rs w' ht k' hn => tries_any _ t S h rs w' k' ht q3 q4 hn
  have HT1 : Hid (∀ (t : Nat), w.heap.size ≤ t → ∀ (p : Int) (rs' : List Rec) (w' : World), TS w.heap.size t S h rs' w' → rs'.length ≤ 10000 → Calls Tryd.prog 36 #[.pointer (some ⟨t, 0, none⟩), .agg #[.int .i64 0, .int .i64 2, .int .i64 0, .int .i64 p, .int .i64 1, .int .i64 0, .int .i64 0, .int .i64 0, .int .i64 0, .int .i64 0, .string ⟨#[]⟩, .slice none 0 0]] w' fun e w'' => TP w.heap.size t S h (rs' ++ [stR S 2 p 1 0 0 []]) w' e w'') := fun t hB p rs' w' k' hn' => tell_T _ t S h rs' ⟨⟨0, 2, 0, p, 1, 0, 0, 0, 0, 0⟩, ⟨#[]⟩, []⟩ _ w' k' hB (Bs.nil _) (by simp) hn'
  have HT2 : Hid (∀ (t : Nat), w.heap.size ≤ t → ∀ (p : Int) (d : Value) (o : List Nat) (rs' : List Rec) (w' : World), TS w.heap.size t S h rs' w' → rs'.length ≤ 10000 → Bs w' (d) o → o.length ≤ 16384 → Calls Tryd.prog 36 #[.pointer (some ⟨t, 0, none⟩), .agg #[.int .i64 0, .int .i64 3, .int .i64 0, .int .i64 p, .int .i64 0, .int .i64 0, .int .i64 0, .int .i64 0, .int .i64 0, .int .i64 0, .string ⟨#[]⟩, d]] w' fun e w'' => TP w.heap.size t S h (rs' ++ [stR S 3 p 0 0 0 o]) w' e w'') := fun t hB p d o rs' w' k' hn' hb hl => tell_T _ t S h rs' ⟨⟨0, 3, 0, p, 0, 0, 0, 0, 0, 0⟩, ⟨#[]⟩, o⟩ _ w' k' hB hb hl hn'
  have HT3 : Hid (∀ (t : Nat), w.heap.size ≤ t → ∀ (c : Int) (rs' : List Rec) (w' : World), TS w.heap.size t S h rs' w' → rs'.length ≤ 10000 → Calls Tryd.prog 36 #[.pointer (some ⟨t, 0, none⟩), .agg #[.int .i64 0, .int .i64 7, .int .i64 0, .int .i64 0, .int .i64 0, .int .i64 0, .int .i64 0, .int .i64 c, .int .i64 0, .int .i64 0, .string ⟨#[]⟩, .slice none 0 0]] w' fun e w'' => TP w.heap.size t S h (rs' ++ [stR S 7 0 0 0 c []]) w' e w'') := fun t hB c rs' w' k' hn' => tell_T _ t S h rs' ⟨⟨0, 7, 0, 0, 0, 0, 0, c, 0, 0⟩, ⟨#[]⟩, []⟩ _ w' k' hB (Bs.nil _) (by simp) hn'
  have HLEN : Hid (S.outs.length ≤ 32 ∧ (failL S).length ≤ 66 ∧ (trL S (trK S) S.x.turn 0 S.x.tr.toNat).length ≤ 2000) := ⟨q1, by have := failL_len S; omega, by have := trL_len S (trK S) S.x.turn S.x.tr.toNat 0; omega⟩
  obtain ⟨Z, hZ⟩ : ∃ Z, Z = ztl := ⟨_, rfl⟩
  have HZ : Hid (Z = ztl) := hZ
  obtain ⟨TD, hTD⟩ : ∃ TD, TD = D ++ [.slice none 0 0] := ⟨_, rfl⟩
  have HTD : Hid (TD = D ++ [.slice none 0 0]) := hTD
  have HTL : Hid ((Tryd.prog.info? 68).map (·.size) = some TD.length) := by show _ = _; rw [hTD, hE]; exact infoTeller
  have HTZ : Hid (TD.length = Z.length) := by show _ = _; rw [hTD, hE, hZ]; rfl
  have HT1' : Hid (∀ v ∈ TD, v.oneCell' = true) := by
    show ∀ v ∈ TD, _
    rw [hTD, hE]
    intro v hv
    rcases List.mem_append.1 hv with hv | hv
    · exact scl_one _ _ v hv
    · obtain rfl := List.mem_singleton.1 hv; rfl
  clear k hT hnm hc hD hL hE hZ hTD HCK0 HFW0 HEN0 HOC0 q1 q2 q3 q4 q5 q6 q7 q8 q9
  have HX1 : Hid _ := HX.out 28
  go_enter Tryd.func19, Tryd.ntmps19
  go_wp2_with (first | (refine wpList_load_mid rfl 28 _ rfl w.heap.size 0 rfl D _ HX1.out.1.range Tryd.underlying28 rfl HL.out ?_) | fail)
  refine (HCK.out _ HX1.out.2).mono ?_
  rintro e w1 ⟨rfl, b1⟩
  have H1 : Hid (LB w1 w.heap.size 28 D ∧ Below w.heap.size w w1 ∧ w.heap.size ≤ w1.heap.size ∧ w.heap.size ≠ w1.heap.size) := ⟨HX1.out.1.kept b1, andThen HX1.out.2 b1, (andThen HX1.out.2 b1).size, Nat.ne_of_lt (HX1.out.1.kept b1).lt⟩
  clear b1 HX1 HX HCK
  have HTT : Hid ((w1.alloc (.cells Z.toArray 68)).there w1.heap.size 0 TD.toArray.size) := there_of (lb_new w1 Z _) (by simpa using HTZ.out)
  have H2 : Hid (∃ W2, W2 = (w1.alloc (.cells Z.toArray 68)).setCells w1.heap.size 0 TD ∧ LB W2 w.heap.size 28 D ∧ TS w.heap.size w1.heap.size S h [] W2 ∧ Below w.heap.size w W2) := by
    obtain ⟨q1, q2⟩ := box1 w1 68 Z TD HTZ.out
    exact ⟨_, rfl, H1.out.1.kept q2, ⟨.slice none 0 0, [], by rw [← HE.out, ← HTD.out]; exact q1, OutT.nil _ _, rfl⟩, andThen H1.out.2.1 q2⟩
  go_wp2_with (first | (refine wpList_load_mid rfl 28 _ rfl w.heap.size 0 rfl D _ H1.out.1.range Tryd.underlying28 rfl HL.out ?_) | (refine wpList_build_T HE.out HTD.out rfl 13 rfl rfl ?_) | (refine wpList_alloc_T HZ.out rfl rfl ?_) | (refine wpList_store_mid rfl 68 (.tmp 5) (.tmp 14) rfl w1.heap.size 0 TD.toArray rfl rfl HTT.out (by simpa using HTL.out) (all_oneCell_toArray HT1'.out) ?_; (obtain ⟨W2, hW2, hq⟩ := H2.out); (have H3 : Hid _ := hq); (rw [List.toList_toArray, ← hW2]); (clear hW2 hq H2 HTT)) | fail)
  refine (HBG.out _ _ H1.out.2.2.1 H3.out.2.1 H3.out.2.2).mono ?_
  rintro e w2 ⟨rfl, k2, b2, f2⟩
  have HN : Hid (w.heap.size ≤ w1.heap.size ∧ w.heap.size ≠ w1.heap.size) := H1.out.2.2
  have H4 : Hid (LB w2 w.heap.size 28 D ∧ TS w.heap.size w1.heap.size S h [stB S] w2 ∧ Below w.heap.size w w2) := ⟨f2 _ _ _ HN.out.2 (by decide) H3.out.1, k2, H3.out.2.2.trans b2⟩
  clear k2 b2 f2 H3 H1 HBG HTD HTL HTZ HT1' HZ
  generalize w1.heap.size = t at HN H4 ⊢
  have c11 := H4.out.1.cell 11 (.slice h.ao S.outs.length h.co) (by rw [HE.out]; rfl)
  go_wp2
  clear c11
  go_loopw [19] (fun i wr => ∃ (n : Nat) (cur : List Rec), i = .int .i64 (n : Int) ∧ n ≤ S.outs.length ∧ TS w.heap.size t S h cur wr ∧ cur ++ outL S n (S.outs.drop n) = stB S :: outL S 0 S.outs ∧ cur.length ≤ 1 + 2 * n ∧ LB wr w.heap.size 28 D ∧ Below w.heap.size w wr) (fun i _ => S.outs.length - (intOf i).toNat)
  case atStart => exact ⟨0, _, rfl, Nat.zero_le _, H4.out.2.1, by simp, by simp, H4.out.1, H4.out.2.2⟩
  case round =>
    obtain ⟨n, cur, rfl, hn2, kc, he, hcl, lb, bl⟩ := hrel
    have HR : Hid (TS w.heap.size t S h cur wr ∧ LB wr w.heap.size 28 D ∧ Below w.heap.size w wr) := ⟨kc, lb, bl⟩
    have HEQ : Hid (cur ++ outL S n (S.outs.drop n) = stB S :: outL S 0 S.outs) := he
    clear kc lb bl he H4
    have hol := HLEN.out.1
    by_cases hlt2 : n < S.outs.length
    · obtain ⟨b, off, d, hau, qw, q3⟩ := HU.out n hlt2
      obtain ⟨o, hoo⟩ : ∃ o, S.outs[n] = o := ⟨_, rfl⟩
      have HDR : Hid (S.outs.drop n = o :: S.outs.drop (n + 1)) := by show _ = _; rw [List.drop_eq_getElem_cons hlt2, hoo]
      rw [hoo] at qw q3
      obtain ⟨q1, q2⟩ := qw _ HR.out.2.2
      have HQ : Hid (o.length ≤ 16384) := q3
      obtain ⟨ad, cd, rfl, _⟩ := q2.shape
      have HQW : Hid _ := qw
      clear q2 q3 hoo qw
      rw [hau]
      go_wp2_with fail
      refine (HT1.out t HN.out.1 _ _ _ HR.out.1 (by omega)).mono ?_
      rintro e w3 ⟨rfl, k3, b3, f3⟩
      have H6 : Hid (LB w3 w.heap.size 28 D ∧ TS w.heap.size t S h (cur ++ [stR S 2 (n : Int) 1 0 0 []]) w3 ∧ Below w.heap.size w w3) := ⟨f3 _ _ _ HN.out.2 (by decide) HR.out.2.1, k3, HR.out.2.2.trans b3⟩
      have H7 : Hid (Bs w3 (.slice ad o.length cd) o ∧ o.length ≤ 16384) := ⟨(HQW.out _ H6.out.2.2).2, HQ.out⟩
      clear k3 b3 f3 q1
      go_wp2_with fail
      refine (HT2.out t HN.out.1 _ _ o _ _ H6.out.2.1 (by simp; omega) H7.out.1 H7.out.2).mono ?_
      rintro e w4 ⟨rfl, k4, b4, f4⟩
      have H8 : Hid (LB w4 w.heap.size 28 D ∧ TS w.heap.size t S h (cur ++ [stR S 2 (n : Int) 1 0 0 []] ++ [stR S 3 (n : Int) 0 0 0 o]) w4 ∧ Below w.heap.size w w4) := ⟨f4 _ _ _ HN.out.2 (by decide) H6.out.1, k4, H6.out.2.2.trans b4⟩
      clear k4 b4 f4 H6 H7
      go_wp2
      go_roundw
      case rel => exact ⟨n + 1, _, by go_num, by omega, H8.out.2.1, by rw [← HEQ.out, HDR.out]; simp [outL], by simp; omega, H8.out.1, H8.out.2.2⟩
      case measure => simp [intOf]; omega
    · obtain rfl : n = S.outs.length := by omega
      have hfin : cur = stB S :: outL S 0 S.outs := by
        have := HEQ.out
        rw [List.drop_length] at this
        simpa [outL] using this
      subst hfin
      clear HEQ HU HT1 HT2
      go_wp2_with (first | (refine wpList_load_mid rfl 28 _ rfl w.heap.size 0 rfl D _ HR.out.2.1.range Tryd.underlying28 rfl HL.out ?_) | fail)
      refine (HFW.out _).mono ?_
      rintro e x1 ⟨rfl, b1⟩
      have H1 : Hid (TS w.heap.size t S h (stB S :: outL S 0 S.outs) x1 ∧ LB x1 w.heap.size 28 D ∧ Below w.heap.size w x1) := ⟨HR.out.1.kept b1, HR.out.2.1.kept b1, andThen HR.out.2.2 b1⟩
      clear b1 HR HFW
      cases hf : S.x.fwd with
      | true =>
        go_wp2_with fail
        refine (HTR.out t _ _ HN.out.1 H1.out.1 (by simp only [List.length_cons, outL_len]; have := HLEN.out.2.1; omega)).mono ?_
        rintro e x3 ⟨rfl, k3, b3, f3⟩
        have H3 : Hid (TS w.heap.size t S h ((stB S :: outL S 0 S.outs) ++ trL S (trK S) S.x.turn 0 S.x.tr.toNat) x3 ∧ LB x3 w.heap.size 28 D ∧ Below w.heap.size w x3) := ⟨k3, f3 _ _ _ HN.out.2 (by decide) H1.out.2.1, H1.out.2.2.trans b3⟩
        clear k3 b3 f3 H1
        go_wp2_with (first | (refine wpList_load_mid rfl 28 _ rfl w.heap.size 0 rfl D _ H3.out.2.1.range Tryd.underlying28 rfl HL.out ?_) | fail)
        refine (HEN.out _).mono ?_
        rintro e x4 ⟨rfl, b4⟩
        have H4 : Hid (TS w.heap.size t S h ((stB S :: outL S 0 S.outs) ++ trL S (trK S) S.x.turn 0 S.x.tr.toNat) x4 ∧ LB x4 w.heap.size 28 D ∧ Below w.heap.size w x4) := ⟨H3.out.1.kept b4, H3.out.2.1.kept b4, andThen H3.out.2.2 b4⟩
        clear b4 H3
        cases he : S.x.ended with
        | false =>
          have hff : failL S = [] := by unfold failL; rw [if_pos hf]
          have hee : endL S = [] := by unfold endL; rw [if_neg (by simp [he])]
          obtain ⟨v9, ps9, l9, o9, e9⟩ := H4.out.1
          obtain ⟨a9, n9, p9, rfl⟩ : ∃ a n c, v9 = .slice a n c := by rcases o9.1.2 with ⟨e, _⟩ | ⟨_, _, _, e, _⟩ <;> exact ⟨_, _, _, e⟩
          have c16 := l9.cell 16 (.slice a9 n9 p9) rfl
          have HO9 : Hid (OutT w.heap.size _ (.slice a9 n9 p9) ps9 ∧ ps9.map Prod.fst = storyP S) := ⟨o9, e9.trans (by rw [storyP, storyT, hff, hee]; simp)⟩
          clear l9 o9 e9
          go_wp2
          go_ret2
          exact ⟨_, ps9, rfl, HO9.out.1, HO9.out.2, H4.out.2.2⟩
        | true =>
          have hff : failL S = [] := by unfold failL; rw [if_pos hf]
          have hee : endL S = [stR S 7 0 0 0 S.x.outcome []] := by unfold endL; rw [if_pos he]
          go_wp2_with (first | (refine wpList_load_mid rfl 28 _ rfl w.heap.size 0 rfl D _ H4.out.2.1.range Tryd.underlying28 rfl HL.out ?_) | fail)
          refine (HOC.out _).mono ?_
          rintro e x5 ⟨rfl, b5⟩
          have H5 : Hid (TS w.heap.size t S h ((stB S :: outL S 0 S.outs) ++ trL S (trK S) S.x.turn 0 S.x.tr.toNat) x5 ∧ LB x5 w.heap.size 28 D ∧ Below w.heap.size w x5) := ⟨H4.out.1.kept b5, H4.out.2.1.kept b5, andThen H4.out.2.2 b5⟩
          clear b5 H4
          go_wp2_with fail
          refine (HT3.out t HN.out.1 _ _ _ H5.out.1 (by simp only [List.length_append, List.length_cons, outL_len]; have := HLEN.out.2; omega)).mono ?_
          rintro e x6 ⟨rfl, k6, b6, f6⟩
          have H6 : Hid (TS w.heap.size t S h (((stB S :: outL S 0 S.outs) ++ trL S (trK S) S.x.turn 0 S.x.tr.toNat) ++ [stR S 7 0 0 0 S.x.outcome []]) x6 ∧ LB x6 w.heap.size 28 D ∧ Below w.heap.size w x6) := ⟨k6, f6 _ _ _ HN.out.2 (by decide) H5.out.2.1, H5.out.2.2.trans b6⟩
          clear k6 b6 f6 H5
          obtain ⟨v9, ps9, l9, o9, e9⟩ := H6.out.1
          obtain ⟨a9, n9, p9, rfl⟩ : ∃ a n c, v9 = .slice a n c := by rcases o9.1.2 with ⟨e, _⟩ | ⟨_, _, _, e, _⟩ <;> exact ⟨_, _, _, e⟩
          have c16 := l9.cell 16 (.slice a9 n9 p9) rfl
          have HO9 : Hid (OutT w.heap.size _ (.slice a9 n9 p9) ps9 ∧ ps9.map Prod.fst = storyP S) := ⟨o9, e9.trans (by rw [storyP, storyT, hff, hee]; simp)⟩
          clear l9 o9 e9
          go_wp2
          go_ret2
          exact ⟨_, ps9, rfl, HO9.out.1, HO9.out.2, H6.out.2.2⟩
      | false =>
        go_wp2_with fail
        refine (HTF.out t _ _ HN.out.1 H1.out.1 H1.out.2.2 hf (by simp only [List.length_cons, outL_len]; omega)).mono ?_
        rintro e x2 ⟨rfl, k2, b2, f2⟩
        have H2 : Hid (TS w.heap.size t S h ((stB S :: outL S 0 S.outs) ++ failL S) x2 ∧ LB x2 w.heap.size 28 D ∧ Below w.heap.size w x2) := ⟨k2, f2 _ _ _ HN.out.2 (by decide) H1.out.2.1, H1.out.2.2.trans b2⟩
        clear k2 b2 f2 H1
        go_wp2_with fail
        refine (HTR.out t _ _ HN.out.1 H2.out.1 (by simp only [List.length_append, List.length_cons, outL_len]; have := HLEN.out.2.1; omega)).mono ?_
        rintro e x3 ⟨rfl, k3, b3, f3⟩
        have H3 : Hid (TS w.heap.size t S h (((stB S :: outL S 0 S.outs) ++ failL S) ++ trL S (trK S) S.x.turn 0 S.x.tr.toNat) x3 ∧ LB x3 w.heap.size 28 D ∧ Below w.heap.size w x3) := ⟨k3, f3 _ _ _ HN.out.2 (by decide) H2.out.2.1, H2.out.2.2.trans b3⟩
        clear k3 b3 f3 H2
        go_wp2_with (first | (refine wpList_load_mid rfl 28 _ rfl w.heap.size 0 rfl D _ H3.out.2.1.range Tryd.underlying28 rfl HL.out ?_) | fail)
        refine (HEN.out _).mono ?_
        rintro e x4 ⟨rfl, b4⟩
        have H4 : Hid (TS w.heap.size t S h (((stB S :: outL S 0 S.outs) ++ failL S) ++ trL S (trK S) S.x.turn 0 S.x.tr.toNat) x4 ∧ LB x4 w.heap.size 28 D ∧ Below w.heap.size w x4) := ⟨H3.out.1.kept b4, H3.out.2.1.kept b4, andThen H3.out.2.2 b4⟩
        clear b4 H3
        cases he : S.x.ended with
        | false =>
          have hee : endL S = [] := by unfold endL; rw [if_neg (by simp [he])]
          obtain ⟨v9, ps9, l9, o9, e9⟩ := H4.out.1
          obtain ⟨a9, n9, p9, rfl⟩ : ∃ a n c, v9 = .slice a n c := by rcases o9.1.2 with ⟨e, _⟩ | ⟨_, _, _, e, _⟩ <;> exact ⟨_, _, _, e⟩
          have c16 := l9.cell 16 (.slice a9 n9 p9) rfl
          have HO9 : Hid (OutT w.heap.size _ (.slice a9 n9 p9) ps9 ∧ ps9.map Prod.fst = storyP S) := ⟨o9, e9.trans (by rw [storyP, storyT, hee]; simp)⟩
          clear l9 o9 e9
          go_wp2
          go_ret2
          exact ⟨_, ps9, rfl, HO9.out.1, HO9.out.2, H4.out.2.2⟩
        | true =>
          have hee : endL S = [stR S 7 0 0 0 S.x.outcome []] := by unfold endL; rw [if_pos he]
          go_wp2_with (first | (refine wpList_load_mid rfl 28 _ rfl w.heap.size 0 rfl D _ H4.out.2.1.range Tryd.underlying28 rfl HL.out ?_) | fail)
          refine (HOC.out _).mono ?_
          rintro e x5 ⟨rfl, b5⟩
          have H5 : Hid (TS w.heap.size t S h (((stB S :: outL S 0 S.outs) ++ failL S) ++ trL S (trK S) S.x.turn 0 S.x.tr.toNat) x5 ∧ LB x5 w.heap.size 28 D ∧ Below w.heap.size w x5) := ⟨H4.out.1.kept b5, H4.out.2.1.kept b5, andThen H4.out.2.2 b5⟩
          clear b5 H4
          go_wp2_with fail
          refine (HT3.out t HN.out.1 _ _ _ H5.out.1 (by simp only [List.length_append, List.length_cons, outL_len]; have := HLEN.out.2; omega)).mono ?_
          rintro e x6 ⟨rfl, k6, b6, f6⟩
          have H6 : Hid (TS w.heap.size t S h ((((stB S :: outL S 0 S.outs) ++ failL S) ++ trL S (trK S) S.x.turn 0 S.x.tr.toNat) ++ [stR S 7 0 0 0 S.x.outcome []]) x6 ∧ LB x6 w.heap.size 28 D ∧ Below w.heap.size w x6) := ⟨k6, f6 _ _ _ HN.out.2 (by decide) H5.out.2.1, H5.out.2.2.trans b6⟩
          clear k6 b6 f6 H5
          obtain ⟨v9, ps9, l9, o9, e9⟩ := H6.out.1
          obtain ⟨a9, n9, p9, rfl⟩ : ∃ a n c, v9 = .slice a n c := by rcases o9.1.2 with ⟨e, _⟩ | ⟨_, _, _, e, _⟩ <;> exact ⟨_, _, _, e⟩
          have c16 := l9.cell 16 (.slice a9 n9 p9) rfl
          have HO9 : Hid (OutT w.heap.size _ (.slice a9 n9 p9) ps9 ∧ ps9.map Prod.fst = storyP S) := ⟨o9, e9.trans (by rw [storyP, storyT, hee]; simp)⟩
          clear l9 o9 e9
          go_wp2
          go_ret2
          exact ⟨_, ps9, rfl, HO9.out.1, HO9.out.2, H6.out.2.2⟩
end Go.Proofs.YtgjlkkikgkbamaaDoor
