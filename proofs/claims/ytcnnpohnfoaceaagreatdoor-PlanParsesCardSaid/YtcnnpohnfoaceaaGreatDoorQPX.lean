import Derived.Test.YtcnnpohnfoaceaaGreatDoorQPV
/-
  annalsref15: the reader's said.
-/
namespace Go.Proofs.YtcnnpohnfoaceaaGreatDoor
open Go Go.RowKit
open Wb
open Text.Tx (Wd wdc wds wordP wdA)

/-- how many words are left -/
def rleft (b : Nat) (A : List Wd) (w : World) : Nat := match w.cell? ⟨b, 1, none⟩ with | some (.int _ z) => A.length - z.toNat | _ => 0
theorem RR.left {b : Nat} {w : World} {vw : Value} {A : List Wd} {i en : Nat} (h : RR b w vw A i en) : rleft b A w = A.length - i := by
  unfold rleft
  rw [h.1.cell 1 _ rfl]
  rfl
/-- the steps that are said, in a row of their own -/
def SdR (B : Nat) (w : World) (v : Value) (l : List Sd) : Prop := w.ownsRow B 62 6 v l.length (l.flatMap sdl)
def SaPost (b : Nat) (w : World) (vw : Value) (A : List Wd) (en : Nat) (Z : Except (List Wd) (List Sd)) (e : Ending) (w' : World) : Prop := ∃ i', RR b w' vw A i' en ∧ Chg b w w' ∧ match Z with
  | .error ws => A.drop i' = ws ∧ e = .returned (.tuple #[.slice none 0 0, .bool false])
  | .ok l => ∃ v, e = .returned (.tuple #[v, .bool true]) ∧ SdR w.heap.size w' v l ∧ l.length ≤ 65536
theorem infoSaid3 : (Tryz.prog.info? 62).map (fun i => (i.zero, i.size, i.bytes)) = some (some (.agg (sdl sdZ).toArray), 6, 56) := by kernel_rfl
theorem rstep_len {pv : Bool} {ws r : List Wd} {s : Sd} (h : rstepP pv ws = .ok (s, r)) : r.length < ws.length := by
  have hst := step_r ⟨if pv = true then 1 else 0, [], []⟩ ws
  have e9 : decide ((⟨if pv = true then 1 else 0, [], []⟩ : RdP).piv ≠ 0) = pv := by cases pv <;> rfl
  rw [e9, h] at hst
  exact (stepP_len hst).1
/-- what comes behind a step -/
def onP (f : Nat) (pv : Bool) (l : List Sd) (s : Sd) : List Wd → Except (List Wd) (List Sd)
  | [] => .ok (l ++ [s])
  | d :: r => match signP ⟨#[44]⟩ (d :: r) with
    | none => .error (d :: r)
    | some w2 => rsaidP f (pv || s.pv) (l ++ [s]) w2
theorem rsaid_on {f : Nat} {pv : Bool} {l : List Sd} {s : Sd} {ws0 ws : List Wd} (h : rstepP pv ws0 = .ok (s, ws)) : rsaidP (f + 1) pv l ws0 = onP f pv l s ws := by
  rw [rsaidP, h]
  cases ws <;> rfl
theorem onP_no {f : Nat} {pv : Bool} {l : List Sd} {s : Sd} {d : Wd} {r : List Wd} (h : signP ⟨#[44]⟩ (d :: r) = none) : onP f pv l s (d :: r) = .error (d :: r) := by
  unfold onP
  simp only
  rw [h]
theorem onP_yes {f : Nat} {pv : Bool} {l : List Sd} {s : Sd} {d : Wd} {r w2 : List Wd} (h : signP ⟨#[44]⟩ (d :: r) = some w2) : onP f pv l s (d :: r) = rsaidP f (pv || s.pv) (l ++ [s]) w2 := by
  unfold onP
  simp only
  rw [h]
theorem SdR.chg {b B : Nat} {w w' : World} {v : Value} {l : List Sd} (h : SdR B w v l) (hb : b < B) (c : Chg b w w') : SdR B w' v l :=
  ownsRow_same h fun g e => c.2 g (by have := (World.ownsRow.lt h g e).1; omega) (World.ownsRow.lt h g e).2
set_option maxRecDepth 100000 in
set_option maxHeartbeats 8000000 in
theorem rrsaid_any (b : Nat) (vw : Value) (A : List Wd) (i en : Nat) (w : World) (h : RR b w vw A i en) :
    Calls Tryz.prog 22 #[.pointer (some ⟨b, 0, none⟩)] w fun e w' => SaPost b w vw A en (rsaidP (A.drop i).length false [] (A.drop i)) e w' := by
  have HST : Hid (∀ pv W i, RR b W vw A i en → Calls Tryz.prog 43 #[.pointer (some ⟨b, 0, none⟩), .bool pv] W fun e w' => SdPost b W vw A en (rstepP pv (A.drop i)) e w') := fun pv W i h => rrstep_any b pv vw A i en W h
  have HSG : Hid (∀ W i, RR b W vw A i en → Calls Tryz.prog 21 #[.pointer (some ⟨b, 0, none⟩), .string ⟨#[44]⟩] W fun e w' => e = .returned (.bool (signP ⟨#[44]⟩ (A.drop i)).isSome) ∧ Below W.heap.size W w') := fun W i h => rrsign_any b _ vw A i en W h
  obtain ⟨Z, hZ⟩ : ∃ Z, rsaidP (A.drop i).length false [] (A.drop i) = Z := ⟨_, rfl⟩
  rw [hZ]
  have HZ : Hid (rsaidP (A.drop i).length false [] (A.drop i) = Z) := hZ
  obtain ⟨ao, cap, hv, -⟩ := h.2.1
  subst hv
  have H0 : Hid (RR b w (.slice ao A.length cap) A i en) := h
  have hbw : b < w.heap.size := h.lt
  clear h hZ
  go_enter Tryz.func22, Tryz.ntmps22
  go_wp2_with fail
  go_loopw [4, 5] (fun vr pr wr => ∃ (l : List Sd) (pv : Bool) (i f : Nat), pr = .bool pv ∧ RR b wr (.slice ao A.length cap) A i en ∧ Chg b w wr ∧ SdR w.heap.size wr vr l ∧ l.length ≤ i ∧ (A.drop i).length ≤ f ∧ rsaidP f pv l (A.drop i) = Z) (fun _ _ wr => rleft b A wr)
  case atStart => exact ⟨[], false, i, _, rfl, H0.out, Chg.refl _ _, World.ownsRow_nil _ _ _ _, Nat.zero_le _, Nat.le_refl _, HZ.out⟩
  case round =>
    obtain ⟨l, pv, i, f, rfl, hR, hC, hS, hl, hf, hE⟩ := hrel
    clear H0 HZ
    obtain ⟨a4, c4, rfl⟩ := ownsRow_shape hS
    have HW : Hid (RR b wr (.slice ao A.length cap) A i en ∧ Chg b w wr ∧ SdR w.heap.size wr (.slice a4 l.length c4) l) := ⟨hR, hC, hS⟩
    have HLF : Hid (rleft b A wr = A.length - i) := hR.left
    have HAl : Hid (A.length ≤ 65536 ∧ i ≤ A.length) := ⟨hR.2.2.1, hR.2.2.2⟩
    have HE : Hid ((A.drop i).length ≤ f ∧ rsaidP f pv l (A.drop i) = Z ∧ l.length ≤ i) := ⟨hf, hE, hl⟩
    clear hR hC hS hf hE hl
    go_wp2_with fail
    refine (HST.out pv _ i HW.out.1).mono ?_
    rintro e w1 ⟨j, R1, C1, hm⟩
    cases hz : rstepP pv (A.drop i) with
    | error ws =>
      rw [hz] at hm
      obtain ⟨hd, ⟨⟨sd, su, st⟩, snb, spv, sat⟩, rfl⟩ := hm
      have hZ : Z = .error ws := by
        have e := HE.out.2.1
        cases f with
        | zero =>
          have e0 : A.drop i = [] := List.eq_nil_of_length_eq_zero (Nat.le_zero.1 HE.out.1)
          rw [e0] at hz e
          rw [rsaidP] at e
          rw [← e]
          have e1 : ws = [] := by
            unfold rstepP takeP at hz
            simp at hz
            exact hz
          rw [e1]
        | succ f =>
          rw [rsaidP, hz] at e
          exact e.symm
      have HP : Hid (∀ o, SaPost b w (.slice ao A.length cap) A en Z (.returned (.tuple #[.slice none 0 0, .bool false])) (w1.alloc o)) := fun o => ⟨j, R1.kept (up0 _ _), (HW.out.2.1.trans C1).trans (Chg.of R1.lt (up0 _ _)), by rw [hZ]; exact ⟨hd, rfl⟩⟩
      clear R1 C1 hd hz hZ
      simp only [sdl]
      go_wp2_with fail
      refine bodyPost_ret (by simp [results, Tryz.results22, go_sem]; try rfl) rfl ?_
      exact HP.out _
    | ok x =>
      obtain ⟨s, ws⟩ := x
      rw [hz] at hm
      obtain ⟨hd, rfl⟩ := hm
      have hlen := rstep_len hz
      obtain ⟨f, rfl⟩ : ∃ f', f = f' + 1 := ⟨f - 1, by have := HE.out.1; omega⟩
      have hE2 : Z = onP f pv l s ws := by
        rw [← HE.out.2.1]
        exact rsaid_on hz
      have hij : i < j := by
        rw [← hd, List.length_drop, List.length_drop] at hlen
        have := HAl.out.2
        omega
      have hjA : j ≤ A.length := R1.2.2.2
      have HN : Hid (A.drop j = ws ∧ Z = onP f pv l s ws) := ⟨hd, hE2⟩
      have HQ : Hid (ws.length < f + 1) := by
        have := HE.out.1
        show _ < _
        omega
      have HLL : Hid (l.length + 1 ≤ j) := by
        have := HE.out.2.2
        show _ ≤ _
        omega
      have hl6 : l.length ≤ 1000000 := by
        have := HE.out.2.2
        have := HAl.out
        omega
      have H2 : Hid (∀ o, o = .cells (sdl s).toArray 62 → RR b (w1.alloc o) (.slice ao A.length cap) A j en ∧ Chg b w (w1.alloc o) ∧ SdR w.heap.size (w1.alloc o) (.slice a4 l.length c4) l ∧ LB (w1.alloc o) w1.heap.size 62 (sdl s) ∧ ∀ g, (Value.slice a4 l.length c4).ownBlock = some g → g < w1.heap.size) := fun o ho => by
        subst ho
        exact ⟨R1.kept (up0 _ _), (HW.out.2.1.trans C1).trans (Chg.of R1.lt (up0 _ _)), (HW.out.2.2.chg hbw C1).chg hbw (Chg.of R1.lt (up0 _ _)), lb_new _ _ _, fun g e => (World.ownsRow.lt (HW.out.2.2.chg hbw C1) g e).2⟩
      clear R1 C1 hd hz hE2 hlen HE HW
      have hone : Hid (∀ v ∈ sdl s, v.oneCell' = true) := sdl_one s
      obtain ⟨⟨sd, su, st⟩, snb, spv, sat⟩ := s
      simp only [sdl] at H2 ⊢
      go_upto_region 4 with fail
      have H3 := H2.out _ rfl
      generalize w1.alloc (.cells #[.string sd, .string su, .int .i64 st, .bool snb, .bool spv, .int .i64 sat] 62) = W at *
      generalize w1.heap.size = q at *
      obtain ⟨R3, C3, S3, L3, O3⟩ := H3
      have HO : Hid _ := O3
      have c0 := L3.cell 0 _ rfl
      have c1 := L3.cell 1 _ rfl
      have c2 := L3.cell 2 _ rfl
      have c3 := L3.cell 3 _ rfl
      have c4' := L3.cell 4 _ rfl
      have c5 := L3.cell 5 _ rfl
      have H4 : Hid (∀ o, RR b (W.alloc o) (.slice ao A.length cap) A j en ∧ Chg b w (W.alloc o) ∧ SdR w.heap.size (W.alloc o) (.slice a4 l.length c4) l ∧ LB (W.alloc o) q 62 [.string sd, .string su, .int .i64 st, .bool snb, .bool spv, .int .i64 sat]) := fun o => ⟨R3.kept (up0 _ _), C3.trans (Chg.of R3.lt (up0 _ _)), S3.chg hbw (Chg.of R3.lt (up0 _ _)), L3.kept (up0 _ _)⟩
      have HWB : Hid (w.heap.size ≤ W.heap.size) := C3.1.size
      clear R3 C3 S3 L3 O3 H2
      go_wp2_with (at_builtin; refine wpList_app _ rfl (.tmp 16) (.tmp 18) 62 56 rfl w.heap.size _ 6 56 infoSaid3 rfl (by decide) (by decide) Tryz.underlying56 _ l.length _ rfl (H4.out _).2.2.1 W.heap.size [.string sd, .string su, .int .i64 st, .bool snb, .bool spv, .int .i64 sat] rfl rfl (lb_new W [.string sd, .string su, .int .i64 st, .bool snb, .bool spv, .int .i64 sat] 62).range hone.out hl6 (by rw [heap_one]; exact Nat.le_succ_of_le HWB.out) ?_)
      intro v3 w3 hrow3 hg3
      have H5 : Hid (RR b w3 (.slice ao A.length cap) A j en ∧ Chg b w w3 ∧ SdR w.heap.size w3 v3 (l ++ [⟨⟨sd, su, st⟩, snb, spv, sat⟩]) ∧ w3.cell? ⟨q, 4, none⟩ = some (.bool spv)) := by
        obtain ⟨k1, k2, k3, k4⟩ := H4.out (.cells #[.string sd, .string su, .int .i64 st, .bool snb, .bool spv, .int .i64 sat] 62)
        have hn : ∀ g, g < w.heap.size → w3.heap[g]? = (W.alloc (.cells #[.string sd, .string su, .int .i64 st, .bool snb, .bool spv, .int .i64 sat] 62)).heap[g]? := fun g hg => hg3.block _ (Nat.lt_of_lt_of_le hg k2.1.size) (fun e => by
          have := (World.ownsRow.lt k3 _ e.symm).1
          omega)
        refine ⟨k1.same fun g hg => hn g (Nat.lt_of_le_of_lt hg hbw), ⟨k2.1.grown hg3 (Nat.le_trans (Nat.le_of_lt hbw) k2.1.size) (fun g e => ?_), fun g h1 h2 => (hn g h2).trans (k2.2 g h1 h2)⟩, ?_, ?_⟩
        · have := (World.ownsRow.lt k3 _ e).1
          omega
        · unfold SdR
          rw [List.length_append, List.flatMap_append]
          exact hrow3
        · refine LB.cell (t := 62) ((hg3.block _ k4.lt (fun e => ?_)).trans k4) 4 _ rfl
          have := HO.out _ e.symm
          omega
      clear hrow3 hg3 H4 HO c0 c1 c2 c3 c4' c5 HWB
      have c4' := H5.out.2.2.2
      have c0 := H5.out.1.1.cell 0 _ rfl
      have c1 := H5.out.1.1.cell 1 _ rfl
      have HC : Hid (∀ n, RR b (w3.drewN n) (.slice ao A.length cap) A j en ∧ Chg b w (w3.drewN n) ∧ SdR w.heap.size (w3.drewN n) v3 (l ++ [⟨⟨sd, su, st⟩, snb, spv, sat⟩])) := fun n => by
        have q := below_drewN (Below.refl w3.heap.size w3) n
        exact ⟨H5.out.1.kept q, H5.out.2.1.trans (Chg.of H5.out.1.lt q), H5.out.2.2.1.chg hbw (Chg.of H5.out.1.lt q)⟩
      clear H5
      obtain ⟨a3, c3, rfl⟩ : ∃ a3, ∃ c3 : Nat, v3 = .slice a3 (l.length + 1) c3 := by
        have := ownsRow_shape (HC.out 0).2.2
        rw [List.length_append] at this
        exact this
      rcases Nat.lt_or_ge j A.length with hjl | hjl
      · have hne : ((j : Int) == (A.length : Int)) = false := by simp; omega
        have hne2 : (j == A.length) = false := by simp; omega
        obtain ⟨d, r, hdr⟩ : ∃ d r, A.drop j = d :: r := ⟨_, _, List.drop_eq_getElem_cons hjl⟩
        have hws : ws = d :: r := by rw [← HN.out.1, hdr]
        subst hws
        obtain ⟨pw, hpw⟩ : ∃ pw, pw = (pv || spv) := ⟨_, rfl⟩
        have HPW : Hid (pw = (pv || spv)) := hpw
        clear hpw
        cases pv
        all_goals
          go_wp2_with fail
          go_quiet (fail)
          have H6 : Hid _ := HC.out nq
          generalize w3.drewN nq = w5 at *
          go_wp2_with fail
          refine (HSG.out _ _ H6.out.1).mono ?_
          rintro e w6 ⟨rfl, b6⟩
          have H7 : Hid (RR b w6 (.slice ao A.length cap) A j en ∧ Chg b w w6 ∧ SdR w.heap.size w6 (.slice a3 (l.length + 1) c3) (l ++ [⟨⟨sd, su, st⟩, snb, spv, sat⟩])) := ⟨H6.out.1.kept b6, H6.out.2.1.trans (Chg.of H6.out.1.lt b6), H6.out.2.2.chg hbw (Chg.of H6.out.1.lt b6)⟩
          clear b6 H6 HC c0 c1 c4'
          rcases sign_facts (t := ⟨#[44]⟩) (ws := A.drop j) with ⟨h1, h2⟩ | ⟨d2, r2, hd2, h2, h1⟩
          · rw [h1]
            have hZ : Z = .error (d :: r) := by
              rw [HN.out.2]
              rw [hdr] at h2
              exact onP_no h2
            have HP : Hid (SaPost b w (.slice ao A.length cap) A en Z (.returned (.tuple #[.slice none 0 0, .bool false])) w6) := ⟨j, H7.out.1, H7.out.2.1, by rw [hZ]; exact ⟨hdr, rfl⟩⟩
            clear hZ h1 h2
            go_wp2_with fail
            refine bodyPost_ret (by simp [results, Tryz.results22, go_sem]; try rfl) rfl ?_
            exact HP.out
          · rw [h1]
            have c1 := H7.out.1.1.cell 1 _ rfl
            have f1 := H7.out.1.1.free 1
            have hr2 : A.drop (j + 1) = r2 := drop_next hd2
            have HZ2 : Hid (Z = rsaidP f pw (l ++ [⟨⟨sd, su, st⟩, snb, spv, sat⟩]) (A.drop (j + 1))) := by
              have e := HN.out.2
              rw [hdr] at h2
              rw [onP_yes h2] at e
              rw [hr2, HPW.out]
              exact e
            have HQ2 : Hid ((A.drop (j + 1)).length ≤ f) := by
              have := HQ.out
              rw [hr2]
              rw [hdr] at hd2
              injection hd2 with _ hd2
              rw [← hd2]
              simp only [List.length_cons] at this
              show _ ≤ _
              omega
            have hj6 : j ≤ 65536 := by have := HAl.out; omega
            clear h1 h2 hr2 hd2
            go_wp2_with fail
            have R8 := H7.out.1.next (j + 1) hjl
            have C8 := H7.out.2.1.trans (Chg.set b 1 w6 (.int .i64 (((j + 1 : Nat) : Int))))
            have S8 := H7.out.2.2.chg hbw (Chg.set b 1 w6 (.int .i64 (((j + 1 : Nat) : Int))))
            go_roundw
            case rel => exact ⟨_, pw, j + 1, f, by rw [HPW.out]; rfl, R8, C8, S8, by have := HLL.out; rw [List.length_append]; show l.length + 1 ≤ _; omega, HQ2.out, HZ2.out.symm⟩
            case measure =>
              have e1 := R8.left
              have e2 := HLF.out
              have := HAl.out
              refine Nat.lt_of_le_of_lt (Nat.le_of_eq e1) ?_
              rw [e2]
              omega
      · obtain rfl : j = A.length := by omega
        have hws : ws = [] := by rw [← HN.out.1]; exact List.drop_length
        subst hws
        have HP : Hid (∀ n, SaPost b w (.slice ao A.length cap) A en Z (.returned (.tuple #[.slice a3 (l.length + 1) c3, .bool true])) (w3.drewN n)) := fun n => ⟨A.length, (HC.out n).1, (HC.out n).2.1, by
          rw [HN.out.2]
          refine ⟨_, rfl, (HC.out n).2.2, ?_⟩
          have := HLL.out
          have := HAl.out
          rw [List.length_append]
          show l.length + 1 ≤ _
          omega⟩
        cases pv
        all_goals
          go_wp2_with fail
          go_quiet (fail)
          go_wp2_with fail
          refine bodyPost_ret (by simp [results, Tryz.results22, go_sem]; try rfl) rfl ?_
          exact HP.out _
end Go.Proofs.YtcnnpohnfoaceaaGreatDoor
