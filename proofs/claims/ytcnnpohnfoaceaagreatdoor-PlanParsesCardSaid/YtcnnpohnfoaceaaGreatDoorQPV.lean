import Derived.Test.YtcnnpohnfoaceaaGreatDoorQPT
import Derived.Test.YtcnnpohnfoaceaaGreatDoorQB1
/-
  annalsref15: the reader's step.
-/
namespace Go.Proofs.YtcnnpohnfoaceaaGreatDoor
open Go Go.RowKit
open Wb
open Text.Tx (Wd wdc wds wordP wdA)

def sdl (s : Sd) : List Value := [.string s.s.d, .string s.s.u, .int .i64 s.s.t, .bool s.nb, .bool s.pv, .int .i64 s.at_]
def sdZ : Sd := ⟨⟨⟨#[]⟩, ⟨#[]⟩, 0⟩, false, false, 0⟩
theorem infoSaid : (Tryz.prog.info? 62).map (·.size) = some 6 := by kernel_rfl
theorem sdl_one (s : Sd) : ∀ v ∈ sdl s, v.oneCell' = true := fun v hv => by
  simp only [sdl, List.mem_cons, List.not_mem_nil, or_false] at hv
  rcases hv with rfl | rfl | rfl | rfl | rfl | rfl <;> rfl
theorem RR.same {b : Nat} {w w' : World} {vw : Value} {A : List Wd} {i en : Nat} (h : RR b w vw A i en) (hb : ∀ g, g ≤ b → w'.heap[g]? = w.heap[g]?) : RR b w' vw A i en :=
  ⟨(hb b (Nat.le_refl _)).trans h.1, h.2.1.same fun g hg => hb g (Nat.le_of_lt hg), h.2.2⟩
/-- the reader, the step that is read, the step that is handed out -/
structure SM (b c q : Nat) (w W : World) (vw : Value) (A : List Wd) (i en : Nat) (s : Sd) : Prop where
  rd : RR b W vw A i en
  lc : LB W c 62 (sdl sdZ)
  lq : LB W q 62 (sdl s)
  ch : Chg b w W
  bc : w.heap.size ≤ c
  cq : c < q
  wb : b < w.heap.size
theorem SM.up {b c q : Nat} {w W W' : World} {vw : Value} {A : List Wd} {i en : Nat} {s : Sd} (h : SM b c q w W vw A i en s) (hb : Below W.heap.size W W') : SM b c q w W' vw A i en s :=
  ⟨h.rd.kept hb, h.lc.kept hb, h.lq.kept hb, h.ch.trans (Chg.of h.rd.lt hb), h.bc, h.cq, h.wb⟩
theorem SM.inc {b c q : Nat} {w W : World} {vw : Value} {A : List Wd} {i en : Nat} {s : Sd} (h : SM b c q w W vw A i en s) (hi : i < A.length) : SM b c q w (W.setCell ⟨b, 1, none⟩ (.int .i64 ((i : Int) + 1))) vw A (i + 1) en s :=
  ⟨h.rd.next (i + 1) hi, h.lc.other _ _ (by have := h.bc; have := h.wb; show c ≠ b; omega), h.lq.other _ _ (by have := h.bc; have := h.cq; have := h.wb; show q ≠ b; omega), h.ch.trans (Chg.set _ _ _ _), h.bc, h.cq, h.wb⟩
theorem SM.put {b c q : Nat} {w W : World} {vw : Value} {A : List Wd} {i en : Nat} {s s' : Sd} (h : SM b c q w W vw A i en s) (j : Nat) (v : Value) (e : (sdl s).set j v = sdl s') : SM b c q w (W.setCell ⟨q, j, none⟩ v) vw A i en s' := by
  have h1 := h.bc
  have h2 := h.cq
  have h3 := h.wb
  refine ⟨h.rd.same fun g hg => set_other _ _ _ _ (by show g ≠ q; omega), h.lc.other _ _ (by show c ≠ q; omega), ?_, ⟨Below.setCell (p := ⟨q, j, none⟩) h.ch.1 (by show b ≤ q; omega) v, fun g hg hl => (set_other _ _ _ _ (by show g ≠ q; omega)).trans (h.ch.2 g hg hl)⟩, h1, h2, h3⟩
  have := h.lq.set j v
  rw [e] at this
  exact this
/-- handed out -/
theorem SM.fin {b c q : Nat} {w W : World} {vw : Value} {A : List Wd} {i en : Nat} {s : Sd} (h : SM b c q w W vw A i en s) : RR b (W.setCells c 0 (sdl s)) vw A i en ∧ Chg b w (W.setCells c 0 (sdl s)) ∧ LB (W.setCells c 0 (sdl s)) c 62 (sdl s) := by
  have h1 := h.bc
  have h2 := h.cq
  have h3 := h.wb
  exact ⟨h.rd.same fun g hg => cells_other _ _ _ _ _ (by omega), ⟨below_cells (by omega) _ _ _ h.ch.1, fun g hg hl => (cells_other _ _ _ _ _ (by omega)).trans (h.ch.2 g hg hl)⟩, h.lc.sets _ rfl⟩
/-- what step answers -/
def SdPost (b : Nat) (w : World) (vw : Value) (A : List Wd) (en : Nat) (Z : Except (List Wd) (Sd × List Wd)) (e : Ending) (w' : World) : Prop := ∃ i', RR b w' vw A i' en ∧ Chg b w w' ∧ match Z with
  | .error ws => A.drop i' = ws ∧ ∃ s, e = .returned (.tuple #[.agg (sdl s).toArray, .bool false])
  | .ok (s, ws) => A.drop i' = ws ∧ e = .returned (.tuple #[.agg (sdl s).toArray, .bool true])
theorem take_facts {k : Int} {ws : List Wd} : ((takeP k ws).isSome = false ∧ takeP k ws = none) ∨ ∃ d r, ws = d :: r ∧ d.k = k ∧ takeP k ws = some (d, r) ∧ (takeP k ws).isSome = true := by
  cases h : takeP k ws with
  | none => exact .inl ⟨rfl, rfl⟩
  | some x =>
    obtain ⟨d, r⟩ := x
    obtain ⟨e1, e2⟩ := takeP_len h
    exact .inr ⟨d, r, e1, e2, rfl, rfl⟩
theorem sign_facts {t : ByteArray} {ws : List Wd} : ((signP t ws).isSome = false ∧ signP t ws = none) ∨ ∃ d r, ws = d :: r ∧ signP t ws = some r ∧ (signP t ws).isSome = true := by
  cases h : signP t ws with
  | none => exact .inl ⟨rfl, rfl⟩
  | some r =>
    obtain ⟨d, e1, -⟩ := signP_len h
    exact .inr ⟨d, r, e1, rfl, rfl⟩
theorem drop_next {A : List Wd} {i : Nat} {d : Wd} {r : List Wd} (e : A.drop i = d :: r) : A.drop (i + 1) = r := by
  have h := congrArg List.tail e
  rwa [List.tail_drop] at h
theorem RR.wordAt {b g off cap n : Nat} {W : World} {A : List Wd} {i en : Nat} {d : Wd} {r : List Wd} (h : RR b W (.slice (some ⟨g, off, Option.none⟩) n cap) A i en) (e : A.drop i = d :: r) : W.rangeAt g (off + i * 4) (wdc d) ∧ i < A.length ∧ n = A.length := by
  obtain ⟨g', off', cap', -, hi, -, -, hv, hr, -⟩ := h.word e
  simp only [Value.slice.injEq, Option.some.injEq, Addr.mk.injEq, and_true] at hv
  obtain ⟨⟨rfl, rfl⟩, rfl, -⟩ := hv
  exact ⟨hr, hi, rfl⟩
set_option maxRecDepth 100000 in
set_option maxHeartbeats 16000000 in
theorem rrstep_any (b : Nat) (pv : Bool) (vw : Value) (A : List Wd) (i en : Nat) (w : World) (h : RR b w vw A i en) :
    Calls Tryz.prog 43 #[.pointer (some ⟨b, 0, none⟩), .bool pv] w fun e w' => SdPost b w vw A en (rstepP pv (A.drop i)) e w' := by
  have HAT : Hid (∀ W i, RR b W vw A i en → Calls Tryz.prog 20 #[.pointer (some ⟨b, 0, none⟩)] W fun e w' => e = .returned (.int .i64 (placeP (A.drop i) en)) ∧ Below W.heap.size W w') := fun W i h => rrat_any b vw A i en W h
  have HK : Hid (∀ k W i, RR b W vw A i en → Calls Tryz.prog 19 #[.pointer (some ⟨b, 0, none⟩), .int .i64 k] W fun e w' => e = .returned (.bool (takeP k (A.drop i)).isSome) ∧ Below W.heap.size W w') := fun k W i h => rrkind_any b k vw A i en W h
  have HSG : Hid (∀ t W i, RR b W vw A i en → Calls Tryz.prog 21 #[.pointer (some ⟨b, 0, none⟩), .string t] W fun e w' => e = .returned (.bool (signP t (A.drop i)).isSome) ∧ Below W.heap.size W w') := fun t W i h => rrsign_any b t vw A i en W h
  obtain ⟨Z, hZ⟩ : ∃ Z, rstepP pv (A.drop i) = Z := ⟨_, rfl⟩
  rw [hZ]
  have HZ : Hid (rstepP pv (A.drop i) = Z) := hZ
  clear hZ
  have HI : Hid ((Tryz.prog.info? 62).map (·.size) = some 6) := infoSaid
  have H0 : Hid (RR b (w.alloc (.cells (sdl sdZ).toArray 62)) vw A i en ∧ LB (w.alloc (.cells (sdl sdZ).toArray 62)) w.heap.size 62 (sdl sdZ) ∧ Chg b w (w.alloc (.cells (sdl sdZ).toArray 62))) := ⟨h.kept (up0 _ _), lb_new _ _ _, Chg.of h.lt (up0 _ _)⟩
  have hwb := h.lt
  clear h
  go_enter Tryz.func43, Tryz.ntmps43
  go_wp2_with fail
  refine (HAT.out _ _ H0.out.1).mono ?_
  rintro e w1 ⟨rfl, b1⟩
  obtain ⟨at_, hat⟩ : ∃ at_, placeP (A.drop i) en = at_ := ⟨_, rfl⟩
  rw [hat]
  have Hat : Hid _ := hat
  clear hat
  have H1 : Hid (∀ o, o = .cells (sdl ⟨⟨⟨#[]⟩, ⟨#[]⟩, 0⟩, false, false, at_⟩).toArray 62 → SM b w.heap.size w1.heap.size w (w1.alloc o) vw A i en ⟨⟨⟨#[]⟩, ⟨#[]⟩, 0⟩, false, false, at_⟩) := fun o ho => by
    subst ho
    obtain ⟨q1, q2, q3⟩ := H0.out
    exact ⟨(q1.kept b1).kept (up0 _ _), (q2.kept b1).kept (up0 _ _), lb_new _ _ _, (q3.trans (Chg.of q1.lt b1)).trans (Chg.of (q1.kept b1).lt (up0 _ _)), Nat.le_refl _, Nat.lt_of_lt_of_le q2.lt b1.size, hwb⟩
  clear b1 H0 HAT
  go_wp2_with fail
  refine (HK.out 1 _ _ (H1.out _ rfl).rd).mono ?_
  rintro e w2 ⟨rfl, b2⟩
  have H2 : Hid (SM b w.heap.size w1.heap.size w w2 vw A i en ⟨⟨⟨#[]⟩, ⟨#[]⟩, 0⟩, false, false, at_⟩) := (H1.out _ rfl).up b2
  clear b2 H1
  generalize w1.heap.size = q at *
  obtain ⟨c, hc⟩ : ∃ c, w.heap.size = c := ⟨_, rfl⟩
  rw [hc] at H2 ⊢
  clear hc
  rcases take_facts (k := 1) (ws := A.drop i) with ⟨h1, h2⟩ | ⟨d, r, hd, hk, h3, h4⟩
  · rw [h1]
    have hz : Z = .error (A.drop i) := by rw [← HZ.out]; unfold rstepP; rw [h2]
    clear h1 h2 Hat
    obtain ⟨D, hD⟩ : ∃ D, D = sdl ⟨⟨⟨#[]⟩, ⟨#[]⟩, 0⟩, false, false, at_⟩ := ⟨_, rfl⟩
    have HF := H2.out.fin
    have HL := H2.out.lq.range
    have HT : World.there _ c 0 D.toArray.size := there_of H2.out.lc (by rw [hD]; rfl)
    have HO : D.toArray.all (·.oneCell') = true := by rw [hD]; exact all_oneCell_toArray (sdl_one _)
    have HJ : (Tryz.prog.info? 62).map (·.size) = some D.toArray.size := by rw [hD]; exact infoSaid
    have HJ2 : (Tryz.prog.info? 62).map (·.size) = some D.length := by rw [hD]; exact infoSaid
    rw [← hD] at HF HL
    have HQ : Hid _ := HF
    have HL1 : Hid _ := HL
    have HT1 : Hid _ := HT
    have HO1 : Hid _ := HO
    have HJ1 : Hid _ := HJ
    have HJ3 : Hid _ := HJ2
    have HDh : Hid _ := hD
    have HZh : Hid _ := hz
    clear HF HL HT HO HJ HJ2 hD hz HSG HK HI H2
    go_wp2_with (first | (refine wpList_load_mid rfl 62 _ rfl q 0 rfl D _ HL1.out Tryz.underlying62 rfl HJ3.out ?_) | (refine wpList_store_mid rfl 62 (.tmp 4) (.tmp 13) rfl c 0 D.toArray rfl rfl HT1.out HJ1.out HO1.out ?_; rw [List.toList_toArray]))
    obtain ⟨F1, F2, F3⟩ := HQ.out
    rw [HDh.out] at F3
    have y0 := F3.cell 0 _ rfl
    have y1 := F3.cell 1 _ rfl
    have y2 := F3.cell 2 _ rfl
    have y3 := F3.cell 3 _ rfl
    have y4 := F3.cell 4 _ rfl
    have y5 := F3.cell 5 _ rfl
    rw [← HDh.out] at y0 y1 y2 y3 y4 y5
    refine bodyPost_ret (by simp [results, Tryz.results43, go_sem, y0, y1, y2, y3, y4, y5]; try rfl) rfl ?_
    exact ⟨_, F1, F2, by rw [HZh.out]; exact ⟨rfl, ⟨⟨⟨#[]⟩, ⟨#[]⟩, 0⟩, false, false, at_⟩, rfl⟩⟩
  · rw [h4]
    obtain ⟨g, off, cap, hg, hi0, hc1, hc2, rfl, -, hr⟩ := H2.out.rd.word hd
    unfold maxLen at hc2
    have hA : A.length ≤ 65536 := H2.out.rd.2.2.1
    obtain rfl : at_ = d.at_ := by rw [← Hat.out, hd]; rfl
    clear Hat h4
    go_wp2_with fail
    have Hq : Hid (SM b c q w w2.drew (.slice (some ⟨g, off, none⟩) A.length cap) A (i) en ⟨⟨⟨#[]⟩, ⟨#[]⟩, 0⟩, false, false, d.at_⟩) := H2.out.up (Below.drew (Below.refl _ _))
    refine wp_region_held_drew (S := fun w' : World => w'.cell? ⟨b, 0, none⟩ = some (.slice (some ⟨g, off, none⟩) A.length cap) ∧ w'.cell? ⟨b, 1, none⟩ = some (.int .i64 ((i : Nat) : Int)) ∧ w'.cell? ⟨g, off + (i) * 4 + 2, none⟩ = some (.string d.t)) (by kernel_rfl) ⟨Hq.out.rd.1.cell 0 _ rfl, Hq.out.rd.1.cell 1 _ rfl, (Hq.out.rd.wordAt hd).1 2 _ rfl⟩ (fun hH => ?_)
    clear H2
    generalize w2.drew = Wq at *
    refine zqk 0 rfl hH ?_
    simp only [Act.put, List.setIfInBounds_toArray, List.set_cons_zero, List.set_cons_succ, List.getElem_toArray, List.getElem_cons_zero]
    refine zqk 1 rfl hH ?_
    simp only [Act.put, List.setIfInBounds_toArray, List.set_cons_zero, List.set_cons_succ, List.getElem_toArray, List.getElem_cons_zero, List.getElem_cons_succ]
    refine zqk 2 rfl hH ?_
    simp only [Act.put, List.setIfInBounds_toArray, List.set_cons_zero, List.set_cons_succ, List.getElem_toArray, List.getElem_cons_zero, List.getElem_cons_succ]
    refine zqk 3 rfl hH ?_
    simp only [Act.put, List.setIfInBounds_toArray, List.set_cons_zero, List.set_cons_succ, List.getElem_toArray, List.getElem_cons_zero, List.getElem_cons_succ]
    refine zqk 4 rfl hH ?_
    simp only [Act.put, List.setIfInBounds_toArray, List.set_cons_zero, List.set_cons_succ, List.getElem_toArray, List.getElem_cons_zero, List.getElem_cons_succ]
    refine zqk 5 rfl hH ?_
    simp only [Act.put, List.setIfInBounds_toArray, List.set_cons_zero, List.set_cons_succ, List.getElem_toArray, List.getElem_cons_zero, List.getElem_cons_succ]
    refine zqk 6 rfl hH ?_
    simp only [Act.put, List.setIfInBounds_toArray, List.set_cons_zero, List.set_cons_succ, List.getElem_toArray, List.getElem_cons_zero, List.getElem_cons_succ]
    refine zqk 7 rfl hH ?_
    simp only [Act.put, List.setIfInBounds_toArray, List.set_cons_zero, List.set_cons_succ, List.getElem_toArray, List.getElem_cons_zero, List.getElem_cons_succ]
    refine zqk 8 rfl hH ?_
    simp only [Act.put, List.setIfInBounds_toArray, List.set_cons_zero, List.set_cons_succ, List.getElem_toArray, List.getElem_cons_zero, List.getElem_cons_succ]
    refine zqk 9 rfl hH ?_
    simp only [Act.put, List.setIfInBounds_toArray, List.set_cons_zero, List.set_cons_succ, List.getElem_toArray, List.getElem_cons_zero, List.getElem_cons_succ]
    refine zqk 10 rfl hH ?_
    simp only [Act.put, List.setIfInBounds_toArray, List.set_cons_zero, List.set_cons_succ, List.getElem_toArray, List.getElem_cons_zero, List.getElem_cons_succ]
    refine zqk 11 rfl hH ?_
    simp only [Act.put, List.setIfInBounds_toArray, List.set_cons_zero, List.set_cons_succ, List.getElem_toArray, List.getElem_cons_zero, List.getElem_cons_succ]
    refine zqk 12 rfl hH ?_
    simp only [Act.put, List.setIfInBounds_toArray, List.set_cons_zero, List.set_cons_succ, List.getElem_toArray, List.getElem_cons_zero, List.getElem_cons_succ]
    have fq := Hq.out.lq.free 0
    have cq := Hq.out.lq.cell 0 _ rfl
    have H4 : Hid (SM b c q w (Wq.setCell ⟨q, 0, none⟩ (.string d.t)) (.slice (some ⟨g, off, none⟩) A.length cap) A (i) en ⟨⟨d.t, ⟨#[]⟩, 0⟩, false, false, d.at_⟩) := Hq.out.put 0 _ rfl
    refine zqr 13 rfl (fun K2 hK => ?_)
    go_simp
    refine hK.out _ _ ⟨H4.out.rd.1.cell 0 _ rfl, H4.out.rd.1.cell 1 _ rfl, (H4.out.rd.wordAt hd).1 2 _ rfl⟩ (fun _ => ?_)
    clear hK K2 hH fq cq Hq
    refine wpAnyH_done (by kernel_rfl) ?_ _
    generalize Wq.setCell ⟨q, 0, none⟩ (.string d.t) = W4 at *
    have ci := H4.out.rd.1.cell 1 _ rfl
    have fi := H4.out.rd.1.free 1
    have hi := (H4.out.rd.wordAt hd).2.1
    have H5 : Hid (SM b c q w (W4.setCell ⟨b, 1, none⟩ (.int .i64 (((i : Nat) : Int) + 1))) (.slice (some ⟨g, off, none⟩) A.length cap) A (i + 1) en ⟨⟨d.t, ⟨#[]⟩, 0⟩, false, false, d.at_⟩) := H4.out.inc hi
    go_wp2_with fail
    clear ci fi H4
    refine (HSG.out ⟨#[42]⟩ _ _ H5.out.rd).mono ?_
    rintro e w5 ⟨rfl, bq⟩
    have H6 : Hid (SM b c q w w5 (.slice (some ⟨g, off, none⟩) A.length cap) A (i + 1) en ⟨⟨d.t, ⟨#[]⟩, 0⟩, false, false, d.at_⟩) := H5.out.up bq
    clear bq H5
    rw [hr]
    have HR0 : Hid (takeP 1 (A.drop i) = some (d, r)) := h3
    clear h3 hi
    rcases sign_facts (t := ⟨#[42]⟩) (ws := r) with ⟨s1, s2⟩ | ⟨d1, r1, hd1, s2, s1⟩
    case' inl =>
      rw [s1]
      obtain ⟨t, ht⟩ : ∃ t : Int, t = 0 := ⟨_, rfl⟩
      obtain ⟨nb, hn⟩ : ∃ nb : Bool, nb = false := ⟨_, rfl⟩
      obtain ⟨i', hi'⟩ : ∃ i', i' = i + 1 := ⟨_, rfl⟩
      obtain ⟨r', hr'⟩ : ∃ r' : List Wd, r' = r := ⟨_, rfl⟩
      have HTR : Hid (rtriesP r = .ok ((t, nb), r')) := by show _ = _; unfold rtriesP; rw [s2, ht, hn, hr']
      have HR : Hid (A.drop i' = r') := by rw [hi', hr']; exact hr
      have H7 : Hid (SM b c q w w5 (.slice (some ⟨g, off, none⟩) A.length cap) A (i') en ⟨⟨d.t, ⟨#[]⟩, t⟩, nb, false, d.at_⟩) := by rw [hi', ht, hn]; exact H6.out
      clear H6 ht hn hi' hr' s1 s2 hr
      go_wp2_with fail
      generalize w5 = W7 at *
    case' inr =>
      rw [s1]
      have hr1 : A.drop (i + 1) = d1 :: r1 := by rw [hr]; exact hd1
      have ci := H6.out.rd.1.cell 1 _ rfl
      have fi := H6.out.rd.1.free 1
      have hi := (H6.out.rd.wordAt hr1).2.1
      have Ha : Hid (SM b c q w (w5.setCell ⟨b, 1, none⟩ (.int .i64 (((i + 1 : Nat) : Int) + 1))) (.slice (some ⟨g, off, none⟩) A.length cap) A (i + 1 + 1) en ⟨⟨d.t, ⟨#[]⟩, 0⟩, false, false, d.at_⟩) := H6.out.inc hi
      go_wp2_with fail
      clear ci fi H6
      refine (HK.out 2 _ _ Ha.out.rd).mono ?_
      rintro e wb ⟨rfl, bq⟩
      have Hb : Hid (SM b c q w wb (.slice (some ⟨g, off, none⟩) A.length cap) A (i + 1 + 1) en ⟨⟨d.t, ⟨#[]⟩, 0⟩, false, false, d.at_⟩) := Ha.out.up bq
      clear bq Ha
      have hr2 : A.drop (i + 1 + 1) = r1 := drop_next hr1
      rw [hr2]
      rcases take_facts (k := 2) (ws := r1) with ⟨k1, k2⟩ | ⟨d2, r2, hd2, -, k2, k1⟩
      · rw [k1]
        have hz : Z = .error r1 := by rw [← HZ.out]; unfold rstepP; rw [HR0.out]; simp only; unfold rtriesP; rw [s2]; simp only; rw [k2]
        obtain ⟨D, hD⟩ : ∃ D, D = sdl ⟨⟨d.t, ⟨#[]⟩, 0⟩, false, false, d.at_⟩ := ⟨_, rfl⟩
        have HF := Hb.out.fin
        have HL := Hb.out.lq.range
        have HT : World.there _ c 0 D.toArray.size := there_of Hb.out.lc (by rw [hD]; rfl)
        have HO : D.toArray.all (·.oneCell') = true := by rw [hD]; exact all_oneCell_toArray (sdl_one _)
        have HJ : (Tryz.prog.info? 62).map (·.size) = some D.toArray.size := by rw [hD]; exact infoSaid
        have HJ2 : (Tryz.prog.info? 62).map (·.size) = some D.length := by rw [hD]; exact infoSaid
        rw [← hD] at HF HL
        have HQ : Hid _ := HF
        have HL1 : Hid _ := HL
        have HT1 : Hid _ := HT
        have HO1 : Hid _ := HO
        have HJ1 : Hid _ := HJ
        have HJ3 : Hid _ := HJ2
        have HDh : Hid _ := hD
        have HZh : Hid _ := hz
        clear HF HL HT HO HJ HJ2 hD hz HSG HK HI Hb
        go_wp2_with (first | (refine wpList_load_mid rfl 62 _ rfl q 0 rfl D _ HL1.out Tryz.underlying62 rfl HJ3.out ?_) | (refine wpList_store_mid rfl 62 (.tmp 4) (.tmp 46) rfl c 0 D.toArray rfl rfl HT1.out HJ1.out HO1.out ?_; rw [List.toList_toArray]))
        obtain ⟨F1, F2, F3⟩ := HQ.out
        rw [HDh.out] at F3
        have y0 := F3.cell 0 _ rfl
        have y1 := F3.cell 1 _ rfl
        have y2 := F3.cell 2 _ rfl
        have y3 := F3.cell 3 _ rfl
        have y4 := F3.cell 4 _ rfl
        have y5 := F3.cell 5 _ rfl
        rw [← HDh.out] at y0 y1 y2 y3 y4 y5
        refine bodyPost_ret (by simp [results, Tryz.results43, go_sem, y0, y1, y2, y3, y4, y5]; try rfl) rfl ?_
        exact ⟨_, F1, F2, by rw [HZh.out]; exact ⟨hr2, ⟨⟨d.t, ⟨#[]⟩, 0⟩, false, false, d.at_⟩, rfl⟩⟩
      rw [k1]
      have hr3 : A.drop (i + 1 + 1) = d2 :: r2 := by rw [hr2]; exact hd2
      obtain ⟨m, hm⟩ : ∃ m, m = i + 1 + 1 := ⟨_, rfl⟩
      rw [← hm] at hr3 Hb
      clear hm
      have hm0 : m < A.length := (Hb.out.rd.wordAt hr3).2.1
      go_wp2_with fail
      have Hq : Hid (SM b c q w wb.drew (.slice (some ⟨g, off, none⟩) A.length cap) A (m) en ⟨⟨d.t, ⟨#[]⟩, 0⟩, false, false, d.at_⟩) := Hb.out.up (Below.drew (Below.refl _ _))
      refine wp_region_held_drew (S := fun w' : World => w'.cell? ⟨b, 0, none⟩ = some (.slice (some ⟨g, off, none⟩) A.length cap) ∧ w'.cell? ⟨b, 1, none⟩ = some (.int .i64 ((m : Nat) : Int)) ∧ w'.cell? ⟨g, off + (m) * 4 + 3, none⟩ = some (.int .i64 d2.n)) (by kernel_rfl) ⟨Hq.out.rd.1.cell 0 _ rfl, Hq.out.rd.1.cell 1 _ rfl, (Hq.out.rd.wordAt hr3).1 3 _ rfl⟩ (fun hH => ?_)
      clear Hb
      generalize wb.drew = Wq at *
      refine zqk 0 rfl hH ?_
      simp only [Act.put, List.setIfInBounds_toArray, List.set_cons_zero, List.set_cons_succ, List.getElem_toArray, List.getElem_cons_zero]
      refine zqk 1 rfl hH ?_
      simp only [Act.put, List.setIfInBounds_toArray, List.set_cons_zero, List.set_cons_succ, List.getElem_toArray, List.getElem_cons_zero, List.getElem_cons_succ]
      refine zqk 2 rfl hH ?_
      simp only [Act.put, List.setIfInBounds_toArray, List.set_cons_zero, List.set_cons_succ, List.getElem_toArray, List.getElem_cons_zero, List.getElem_cons_succ]
      refine zqk 3 rfl hH ?_
      simp only [Act.put, List.setIfInBounds_toArray, List.set_cons_zero, List.set_cons_succ, List.getElem_toArray, List.getElem_cons_zero, List.getElem_cons_succ]
      refine zqk 4 rfl hH ?_
      simp only [Act.put, List.setIfInBounds_toArray, List.set_cons_zero, List.set_cons_succ, List.getElem_toArray, List.getElem_cons_zero, List.getElem_cons_succ]
      refine zqk 5 rfl hH ?_
      simp only [Act.put, List.setIfInBounds_toArray, List.set_cons_zero, List.set_cons_succ, List.getElem_toArray, List.getElem_cons_zero, List.getElem_cons_succ]
      refine zqk 6 rfl hH ?_
      simp only [Act.put, List.setIfInBounds_toArray, List.set_cons_zero, List.set_cons_succ, List.getElem_toArray, List.getElem_cons_zero, List.getElem_cons_succ]
      refine zqk 7 rfl hH ?_
      simp only [Act.put, List.setIfInBounds_toArray, List.set_cons_zero, List.set_cons_succ, List.getElem_toArray, List.getElem_cons_zero, List.getElem_cons_succ]
      refine zqk 8 rfl hH ?_
      simp only [Act.put, List.setIfInBounds_toArray, List.set_cons_zero, List.set_cons_succ, List.getElem_toArray, List.getElem_cons_zero, List.getElem_cons_succ]
      refine zqk 9 rfl hH ?_
      simp only [Act.put, List.setIfInBounds_toArray, List.set_cons_zero, List.set_cons_succ, List.getElem_toArray, List.getElem_cons_zero, List.getElem_cons_succ]
      refine zqk 10 rfl hH ?_
      simp only [Act.put, List.setIfInBounds_toArray, List.set_cons_zero, List.set_cons_succ, List.getElem_toArray, List.getElem_cons_zero, List.getElem_cons_succ]
      refine zqk 11 rfl hH ?_
      simp only [Act.put, List.setIfInBounds_toArray, List.set_cons_zero, List.set_cons_succ, List.getElem_toArray, List.getElem_cons_zero, List.getElem_cons_succ]
      refine zqk 12 rfl hH ?_
      simp only [Act.put, List.setIfInBounds_toArray, List.set_cons_zero, List.set_cons_succ, List.getElem_toArray, List.getElem_cons_zero, List.getElem_cons_succ]
      have fq := Hq.out.lq.free 2
      have cq := Hq.out.lq.cell 2 _ rfl
      have Hc : Hid (SM b c q w (Wq.setCell ⟨q, 2, none⟩ (.int .i64 d2.n)) (.slice (some ⟨g, off, none⟩) A.length cap) A (m) en ⟨⟨d.t, ⟨#[]⟩, d2.n⟩, false, false, d.at_⟩) := Hq.out.put 2 _ rfl
      refine zqr 13 rfl (fun K2 hK => ?_)
      go_simp
      refine hK.out _ _ ⟨Hc.out.rd.1.cell 0 _ rfl, Hc.out.rd.1.cell 1 _ rfl, (Hc.out.rd.wordAt hr3).1 3 _ rfl⟩ (fun _ => ?_)
      clear hK K2 hH fq cq Hq
      refine wpAnyH_done (by kernel_rfl) ?_ _
      generalize Wq.setCell ⟨q, 2, none⟩ (.int .i64 d2.n) = Wc at *
      have fn := Hc.out.lq.free 3
      have cn := Hc.out.lq.cell 3 _ rfl
      have Hd : Hid (SM b c q w (Wc.setCell ⟨q, 3, none⟩ (.bool true)) (.slice (some ⟨g, off, none⟩) A.length cap) A (m) en ⟨⟨d.t, ⟨#[]⟩, d2.n⟩, true, false, d.at_⟩) := Hc.out.put 3 _ rfl
      have cm := Hd.out.rd.1.cell 1 _ rfl
      have fm := Hd.out.rd.1.free 1
      have hi := (Hd.out.rd.wordAt hr3).2.1
      have He : Hid (SM b c q w ((Wc.setCell ⟨q, 3, none⟩ (.bool true)).setCell ⟨b, 1, none⟩ (.int .i64 (((m : Nat) : Int) + 1))) (.slice (some ⟨g, off, none⟩) A.length cap) A (m + 1) en ⟨⟨d.t, ⟨#[]⟩, d2.n⟩, true, false, d.at_⟩) := Hd.out.inc hi
      go_wp2_with fail
      obtain ⟨t, ht⟩ : ∃ t : Int, t = d2.n := ⟨_, rfl⟩
      obtain ⟨nb, hn⟩ : ∃ nb : Bool, nb = true := ⟨_, rfl⟩
      obtain ⟨i', hi'⟩ : ∃ i', i' = m + 1 := ⟨_, rfl⟩
      obtain ⟨r', hr'⟩ : ∃ r' : List Wd, r' = r2 := ⟨_, rfl⟩
      have HTR : Hid (rtriesP r = .ok ((t, nb), r')) := by show _ = _; unfold rtriesP; rw [s2]; simp only; rw [k2, ht, hn, hr']
      have HR : Hid (A.drop i' = r') := by rw [hi', hr']; exact drop_next hr3
      clear cn fn cm fm hi Hc Hd
      generalize ((Wc.setCell ⟨q, 3, none⟩ (.bool true)).setCell ⟨b, 1, none⟩ (.int .i64 (((m : Nat) : Int) + 1))) = W7 at *
      have H7 : Hid (SM b c q w W7 (.slice (some ⟨g, off, none⟩) A.length cap) A (i') en ⟨⟨d.t, ⟨#[]⟩, t⟩, nb, false, d.at_⟩) := by rw [hi', ht, hn]; exact He.out
      clear He ht hn hi' hr'
    all_goals
      refine (HSG.out ⟨#[126]⟩ _ _ H7.out.rd).mono ?_
      rintro e w8 ⟨rfl, bq⟩
      have H8 : Hid (SM b c q w w8 (.slice (some ⟨g, off, none⟩) A.length cap) A (i') en ⟨⟨d.t, ⟨#[]⟩, t⟩, nb, false, d.at_⟩) := H7.out.up bq
      clear bq H7
      rw [HR.out]
      rcases sign_facts (t := ⟨#[126]⟩) (ws := r') with ⟨u1, u2⟩ | ⟨d5, r5, hd5, u2, u1⟩
      · rw [u1]
        go_wp2_with fail
        refine (HSG.out ⟨#[33]⟩ _ _ H8.out.rd).mono ?_
        rintro e w9 ⟨rfl, bq⟩
        have H9 : Hid (SM b c q w w9 (.slice (some ⟨g, off, none⟩) A.length cap) A (i') en ⟨⟨d.t, ⟨#[]⟩, t⟩, nb, false, d.at_⟩) := H8.out.up bq
        clear bq H8
        rw [HR.out]
        have HU : Hid (signP ⟨#[126]⟩ r' = none) := u2
        clear u1 u2
        rcases sign_facts (t := ⟨#[33]⟩) (ws := r') with ⟨v1, v2⟩ | ⟨d7, r7, hd7, v2, v1⟩
        · rw [v1]
          have hz : Z = .ok (⟨⟨d.t, ⟨#[]⟩, t⟩, nb, false, d.at_⟩, r') := by rw [← HZ.out]; unfold rstepP; rw [HR0.out]; simp only; rw [HTR.out]; simp only; unfold rendP; rw [HU.out, v2]; simp
          clear v1 v2
          obtain ⟨D, hD⟩ : ∃ D, D = sdl ⟨⟨d.t, ⟨#[]⟩, t⟩, nb, false, d.at_⟩ := ⟨_, rfl⟩
          have HF := H9.out.fin
          have HL := H9.out.lq.range
          have HT : World.there _ c 0 D.toArray.size := there_of H9.out.lc (by rw [hD]; rfl)
          have HO : D.toArray.all (·.oneCell') = true := by rw [hD]; exact all_oneCell_toArray (sdl_one _)
          have HJ : (Tryz.prog.info? 62).map (·.size) = some D.toArray.size := by rw [hD]; exact infoSaid
          have HJ2 : (Tryz.prog.info? 62).map (·.size) = some D.length := by rw [hD]; exact infoSaid
          rw [← hD] at HF HL
          have HQ : Hid _ := HF
          have HL1 : Hid _ := HL
          have HT1 : Hid _ := HT
          have HO1 : Hid _ := HO
          have HJ1 : Hid _ := HJ
          have HJ3 : Hid _ := HJ2
          have HDh : Hid _ := hD
          have HZh : Hid _ := hz
          clear HF HL HT HO HJ HJ2 hD hz HSG HK HI H9
          go_wp2_with (first | (refine wpList_load_mid rfl 62 _ rfl q 0 rfl D _ HL1.out Tryz.underlying62 rfl HJ3.out ?_) | (refine wpList_store_mid rfl 62 (.tmp 4) (.tmp 117) rfl c 0 D.toArray rfl rfl HT1.out HJ1.out HO1.out ?_; rw [List.toList_toArray]))
          obtain ⟨F1, F2, F3⟩ := HQ.out
          rw [HDh.out] at F3
          have y0 := F3.cell 0 _ rfl
          have y1 := F3.cell 1 _ rfl
          have y2 := F3.cell 2 _ rfl
          have y3 := F3.cell 3 _ rfl
          have y4 := F3.cell 4 _ rfl
          have y5 := F3.cell 5 _ rfl
          rw [← HDh.out] at y0 y1 y2 y3 y4 y5
          refine bodyPost_ret (by simp [results, Tryz.results43, go_sem, y0, y1, y2, y3, y4, y5]; try rfl) rfl ?_
          exact ⟨_, F1, F2, by rw [HZh.out]; exact ⟨HR.out, rfl⟩⟩
        · rw [v1]
          cases pv with
          | true =>
            have hz : Z = .ok (⟨⟨d.t, ⟨#[]⟩, t⟩, nb, false, d.at_⟩, r') := by rw [← HZ.out]; unfold rstepP; rw [HR0.out]; simp only; rw [HTR.out]; simp only; unfold rendP; rw [HU.out]; simp
            clear v1 v2
            obtain ⟨D, hD⟩ : ∃ D, D = sdl ⟨⟨d.t, ⟨#[]⟩, t⟩, nb, false, d.at_⟩ := ⟨_, rfl⟩
            have HF := H9.out.fin
            have HL := H9.out.lq.range
            have HT : World.there _ c 0 D.toArray.size := there_of H9.out.lc (by rw [hD]; rfl)
            have HO : D.toArray.all (·.oneCell') = true := by rw [hD]; exact all_oneCell_toArray (sdl_one _)
            have HJ : (Tryz.prog.info? 62).map (·.size) = some D.toArray.size := by rw [hD]; exact infoSaid
            have HJ2 : (Tryz.prog.info? 62).map (·.size) = some D.length := by rw [hD]; exact infoSaid
            rw [← hD] at HF HL
            have HQ : Hid _ := HF
            have HL1 : Hid _ := HL
            have HT1 : Hid _ := HT
            have HO1 : Hid _ := HO
            have HJ1 : Hid _ := HJ
            have HJ3 : Hid _ := HJ2
            have HDh : Hid _ := hD
            have HZh : Hid _ := hz
            clear HF HL HT HO HJ HJ2 hD hz HSG HK HI H9
            go_wp2_with (first | (refine wpList_load_mid rfl 62 _ rfl q 0 rfl D _ HL1.out Tryz.underlying62 rfl HJ3.out ?_) | (refine wpList_store_mid rfl 62 (.tmp 4) (.tmp 117) rfl c 0 D.toArray rfl rfl HT1.out HJ1.out HO1.out ?_; rw [List.toList_toArray]))
            obtain ⟨F1, F2, F3⟩ := HQ.out
            rw [HDh.out] at F3
            have y0 := F3.cell 0 _ rfl
            have y1 := F3.cell 1 _ rfl
            have y2 := F3.cell 2 _ rfl
            have y3 := F3.cell 3 _ rfl
            have y4 := F3.cell 4 _ rfl
            have y5 := F3.cell 5 _ rfl
            rw [← HDh.out] at y0 y1 y2 y3 y4 y5
            refine bodyPost_ret (by simp [results, Tryz.results43, go_sem, y0, y1, y2, y3, y4, y5]; try rfl) rfl ?_
            exact ⟨_, F1, F2, by rw [HZh.out]; exact ⟨HR.out, rfl⟩⟩
          | false =>
            have hz : Z = .ok (⟨⟨d.t, ⟨#[]⟩, t⟩, nb, true, d.at_⟩, r7) := by rw [← HZ.out]; unfold rstepP; rw [HR0.out]; simp only; rw [HTR.out]; simp only; unfold rendP; rw [HU.out, v2]; simp
            have hr7 : A.drop i' = d7 :: r7 := by rw [HR.out]; exact hd7
            have HR7 : Hid (A.drop (i' + 1) = r7) := drop_next hr7
            have fn := H9.out.lq.free 4
            have cn := H9.out.lq.cell 4 _ rfl
            have Hs : Hid (SM b c q w (w9.setCell ⟨q, 4, none⟩ (.bool true)) (.slice (some ⟨g, off, none⟩) A.length cap) A (i') en ⟨⟨d.t, ⟨#[]⟩, t⟩, nb, true, d.at_⟩) := H9.out.put 4 _ rfl
            have cm := Hs.out.rd.1.cell 1 _ rfl
            have fm := Hs.out.rd.1.free 1
            have hi := (Hs.out.rd.wordAt hr7).2.1
            have Ht : Hid (SM b c q w ((w9.setCell ⟨q, 4, none⟩ (.bool true)).setCell ⟨b, 1, none⟩ (.int .i64 ((i' : Int) + 1))) (.slice (some ⟨g, off, none⟩) A.length cap) A (i' + 1) en ⟨⟨d.t, ⟨#[]⟩, t⟩, nb, true, d.at_⟩) := Hs.out.inc hi
            clear H9 Hs v1 v2 hr7
            obtain ⟨D, hD⟩ : ∃ D, D = sdl ⟨⟨d.t, ⟨#[]⟩, t⟩, nb, true, d.at_⟩ := ⟨_, rfl⟩
            have HF := Ht.out.fin
            have HL := Ht.out.lq.range
            have HT : World.there _ c 0 D.toArray.size := there_of Ht.out.lc (by rw [hD]; rfl)
            have HO : D.toArray.all (·.oneCell') = true := by rw [hD]; exact all_oneCell_toArray (sdl_one _)
            have HJ : (Tryz.prog.info? 62).map (·.size) = some D.toArray.size := by rw [hD]; exact infoSaid
            have HJ2 : (Tryz.prog.info? 62).map (·.size) = some D.length := by rw [hD]; exact infoSaid
            rw [← hD] at HF HL
            have HQ : Hid _ := HF
            have HL1 : Hid _ := HL
            have HT1 : Hid _ := HT
            have HO1 : Hid _ := HO
            have HJ1 : Hid _ := HJ
            have HJ3 : Hid _ := HJ2
            have HDh : Hid _ := hD
            have HZh : Hid _ := hz
            clear HF HL HT HO HJ HJ2 hD hz HSG HK HI Ht
            go_wp2_with (first | (refine wpList_load_mid rfl 62 _ rfl q 0 rfl D _ HL1.out Tryz.underlying62 rfl HJ3.out ?_) | (refine wpList_store_mid rfl 62 (.tmp 4) (.tmp 117) rfl c 0 D.toArray rfl rfl HT1.out HJ1.out HO1.out ?_; rw [List.toList_toArray]))
            obtain ⟨F1, F2, F3⟩ := HQ.out
            rw [HDh.out] at F3
            have y0 := F3.cell 0 _ rfl
            have y1 := F3.cell 1 _ rfl
            have y2 := F3.cell 2 _ rfl
            have y3 := F3.cell 3 _ rfl
            have y4 := F3.cell 4 _ rfl
            have y5 := F3.cell 5 _ rfl
            rw [← HDh.out] at y0 y1 y2 y3 y4 y5
            refine bodyPost_ret (by simp [results, Tryz.results43, go_sem, y0, y1, y2, y3, y4, y5]; try rfl) rfl ?_
            exact ⟨_, F1, F2, by rw [HZh.out]; exact ⟨HR7.out, rfl⟩⟩
      · rw [u1]
        have hr5 : A.drop i' = d5 :: r5 := by rw [HR.out]; exact hd5
        have ci := H8.out.rd.1.cell 1 _ rfl
        have fi := H8.out.rd.1.free 1
        have hi := (H8.out.rd.wordAt hr5).2.1
        have Hf : Hid (SM b c q w (w8.setCell ⟨b, 1, none⟩ (.int .i64 (((i' : Nat) : Int) + 1))) (.slice (some ⟨g, off, none⟩) A.length cap) A (i' + 1) en ⟨⟨d.t, ⟨#[]⟩, t⟩, nb, false, d.at_⟩) := H8.out.inc hi
        go_wp2_with fail
        clear ci fi H8
        refine (HK.out 1 _ _ Hf.out.rd).mono ?_
        rintro e wg ⟨rfl, bq⟩
        have Hg : Hid (SM b c q w wg (.slice (some ⟨g, off, none⟩) A.length cap) A (i' + 1) en ⟨⟨d.t, ⟨#[]⟩, t⟩, nb, false, d.at_⟩) := Hf.out.up bq
        clear bq Hf
        have hr6 : A.drop (i' + 1) = r5 := drop_next hr5
        rw [hr6]
        rcases take_facts (k := 1) (ws := r5) with ⟨k1, k2⟩ | ⟨d6, r6, hd6, -, k2, k1⟩
        · rw [k1]
          have hz : Z = .error r5 := by rw [← HZ.out]; unfold rstepP; rw [HR0.out]; simp only; rw [HTR.out]; simp only; unfold rendP; rw [u2]; simp only; rw [k2]
          have HR6 : Hid (A.drop (i' + 1) = r5) := hr6
          clear k1 k2 u1 u2 hr5 hr6
          obtain ⟨D, hD⟩ : ∃ D, D = sdl ⟨⟨d.t, ⟨#[]⟩, t⟩, nb, false, d.at_⟩ := ⟨_, rfl⟩
          have HF := Hg.out.fin
          have HL := Hg.out.lq.range
          have HT : World.there _ c 0 D.toArray.size := there_of Hg.out.lc (by rw [hD]; rfl)
          have HO : D.toArray.all (·.oneCell') = true := by rw [hD]; exact all_oneCell_toArray (sdl_one _)
          have HJ : (Tryz.prog.info? 62).map (·.size) = some D.toArray.size := by rw [hD]; exact infoSaid
          have HJ2 : (Tryz.prog.info? 62).map (·.size) = some D.length := by rw [hD]; exact infoSaid
          rw [← hD] at HF HL
          have HQ : Hid _ := HF
          have HL1 : Hid _ := HL
          have HT1 : Hid _ := HT
          have HO1 : Hid _ := HO
          have HJ1 : Hid _ := HJ
          have HJ3 : Hid _ := HJ2
          have HDh : Hid _ := hD
          have HZh : Hid _ := hz
          clear HF HL HT HO HJ HJ2 hD hz HSG HK HI Hg
          go_wp2_with (first | (refine wpList_load_mid rfl 62 _ rfl q 0 rfl D _ HL1.out Tryz.underlying62 rfl HJ3.out ?_) | (refine wpList_store_mid rfl 62 (.tmp 4) (.tmp 81) rfl c 0 D.toArray rfl rfl HT1.out HJ1.out HO1.out ?_; rw [List.toList_toArray]))
          obtain ⟨F1, F2, F3⟩ := HQ.out
          rw [HDh.out] at F3
          have y0 := F3.cell 0 _ rfl
          have y1 := F3.cell 1 _ rfl
          have y2 := F3.cell 2 _ rfl
          have y3 := F3.cell 3 _ rfl
          have y4 := F3.cell 4 _ rfl
          have y5 := F3.cell 5 _ rfl
          rw [← HDh.out] at y0 y1 y2 y3 y4 y5
          refine bodyPost_ret (by simp [results, Tryz.results43, go_sem, y0, y1, y2, y3, y4, y5]; try rfl) rfl ?_
          exact ⟨_, F1, F2, by rw [HZh.out]; exact ⟨HR6.out, ⟨⟨d.t, ⟨#[]⟩, t⟩, nb, false, d.at_⟩, rfl⟩⟩
        · rw [k1]
          have hr8 : A.drop (i' + 1) = d6 :: r6 := by rw [hr6]; exact hd6
          have hz : Z = .ok (⟨⟨d.t, d6.t, t⟩, nb, false, d.at_⟩, r6) := by rw [← HZ.out]; unfold rstepP; rw [HR0.out]; simp only; rw [HTR.out]; simp only; unfold rendP; rw [u2]; simp only; rw [k2]
          have HZ9 : Hid _ := hz
          clear hz
          obtain ⟨m, hm⟩ : ∃ m, m = i' + 1 := ⟨_, rfl⟩
          rw [← hm] at hr8 Hg hr6
          clear hm
          have hm0 : m < A.length := (Hg.out.rd.wordAt hr8).2.1
          go_wp2_with fail
          have Hq : Hid (SM b c q w wg.drew (.slice (some ⟨g, off, none⟩) A.length cap) A (m) en ⟨⟨d.t, ⟨#[]⟩, t⟩, nb, false, d.at_⟩) := Hg.out.up (Below.drew (Below.refl _ _))
          refine wp_region_held_drew (S := fun w' : World => w'.cell? ⟨b, 0, none⟩ = some (.slice (some ⟨g, off, none⟩) A.length cap) ∧ w'.cell? ⟨b, 1, none⟩ = some (.int .i64 ((m : Nat) : Int)) ∧ w'.cell? ⟨g, off + (m) * 4 + 2, none⟩ = some (.string d6.t)) (by kernel_rfl) ⟨Hq.out.rd.1.cell 0 _ rfl, Hq.out.rd.1.cell 1 _ rfl, (Hq.out.rd.wordAt hr8).1 2 _ rfl⟩ (fun hH => ?_)
          clear Hg
          generalize wg.drew = Wq at *
          refine zqk 0 rfl hH ?_
          simp only [Act.put, List.setIfInBounds_toArray, List.set_cons_zero, List.set_cons_succ, List.getElem_toArray, List.getElem_cons_zero]
          refine zqk 1 rfl hH ?_
          simp only [Act.put, List.setIfInBounds_toArray, List.set_cons_zero, List.set_cons_succ, List.getElem_toArray, List.getElem_cons_zero, List.getElem_cons_succ]
          refine zqk 2 rfl hH ?_
          simp only [Act.put, List.setIfInBounds_toArray, List.set_cons_zero, List.set_cons_succ, List.getElem_toArray, List.getElem_cons_zero, List.getElem_cons_succ]
          refine zqk 3 rfl hH ?_
          simp only [Act.put, List.setIfInBounds_toArray, List.set_cons_zero, List.set_cons_succ, List.getElem_toArray, List.getElem_cons_zero, List.getElem_cons_succ]
          refine zqk 4 rfl hH ?_
          simp only [Act.put, List.setIfInBounds_toArray, List.set_cons_zero, List.set_cons_succ, List.getElem_toArray, List.getElem_cons_zero, List.getElem_cons_succ]
          refine zqk 5 rfl hH ?_
          simp only [Act.put, List.setIfInBounds_toArray, List.set_cons_zero, List.set_cons_succ, List.getElem_toArray, List.getElem_cons_zero, List.getElem_cons_succ]
          refine zqk 6 rfl hH ?_
          simp only [Act.put, List.setIfInBounds_toArray, List.set_cons_zero, List.set_cons_succ, List.getElem_toArray, List.getElem_cons_zero, List.getElem_cons_succ]
          refine zqk 7 rfl hH ?_
          simp only [Act.put, List.setIfInBounds_toArray, List.set_cons_zero, List.set_cons_succ, List.getElem_toArray, List.getElem_cons_zero, List.getElem_cons_succ]
          refine zqk 8 rfl hH ?_
          simp only [Act.put, List.setIfInBounds_toArray, List.set_cons_zero, List.set_cons_succ, List.getElem_toArray, List.getElem_cons_zero, List.getElem_cons_succ]
          refine zqk 9 rfl hH ?_
          simp only [Act.put, List.setIfInBounds_toArray, List.set_cons_zero, List.set_cons_succ, List.getElem_toArray, List.getElem_cons_zero, List.getElem_cons_succ]
          refine zqk 10 rfl hH ?_
          simp only [Act.put, List.setIfInBounds_toArray, List.set_cons_zero, List.set_cons_succ, List.getElem_toArray, List.getElem_cons_zero, List.getElem_cons_succ]
          refine zqk 11 rfl hH ?_
          simp only [Act.put, List.setIfInBounds_toArray, List.set_cons_zero, List.set_cons_succ, List.getElem_toArray, List.getElem_cons_zero, List.getElem_cons_succ]
          refine zqk 12 rfl hH ?_
          simp only [Act.put, List.setIfInBounds_toArray, List.set_cons_zero, List.set_cons_succ, List.getElem_toArray, List.getElem_cons_zero, List.getElem_cons_succ]
          have fq := Hq.out.lq.free 1
          have cq := Hq.out.lq.cell 1 _ rfl
          have Hh : Hid (SM b c q w (Wq.setCell ⟨q, 1, none⟩ (.string d6.t)) (.slice (some ⟨g, off, none⟩) A.length cap) A (m) en ⟨⟨d.t, d6.t, t⟩, nb, false, d.at_⟩) := Hq.out.put 1 _ rfl
          refine zqr 13 rfl (fun K2 hK => ?_)
          go_simp
          refine hK.out _ _ ⟨Hh.out.rd.1.cell 0 _ rfl, Hh.out.rd.1.cell 1 _ rfl, (Hh.out.rd.wordAt hr8).1 2 _ rfl⟩ (fun _ => ?_)
          clear hK K2 hH fq cq Hq
          refine wpAnyH_done (by kernel_rfl) ?_ _
          generalize Wq.setCell ⟨q, 1, none⟩ (.string d6.t) = Wh at *
          have HR8 : Hid (A.drop (m + 1) = r6) := drop_next hr8
          have ci := Hh.out.rd.1.cell 1 _ rfl
          have fi := Hh.out.rd.1.free 1
          have hi := (Hh.out.rd.wordAt hr8).2.1
          have Hi : Hid (SM b c q w (Wh.setCell ⟨b, 1, none⟩ (.int .i64 ((m : Int) + 1))) (.slice (some ⟨g, off, none⟩) A.length cap) A (m + 1) en ⟨⟨d.t, d6.t, t⟩, nb, false, d.at_⟩) := Hh.out.inc hi
          have hz := HZ9.out
          clear HZ9 Hh hr8 hr6 hr5 k1 k2 u1 u2
          obtain ⟨D, hD⟩ : ∃ D, D = sdl ⟨⟨d.t, d6.t, t⟩, nb, false, d.at_⟩ := ⟨_, rfl⟩
          have HF := Hi.out.fin
          have HL := Hi.out.lq.range
          have HT : World.there _ c 0 D.toArray.size := there_of Hi.out.lc (by rw [hD]; rfl)
          have HO : D.toArray.all (·.oneCell') = true := by rw [hD]; exact all_oneCell_toArray (sdl_one _)
          have HJ : (Tryz.prog.info? 62).map (·.size) = some D.toArray.size := by rw [hD]; exact infoSaid
          have HJ2 : (Tryz.prog.info? 62).map (·.size) = some D.length := by rw [hD]; exact infoSaid
          rw [← hD] at HF HL
          have HQ : Hid _ := HF
          have HL1 : Hid _ := HL
          have HT1 : Hid _ := HT
          have HO1 : Hid _ := HO
          have HJ1 : Hid _ := HJ
          have HJ3 : Hid _ := HJ2
          have HDh : Hid _ := hD
          have HZh : Hid _ := hz
          clear HF HL HT HO HJ HJ2 hD hz HSG HK HI Hi
          go_wp2_with (first | (refine wpList_load_mid rfl 62 _ rfl q 0 rfl D _ HL1.out Tryz.underlying62 rfl HJ3.out ?_) | (refine wpList_store_mid rfl 62 (.tmp 4) (.tmp 117) rfl c 0 D.toArray rfl rfl HT1.out HJ1.out HO1.out ?_; rw [List.toList_toArray]))
          obtain ⟨F1, F2, F3⟩ := HQ.out
          rw [HDh.out] at F3
          have y0 := F3.cell 0 _ rfl
          have y1 := F3.cell 1 _ rfl
          have y2 := F3.cell 2 _ rfl
          have y3 := F3.cell 3 _ rfl
          have y4 := F3.cell 4 _ rfl
          have y5 := F3.cell 5 _ rfl
          rw [← HDh.out] at y0 y1 y2 y3 y4 y5
          refine bodyPost_ret (by simp [results, Tryz.results43, go_sem, y0, y1, y2, y3, y4, y5]; try rfl) rfl ?_
          exact ⟨_, F1, F2, by rw [HZh.out]; exact ⟨HR8.out, rfl⟩⟩
end Go.Proofs.YtcnnpohnfoaceaaGreatDoor
