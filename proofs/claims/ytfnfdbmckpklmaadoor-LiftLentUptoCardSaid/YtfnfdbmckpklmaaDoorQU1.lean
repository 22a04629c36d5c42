import Derived.Deep.Cut
import Derived.Test.YtfnfdbmckpklmaaDoorQL3
import Derived.Test.YtfnfdbmckpklmaaDoorQE1
/-
  The reference's Up, Down by what they answer (pure).
-/
namespace Go.Proofs.YtfnfdbmckpklmaaDoor
open Go Go.RowKit
open Wb

/-- what the reference's Up makes of a valid record -/
def liftTo (to : Int) (r : Rec) : Rec := if r.x.v = 1 ∧ 1 < to then ⟨{ (cOne r).x with v := to }, (cOne r).nm, (cOne r).l⟩ else ⟨{ r.x with v := to }, r.nm, r.l⟩
/-- what the reference's guess makes of a record -/
def guessP (to : Int) (r : Rec) : Rec := if 1 < r.x.v ∧ to = 1 ∧ r.x.k = 1 then ⟨⟨to, r.x.k, r.x.s, r.x.n, 0, 0, 0, 0, 0, 0⟩, ⟨#[]⟩, nbs r.nm⟩
  else if to ≤ 1 then ⟨⟨to, r.x.k, r.x.s, r.x.p, 0, 0, 0, 0, 0, 0⟩, ⟨#[]⟩, r.l⟩
  else if to ≤ 2 then ⟨⟨to, r.x.k, r.x.s, r.x.p, r.x.t, r.x.a, r.x.l, 0, r.x.n, 0⟩, r.nm, r.l⟩
  else ⟨⟨to, r.x.k, r.x.s, r.x.p, r.x.t, r.x.a, r.x.l, r.x.c, r.x.n, r.x.i⟩, r.nm, r.l⟩
theorem liftTo_car (to : Int) (r : Rec) (hc : chkR r = 0) (h3 : to ≤ 3) (hv : r.x.v ≤ to) : liftTo to r = carP to r := by
  have hvv := ((chk_exp r.x r.nm r.l).1 hc).1
  obtain ⟨⟨v, k, s, p, t, a, l, c, n, i⟩, nm, d⟩ := r
  simp only at hvv hv
  obtain h | h | h : v = 1 ∨ v = 2 ∨ v = 3 := by omega
  · subst h
    obtain rfl | rfl | rfl : to = 1 ∨ to = 2 ∨ to = 3 := by omega
    · rw [car11 _ rfl]; rfl
    · rw [car12 _ rfl]
      have := one_v ⟨⟨1, k, s, p, t, a, l, c, n, i⟩, nm, d⟩
      unfold liftTo
      rw [if_pos ⟨rfl, by decide⟩]
      generalize cOne ⟨⟨1, k, s, p, t, a, l, c, n, i⟩, nm, d⟩ = q at *
      obtain ⟨⟨v, k, s, p, t, a, l, c, n, i⟩, nm, d⟩ := q
      simp only at this
      subst this
      rfl
    · rw [car13 _ rfl]
      unfold liftTo cTwo
      rw [if_pos ⟨rfl, by decide⟩]
  · subst h
    obtain rfl | rfl : to = 2 ∨ to = 3 := by omega
    · rw [car22 _ rfl]; rfl
    · rw [car23 _ rfl]; rfl
  · subst h
    obtain rfl : to = 3 := by omega
    rw [car33 _ rfl]; rfl
theorem guess_car (to : Int) (r : Rec) (hc : chkR r = 0) (h1 : 1 ≤ to) (hv : to ≤ r.x.v) : guessP to r = carP to r := by
  have hvv := ((chk_exp r.x r.nm r.l).1 hc).1
  obtain h | h | h : r.x.v = 1 ∨ r.x.v = 2 ∨ r.x.v = 3 := by omega
  · obtain rfl : to = 1 := by omega
    rw [car11 _ h]
    have h2 := (v1_iff r h).1 hc
    obtain ⟨⟨v, k, s, p, t, a, l, c, n, i⟩, nm, d⟩ := r
    unfold V1 at h2
    simp only at h h2
    obtain ⟨_, rfl, rfl, rfl, rfl, rfl, rfl, rfl, _⟩ := h2
    subst h
    rfl
  · obtain rfl | rfl : to = 1 ∨ to = 2 := by omega
    · rw [car21 _ h]
      unfold guessP cBack
      rw [h]
      by_cases hk : r.x.k = 1
      · rw [if_pos ⟨by decide, rfl, hk⟩, if_pos hk]
      · rw [if_neg (fun x => hk x.2.2), if_neg hk, if_pos (by decide)]
    · rw [car22 _ h]
      have h2 := (v2_iff r h).1 hc
      obtain ⟨⟨v, k, s, p, t, a, l, c, n, i⟩, nm, d⟩ := r
      unfold V2 at h2
      simp only at h h2
      obtain ⟨_, _, _, rfl, rfl, _⟩ := h2
      subst h
      rfl
  · obtain rfl | rfl | rfl : to = 1 ∨ to = 2 ∨ to = 3 := by omega
    · rw [car31 _ h]
      unfold guessP cBack cThree
      rw [h]
      by_cases hk : r.x.k = 1
      · rw [if_pos ⟨by decide, rfl, hk⟩, if_pos hk]
      · rw [if_neg (fun x => hk x.2.2), if_neg hk, if_pos (by decide)]
    · rw [car32 _ h]
      unfold guessP cThree
      rw [if_neg (fun x => absurd x.2.1 (by decide)), if_neg (by decide), if_pos (by decide)]
    · rw [car33 _ h]
      obtain ⟨⟨v, k, s, p, t, a, l, c, n, i⟩, nm, d⟩ := r
      simp only at h
      subst h
      rfl
/-- what the reference's Down answers is what Down answers -/
theorem down_ref (to : Int) (r : Rec) (hc : chkR r = 0) (h1 : 1 ≤ to) (h3 : to ≤ 3) (hv : to ≤ r.x.v) :
    downP to r = if (upP r.x.v (guessP to r)).1 ≠ 0 then (40, zRec) else if eqR (upP r.x.v (guessP to r)).2 r = true then (0, guessP to r) else (40, zRec) := by
  rw [guess_car to r hc h1 hv]
  by_cases he : carP r.x.v (carP to r) = r
  · rw [down_good hc h1 h3 hv he]
    have hvv := ((chk_exp r.x r.nm r.l).1 hc).1
    obtain ⟨hk, hkv⟩ := down_ok2 r to hc h1 hv he
    have hu := up_good (to := r.x.v) hk hvv.1 hvv.2 (by rw [hkv]; exact hv)
    rw [hu, if_neg (by simp), if_pos ((eqR_iff _ _).2 he)]
  · rw [down_lossy hc h1 h3 hv he]
    by_cases hz : (upP r.x.v (carP to r)).1 = 0
    · rw [if_neg (by simpa using hz), (up_zero hz).2.2.2.2, if_neg (fun x => he ((eqR_iff _ _).1 x))]
    · rw [if_pos hz]
end Go.Proofs.YtfnfdbmckpklmaaDoor

/-
  The reference's second and Up.
-/
namespace Go.Proofs.YtfnfdbmckpklmaaDoor
open Go Go.RowKit
open Wb

theorem bs_set {w : World} {d : Value} {l : List Nat} (h : Bs w d l) (p : Addr) (u : Value) (ho : Off p.block d l) : Bs (w.setCell p u) d l := by
  obtain ⟨⟨ao, cap, h1, h2, h3, h4, h5⟩, hok⟩ := h
  refine ⟨⟨ao, cap, h1, h2, h3, h4, fun hne => ?_⟩, hok⟩
  obtain ⟨b, off, hb, hc⟩ := h5 hne
  refine ⟨b, off, hb, fun j hj => ?_⟩
  have hbg : b ≠ p.block := ho hne b off l.length cap (by rw [h1, hb])
  have e := set_other w p u b hbg
  have hcj := hc j hj
  unfold World.cell? at hcj ⊢
  simp only at hcj ⊢
  rw [e]
  exact hcj
theorem off_nil (g : Nat) (d : Value) : Off g d [] := fun h => absurd rfl h
/-- a record that was handed out: its data is new memory -/
def NewR (w w' : World) (r : Rec) (e : Ending) : Prop := ∃ ao, ∃ cap : Nat, e = .returned (rv r.x r.nm (.slice ao r.l.length cap)) ∧ Bs w' (.slice ao r.l.length cap) r.l ∧ (∀ g, g < w.heap.size → Off g (.slice ao r.l.length cap) r.l) ∧ Below w.heap.size w w'
set_option maxRecDepth 100000 in
set_option maxHeartbeats 2000000 in
theorem second_1 (r : Rec) (d : Value) (w : World) (h : Bs w d r.l) (hlen : r.l.length ≤ 140737488355000) (hk : r.x.k = 1) :
    Calls Tryd.prog 74 #[rv r.x r.nm d] w fun e w' => NewR w w' (cOne r) e := by
  have HE : Hid (cOne r = ⟨{ r.x with v := 2, n := r.x.p, p := 0 }, bstr r.l, []⟩) := by show _ = _; unfold cOne; rw [if_pos hk]
  rw [HE.out]
  have d1 : (r.x.k == 1) = true := by simp [hk]
  have d2 : (r.x.k == 2) = false := by simp [hk]
  have d4 : (r.x.k == 4) = false := by simp [hk]
  have d5 : (r.x.k == 5) = false := by simp [hk]
  have HIR : Hid ((Tryd.prog.info? 24).map (·.size) = some 12) := infoRec
  have HX : Hid (∀ o1 o2, ((w.alloc o1).alloc o2).heap[w.heap.size]? = some o1 ∧ ((w.alloc o1).alloc o2).heap[w.heap.size + 1]? = some o2 ∧ Below w.heap.size w ((w.alloc o1).alloc o2) ∧ w.heap.size + 2 ≤ ((w.alloc o1).alloc o2).heap.size) := fun o1 o2 => ⟨(heap2 w o1 o2).1, (heap2 w o1 o2).2.1, (heap2 w o1 o2).2.2, by rw [heap_one, heap_one]; omega⟩
  have HCL : Hid (∀ w', Below w.heap.size w w' → Calls Tryd.prog 6 #[rv r.x r.nm d] w' fun e w'' => ∃ ao', ∃ cap' : Nat, e = .returned (rv r.x r.nm (.slice ao' r.l.length cap')) ∧ Own w'.heap.size w'' (.slice ao' r.l.length cap') r.l ∧ Below w'.heap.size w' w'') := fun w' hb' => (refclone_any r.x r.nm d r.l w' (h.kept hb') hlen).mono fun e w'' ⟨d', he, ho, hb''⟩ => by
    obtain ⟨ao', cap', rfl, _⟩ := ho.bs.shape
    exact ⟨ao', cap', he, ho, hb''⟩
  have HB : Hid (∀ w', Below w.heap.size w w' → Bs w' d r.l) := fun w' hb' => h.kept hb'
  obtain ⟨ao, cap, rfl, _⟩ := h.shape
  clear h HE hk
  unfold rv at *
  go_enter Tryd.func74, Tryd.ntmps74
  go_wp2_with fail
  refine (HCL.out _ (HX.out _ _).2.2.1).mono ?_
  rintro e w3 ⟨ao3, cap3, rfl, ho3, b3⟩
  have hbx : Box w3 w.heap.size r.x r.nm (.slice ao r.l.length cap) := Box.kept (HX.out _ _).1 b3
  have hz : Box w3 (w.heap.size + 1) zeroNums ⟨#[]⟩ (.slice none 0 0) := Box.kept (HX.out _ _).2.1 b3
  have B3 := andThen (HX.out _ _).2.2.1 b3
  have HO3 : Hid (Own (w.heap.size + 2) w3 (.slice ao3 r.l.length cap3) r.l) := ho3.mono (HX.out _ _).2.2.2
  clear ho3 b3 HX HCL
  have hl0 : w.heap.size < w3.heap.size := hbx.lt
  have hl1 : w.heap.size + 1 < w3.heap.size := hz.lt
  have HA : Hid (∀ o, Box (w3.alloc o) w.heap.size r.x r.nm (.slice ao r.l.length cap) ∧ Box (w3.alloc o) (w.heap.size + 1) zeroNums ⟨#[]⟩ (.slice none 0 0) ∧ Bs (w3.alloc o) (.slice ao r.l.length cap) r.l ∧ Below w.heap.size w (w3.alloc o) ∧ Own (w.heap.size + 2) (w3.alloc o) (.slice ao3 r.l.length cap3) r.l) := fun o => ⟨hbx.kept (up0 _ _), hz.kept (up0 _ _), HB.out _ (up B3 _), up B3 _, HO3.out.alloc _⟩
  obtain ⟨c0, c1, c2, c3, c4, c5, c6, c7, c8, c9, c10, c11⟩ := hbx.cells
  have hcv : ∀ o, (convert 22 9 (.slice ao r.l.length cap)).run Tryd.prog (w3.alloc o) = .ok (.string (bstr r.l)) (w3.alloc o) := fun o => conv_bs (HA.out o).2.2.1
  clear B3
  go_upto_region 14 with fail
  have HK : Hid (Box (w3.alloc (.cells #[.int .i64 2, .int .i64 r.x.k, .int .i64 r.x.s, .int .i64 0, .int .i64 r.x.t, .int .i64 r.x.a, .int .i64 r.x.l, .int .i64 r.x.c, .int .i64 r.x.p, .int .i64 r.x.i, .string (bstr r.l), .slice none 0 0] 24)) w3.heap.size ⟨2, r.x.k, r.x.s, 0, r.x.t, r.x.a, r.x.l, r.x.c, r.x.p, r.x.i⟩ (bstr r.l) (.slice none 0 0) ∧ Box (w3.alloc (.cells #[.int .i64 2, .int .i64 r.x.k, .int .i64 r.x.s, .int .i64 0, .int .i64 r.x.t, .int .i64 r.x.a, .int .i64 r.x.l, .int .i64 r.x.c, .int .i64 r.x.p, .int .i64 r.x.i, .string (bstr r.l), .slice none 0 0] 24)) (w.heap.size + 1) zeroNums ⟨#[]⟩ (.slice none 0 0) ∧ Below w.heap.size w ((w3.alloc (.cells #[.int .i64 2, .int .i64 r.x.k, .int .i64 r.x.s, .int .i64 0, .int .i64 r.x.t, .int .i64 r.x.a, .int .i64 r.x.l, .int .i64 r.x.c, .int .i64 r.x.p, .int .i64 r.x.i, .string (bstr r.l), .slice none 0 0] 24)).setCells (w.heap.size + 1) 0 [.int .i64 2, .int .i64 r.x.k, .int .i64 r.x.s, .int .i64 0, .int .i64 r.x.t, .int .i64 r.x.a, .int .i64 r.x.l, .int .i64 r.x.c, .int .i64 r.x.p, .int .i64 r.x.i, .string (bstr r.l), .slice none 0 0]) ∧ Bs ((w3.alloc (.cells #[.int .i64 2, .int .i64 r.x.k, .int .i64 r.x.s, .int .i64 0, .int .i64 r.x.t, .int .i64 r.x.a, .int .i64 r.x.l, .int .i64 r.x.c, .int .i64 r.x.p, .int .i64 r.x.i, .string (bstr r.l), .slice none 0 0] 24)).setCells (w.heap.size + 1) 0 [.int .i64 2, .int .i64 r.x.k, .int .i64 r.x.s, .int .i64 0, .int .i64 r.x.t, .int .i64 r.x.a, .int .i64 r.x.l, .int .i64 r.x.c, .int .i64 r.x.p, .int .i64 r.x.i, .string (bstr r.l), .slice none 0 0]) (.slice none 0 0) [] ∧ ∀ g, g < w.heap.size → Off g (.slice none 0 0) []) := ⟨heap_new _ _, (HA.out _).2.1, below_cells (by omega) _ 0 _ (HA.out _).2.2.2.1, Bs.nil _, fun g _ => off_nil g _⟩
  have HK' := HK.out
  clear HK HA HO3 hbx hz c0 c1 c2 c3 c4 c5 c6 c7 c8 c9 c10 c11 hl0 hl1 hcv
  generalize w3.alloc (.cells #[.int .i64 2, .int .i64 r.x.k, .int .i64 r.x.s, .int .i64 0, .int .i64 r.x.t, .int .i64 r.x.a, .int .i64 r.x.l, .int .i64 r.x.c, .int .i64 r.x.p, .int .i64 r.x.i, .string (bstr r.l), .slice none 0 0] 24) = W at HK' ⊢
  generalize w3.heap.size = g3 at HK' ⊢
  obtain ⟨hq, hz, hB, hbs, hof⟩ := HK'
  obtain ⟨c0, c1, c2, c3, c4, c5, c6, c7, c8, c9, c10, c11⟩ := hq.cells
  obtain ⟨z0, z1, z2, z3, z4, z5, z6, z7, z8, z9, z10, z11⟩ := hz.cells
  have f0 := hz.free' 0
  have f1 := hz.free' 1
  have f2 := hz.free' 2
  have f3 := hz.free' 3
  have f4 := hz.free' 4
  have f5 := hz.free' 5
  have f6 := hz.free' 6
  have f7 := hz.free' 7
  have f8 := hz.free' 8
  have f9 := hz.free' 9
  have f10 := hz.free' 10
  have f11 := hz.free' 11
  have HTH : Hid (W.there (w.heap.size + 1) 0 12) := hz.there
  have HF : Hid (Below w.heap.size w (W.setCells (w.heap.size + 1) 0 [.int .i64 2, .int .i64 r.x.k, .int .i64 r.x.s, .int .i64 0, .int .i64 r.x.t, .int .i64 r.x.a, .int .i64 r.x.l, .int .i64 r.x.c, .int .i64 r.x.p, .int .i64 r.x.i, .string (bstr r.l), .slice none 0 0]) ∧ Bs (W.setCells (w.heap.size + 1) 0 [.int .i64 2, .int .i64 r.x.k, .int .i64 r.x.s, .int .i64 0, .int .i64 r.x.t, .int .i64 r.x.a, .int .i64 r.x.l, .int .i64 r.x.c, .int .i64 r.x.p, .int .i64 r.x.i, .string (bstr r.l), .slice none 0 0]) (.slice none 0 0) [] ∧ ∀ g, g < w.heap.size → Off g (.slice none 0 0) []) := ⟨hB, hbs, hof⟩
  clear hq hz hB hbs hof
  go_wp2
  have HRG := World.rangeAt_setCells_same W (w.heap.size + 1) 0 [.int .i64 2, .int .i64 r.x.k, .int .i64 r.x.s, .int .i64 0, .int .i64 r.x.t, .int .i64 r.x.a, .int .i64 r.x.l, .int .i64 r.x.c, .int .i64 r.x.p, .int .i64 r.x.i, .string (bstr r.l), .slice none 0 0] HTH.out
  refine bodyPost_ret (results_cell_mid (p := 2) (ty := 24) rfl _ _ (w.heap.size + 1) [.int .i64 2, .int .i64 r.x.k, .int .i64 r.x.s, .int .i64 0, .int .i64 r.x.t, .int .i64 r.x.a, .int .i64 r.x.l, .int .i64 r.x.c, .int .i64 r.x.p, .int .i64 r.x.i, .string (bstr r.l), .slice none 0 0] _ rfl HRG Tryd.underlying24 rfl HIR.out) rfl ?_
  exact ⟨_, _, rfl, HF.out.2.1, HF.out.2.2, HF.out.1⟩
set_option maxRecDepth 100000 in
set_option maxHeartbeats 2000000 in
theorem second_2 (r : Rec) (d : Value) (w : World) (h : Bs w d r.l) (hlen : r.l.length ≤ 140737488355000) (hk : r.x.k = 2) :
    Calls Tryd.prog 74 #[rv r.x r.nm d] w fun e w' => NewR w w' (cOne r) e := by
  have HE : Hid (cOne r = ⟨{ r.x with v := 2, t := 1 }, r.nm, r.l⟩) := by show _ = _; unfold cOne; rw [if_neg (by omega), if_pos (.inl hk)]
  rw [HE.out]
  have d1 : (r.x.k == 1) = false := by simp [hk]
  have d2 : (r.x.k == 2) = true := by simp [hk]
  have d4 : (r.x.k == 4) = false := by simp [hk]
  have d5 : (r.x.k == 5) = false := by simp [hk]
  have HIR : Hid ((Tryd.prog.info? 24).map (·.size) = some 12) := infoRec
  have HX : Hid (∀ o1 o2, ((w.alloc o1).alloc o2).heap[w.heap.size]? = some o1 ∧ ((w.alloc o1).alloc o2).heap[w.heap.size + 1]? = some o2 ∧ Below w.heap.size w ((w.alloc o1).alloc o2) ∧ w.heap.size + 2 ≤ ((w.alloc o1).alloc o2).heap.size) := fun o1 o2 => ⟨(heap2 w o1 o2).1, (heap2 w o1 o2).2.1, (heap2 w o1 o2).2.2, by rw [heap_one, heap_one]; omega⟩
  have HCL : Hid (∀ w', Below w.heap.size w w' → Calls Tryd.prog 6 #[rv r.x r.nm d] w' fun e w'' => ∃ ao', ∃ cap' : Nat, e = .returned (rv r.x r.nm (.slice ao' r.l.length cap')) ∧ Own w'.heap.size w'' (.slice ao' r.l.length cap') r.l ∧ Below w'.heap.size w' w'') := fun w' hb' => (refclone_any r.x r.nm d r.l w' (h.kept hb') hlen).mono fun e w'' ⟨d', he, ho, hb''⟩ => by
    obtain ⟨ao', cap', rfl, _⟩ := ho.bs.shape
    exact ⟨ao', cap', he, ho, hb''⟩
  have HB : Hid (∀ w', Below w.heap.size w w' → Bs w' d r.l) := fun w' hb' => h.kept hb'
  obtain ⟨ao, cap, rfl, _⟩ := h.shape
  clear h HE hk
  unfold rv at *
  go_enter Tryd.func74, Tryd.ntmps74
  go_wp2_with fail
  refine (HCL.out _ (HX.out _ _).2.2.1).mono ?_
  rintro e w3 ⟨ao3, cap3, rfl, ho3, b3⟩
  have hbx : Box w3 w.heap.size r.x r.nm (.slice ao r.l.length cap) := Box.kept (HX.out _ _).1 b3
  have hz : Box w3 (w.heap.size + 1) zeroNums ⟨#[]⟩ (.slice none 0 0) := Box.kept (HX.out _ _).2.1 b3
  have B3 := andThen (HX.out _ _).2.2.1 b3
  have HO3 : Hid (Own (w.heap.size + 2) w3 (.slice ao3 r.l.length cap3) r.l) := ho3.mono (HX.out _ _).2.2.2
  clear ho3 b3 HX HCL
  have hl0 : w.heap.size < w3.heap.size := hbx.lt
  have hl1 : w.heap.size + 1 < w3.heap.size := hz.lt
  have HA : Hid (∀ o, Box (w3.alloc o) w.heap.size r.x r.nm (.slice ao r.l.length cap) ∧ Box (w3.alloc o) (w.heap.size + 1) zeroNums ⟨#[]⟩ (.slice none 0 0) ∧ Bs (w3.alloc o) (.slice ao r.l.length cap) r.l ∧ Below w.heap.size w (w3.alloc o) ∧ Own (w.heap.size + 2) (w3.alloc o) (.slice ao3 r.l.length cap3) r.l) := fun o => ⟨hbx.kept (up0 _ _), hz.kept (up0 _ _), HB.out _ (up B3 _), up B3 _, HO3.out.alloc _⟩
  obtain ⟨c0, c1, c2, c3, c4, c5, c6, c7, c8, c9, c10, c11⟩ := hbx.cells
  clear B3
  go_upto_region 14 with fail
  have HK : Hid (Box (w3.alloc (.cells #[.int .i64 2, .int .i64 r.x.k, .int .i64 r.x.s, .int .i64 r.x.p, .int .i64 1, .int .i64 r.x.a, .int .i64 r.x.l, .int .i64 r.x.c, .int .i64 r.x.n, .int .i64 r.x.i, .string r.nm, .slice ao3 r.l.length cap3] 24)) w3.heap.size ⟨2, r.x.k, r.x.s, r.x.p, 1, r.x.a, r.x.l, r.x.c, r.x.n, r.x.i⟩ r.nm (.slice ao3 r.l.length cap3) ∧ Box (w3.alloc (.cells #[.int .i64 2, .int .i64 r.x.k, .int .i64 r.x.s, .int .i64 r.x.p, .int .i64 1, .int .i64 r.x.a, .int .i64 r.x.l, .int .i64 r.x.c, .int .i64 r.x.n, .int .i64 r.x.i, .string r.nm, .slice ao3 r.l.length cap3] 24)) (w.heap.size + 1) zeroNums ⟨#[]⟩ (.slice none 0 0) ∧ Below w.heap.size w ((w3.alloc (.cells #[.int .i64 2, .int .i64 r.x.k, .int .i64 r.x.s, .int .i64 r.x.p, .int .i64 1, .int .i64 r.x.a, .int .i64 r.x.l, .int .i64 r.x.c, .int .i64 r.x.n, .int .i64 r.x.i, .string r.nm, .slice ao3 r.l.length cap3] 24)).setCells (w.heap.size + 1) 0 [.int .i64 2, .int .i64 r.x.k, .int .i64 r.x.s, .int .i64 r.x.p, .int .i64 1, .int .i64 r.x.a, .int .i64 r.x.l, .int .i64 r.x.c, .int .i64 r.x.n, .int .i64 r.x.i, .string r.nm, .slice ao3 r.l.length cap3]) ∧ Bs ((w3.alloc (.cells #[.int .i64 2, .int .i64 r.x.k, .int .i64 r.x.s, .int .i64 r.x.p, .int .i64 1, .int .i64 r.x.a, .int .i64 r.x.l, .int .i64 r.x.c, .int .i64 r.x.n, .int .i64 r.x.i, .string r.nm, .slice ao3 r.l.length cap3] 24)).setCells (w.heap.size + 1) 0 [.int .i64 2, .int .i64 r.x.k, .int .i64 r.x.s, .int .i64 r.x.p, .int .i64 1, .int .i64 r.x.a, .int .i64 r.x.l, .int .i64 r.x.c, .int .i64 r.x.n, .int .i64 r.x.i, .string r.nm, .slice ao3 r.l.length cap3]) (.slice ao3 r.l.length cap3) r.l ∧ ∀ g, g < w.heap.size → Off g (.slice ao3 r.l.length cap3) r.l) := ⟨heap_new _ _, (HA.out _).2.1, below_cells (by omega) _ 0 _ (HA.out _).2.2.2.1, (Own.cells (HA.out _).2.2.2.2 _ _ _ (by omega)).bs, fun g hg => off_own HO3.out g (by omega)⟩
  have HK' := HK.out
  clear HK HA HO3 hbx hz c0 c1 c2 c3 c4 c5 c6 c7 c8 c9 c10 c11 hl0 hl1
  generalize w3.alloc (.cells #[.int .i64 2, .int .i64 r.x.k, .int .i64 r.x.s, .int .i64 r.x.p, .int .i64 1, .int .i64 r.x.a, .int .i64 r.x.l, .int .i64 r.x.c, .int .i64 r.x.n, .int .i64 r.x.i, .string r.nm, .slice ao3 r.l.length cap3] 24) = W at HK' ⊢
  generalize w3.heap.size = g3 at HK' ⊢
  obtain ⟨hq, hz, hB, hbs, hof⟩ := HK'
  obtain ⟨c0, c1, c2, c3, c4, c5, c6, c7, c8, c9, c10, c11⟩ := hq.cells
  obtain ⟨z0, z1, z2, z3, z4, z5, z6, z7, z8, z9, z10, z11⟩ := hz.cells
  have f0 := hz.free' 0
  have f1 := hz.free' 1
  have f2 := hz.free' 2
  have f3 := hz.free' 3
  have f4 := hz.free' 4
  have f5 := hz.free' 5
  have f6 := hz.free' 6
  have f7 := hz.free' 7
  have f8 := hz.free' 8
  have f9 := hz.free' 9
  have f10 := hz.free' 10
  have f11 := hz.free' 11
  have HTH : Hid (W.there (w.heap.size + 1) 0 12) := hz.there
  have HF : Hid (Below w.heap.size w (W.setCells (w.heap.size + 1) 0 [.int .i64 2, .int .i64 r.x.k, .int .i64 r.x.s, .int .i64 r.x.p, .int .i64 1, .int .i64 r.x.a, .int .i64 r.x.l, .int .i64 r.x.c, .int .i64 r.x.n, .int .i64 r.x.i, .string r.nm, .slice ao3 r.l.length cap3]) ∧ Bs (W.setCells (w.heap.size + 1) 0 [.int .i64 2, .int .i64 r.x.k, .int .i64 r.x.s, .int .i64 r.x.p, .int .i64 1, .int .i64 r.x.a, .int .i64 r.x.l, .int .i64 r.x.c, .int .i64 r.x.n, .int .i64 r.x.i, .string r.nm, .slice ao3 r.l.length cap3]) (.slice ao3 r.l.length cap3) r.l ∧ ∀ g, g < w.heap.size → Off g (.slice ao3 r.l.length cap3) r.l) := ⟨hB, hbs, hof⟩
  clear hq hz hB hbs hof
  go_wp2
  have HRG := World.rangeAt_setCells_same W (w.heap.size + 1) 0 [.int .i64 2, .int .i64 r.x.k, .int .i64 r.x.s, .int .i64 r.x.p, .int .i64 1, .int .i64 r.x.a, .int .i64 r.x.l, .int .i64 r.x.c, .int .i64 r.x.n, .int .i64 r.x.i, .string r.nm, .slice ao3 r.l.length cap3] HTH.out
  refine bodyPost_ret (results_cell_mid (p := 2) (ty := 24) rfl _ _ (w.heap.size + 1) [.int .i64 2, .int .i64 r.x.k, .int .i64 r.x.s, .int .i64 r.x.p, .int .i64 1, .int .i64 r.x.a, .int .i64 r.x.l, .int .i64 r.x.c, .int .i64 r.x.n, .int .i64 r.x.i, .string r.nm, .slice ao3 r.l.length cap3] _ rfl HRG Tryd.underlying24 rfl HIR.out) rfl ?_
  exact ⟨_, _, rfl, HF.out.2.1, HF.out.2.2, HF.out.1⟩
set_option maxRecDepth 100000 in
set_option maxHeartbeats 2000000 in
theorem second_5 (r : Rec) (d : Value) (w : World) (h : Bs w d r.l) (hlen : r.l.length ≤ 140737488355000) (hk : r.x.k = 5) :
    Calls Tryd.prog 74 #[rv r.x r.nm d] w fun e w' => NewR w w' (cOne r) e := by
  have HE : Hid (cOne r = ⟨{ r.x with v := 2, t := 1 }, r.nm, r.l⟩) := by show _ = _; unfold cOne; rw [if_neg (by omega), if_pos (.inr hk)]
  rw [HE.out]
  have d1 : (r.x.k == 1) = false := by simp [hk]
  have d2 : (r.x.k == 2) = false := by simp [hk]
  have d4 : (r.x.k == 4) = false := by simp [hk]
  have d5 : (r.x.k == 5) = true := by simp [hk]
  have HIR : Hid ((Tryd.prog.info? 24).map (·.size) = some 12) := infoRec
  have HX : Hid (∀ o1 o2, ((w.alloc o1).alloc o2).heap[w.heap.size]? = some o1 ∧ ((w.alloc o1).alloc o2).heap[w.heap.size + 1]? = some o2 ∧ Below w.heap.size w ((w.alloc o1).alloc o2) ∧ w.heap.size + 2 ≤ ((w.alloc o1).alloc o2).heap.size) := fun o1 o2 => ⟨(heap2 w o1 o2).1, (heap2 w o1 o2).2.1, (heap2 w o1 o2).2.2, by rw [heap_one, heap_one]; omega⟩
  have HCL : Hid (∀ w', Below w.heap.size w w' → Calls Tryd.prog 6 #[rv r.x r.nm d] w' fun e w'' => ∃ ao', ∃ cap' : Nat, e = .returned (rv r.x r.nm (.slice ao' r.l.length cap')) ∧ Own w'.heap.size w'' (.slice ao' r.l.length cap') r.l ∧ Below w'.heap.size w' w'') := fun w' hb' => (refclone_any r.x r.nm d r.l w' (h.kept hb') hlen).mono fun e w'' ⟨d', he, ho, hb''⟩ => by
    obtain ⟨ao', cap', rfl, _⟩ := ho.bs.shape
    exact ⟨ao', cap', he, ho, hb''⟩
  have HB : Hid (∀ w', Below w.heap.size w w' → Bs w' d r.l) := fun w' hb' => h.kept hb'
  obtain ⟨ao, cap, rfl, _⟩ := h.shape
  clear h HE hk
  unfold rv at *
  go_enter Tryd.func74, Tryd.ntmps74
  go_wp2_with fail
  refine (HCL.out _ (HX.out _ _).2.2.1).mono ?_
  rintro e w3 ⟨ao3, cap3, rfl, ho3, b3⟩
  have hbx : Box w3 w.heap.size r.x r.nm (.slice ao r.l.length cap) := Box.kept (HX.out _ _).1 b3
  have hz : Box w3 (w.heap.size + 1) zeroNums ⟨#[]⟩ (.slice none 0 0) := Box.kept (HX.out _ _).2.1 b3
  have B3 := andThen (HX.out _ _).2.2.1 b3
  have HO3 : Hid (Own (w.heap.size + 2) w3 (.slice ao3 r.l.length cap3) r.l) := ho3.mono (HX.out _ _).2.2.2
  clear ho3 b3 HX HCL
  have hl0 : w.heap.size < w3.heap.size := hbx.lt
  have hl1 : w.heap.size + 1 < w3.heap.size := hz.lt
  have HA : Hid (∀ o, Box (w3.alloc o) w.heap.size r.x r.nm (.slice ao r.l.length cap) ∧ Box (w3.alloc o) (w.heap.size + 1) zeroNums ⟨#[]⟩ (.slice none 0 0) ∧ Bs (w3.alloc o) (.slice ao r.l.length cap) r.l ∧ Below w.heap.size w (w3.alloc o) ∧ Own (w.heap.size + 2) (w3.alloc o) (.slice ao3 r.l.length cap3) r.l) := fun o => ⟨hbx.kept (up0 _ _), hz.kept (up0 _ _), HB.out _ (up B3 _), up B3 _, HO3.out.alloc _⟩
  obtain ⟨c0, c1, c2, c3, c4, c5, c6, c7, c8, c9, c10, c11⟩ := hbx.cells
  clear B3
  go_upto_region 14 with fail
  have HK : Hid (Box (w3.alloc (.cells #[.int .i64 2, .int .i64 r.x.k, .int .i64 r.x.s, .int .i64 r.x.p, .int .i64 1, .int .i64 r.x.a, .int .i64 r.x.l, .int .i64 r.x.c, .int .i64 r.x.n, .int .i64 r.x.i, .string r.nm, .slice ao3 r.l.length cap3] 24)) w3.heap.size ⟨2, r.x.k, r.x.s, r.x.p, 1, r.x.a, r.x.l, r.x.c, r.x.n, r.x.i⟩ r.nm (.slice ao3 r.l.length cap3) ∧ Box (w3.alloc (.cells #[.int .i64 2, .int .i64 r.x.k, .int .i64 r.x.s, .int .i64 r.x.p, .int .i64 1, .int .i64 r.x.a, .int .i64 r.x.l, .int .i64 r.x.c, .int .i64 r.x.n, .int .i64 r.x.i, .string r.nm, .slice ao3 r.l.length cap3] 24)) (w.heap.size + 1) zeroNums ⟨#[]⟩ (.slice none 0 0) ∧ Below w.heap.size w ((w3.alloc (.cells #[.int .i64 2, .int .i64 r.x.k, .int .i64 r.x.s, .int .i64 r.x.p, .int .i64 1, .int .i64 r.x.a, .int .i64 r.x.l, .int .i64 r.x.c, .int .i64 r.x.n, .int .i64 r.x.i, .string r.nm, .slice ao3 r.l.length cap3] 24)).setCells (w.heap.size + 1) 0 [.int .i64 2, .int .i64 r.x.k, .int .i64 r.x.s, .int .i64 r.x.p, .int .i64 1, .int .i64 r.x.a, .int .i64 r.x.l, .int .i64 r.x.c, .int .i64 r.x.n, .int .i64 r.x.i, .string r.nm, .slice ao3 r.l.length cap3]) ∧ Bs ((w3.alloc (.cells #[.int .i64 2, .int .i64 r.x.k, .int .i64 r.x.s, .int .i64 r.x.p, .int .i64 1, .int .i64 r.x.a, .int .i64 r.x.l, .int .i64 r.x.c, .int .i64 r.x.n, .int .i64 r.x.i, .string r.nm, .slice ao3 r.l.length cap3] 24)).setCells (w.heap.size + 1) 0 [.int .i64 2, .int .i64 r.x.k, .int .i64 r.x.s, .int .i64 r.x.p, .int .i64 1, .int .i64 r.x.a, .int .i64 r.x.l, .int .i64 r.x.c, .int .i64 r.x.n, .int .i64 r.x.i, .string r.nm, .slice ao3 r.l.length cap3]) (.slice ao3 r.l.length cap3) r.l ∧ ∀ g, g < w.heap.size → Off g (.slice ao3 r.l.length cap3) r.l) := ⟨heap_new _ _, (HA.out _).2.1, below_cells (by omega) _ 0 _ (HA.out _).2.2.2.1, (Own.cells (HA.out _).2.2.2.2 _ _ _ (by omega)).bs, fun g hg => off_own HO3.out g (by omega)⟩
  have HK' := HK.out
  clear HK HA HO3 hbx hz c0 c1 c2 c3 c4 c5 c6 c7 c8 c9 c10 c11 hl0 hl1
  generalize w3.alloc (.cells #[.int .i64 2, .int .i64 r.x.k, .int .i64 r.x.s, .int .i64 r.x.p, .int .i64 1, .int .i64 r.x.a, .int .i64 r.x.l, .int .i64 r.x.c, .int .i64 r.x.n, .int .i64 r.x.i, .string r.nm, .slice ao3 r.l.length cap3] 24) = W at HK' ⊢
  generalize w3.heap.size = g3 at HK' ⊢
  obtain ⟨hq, hz, hB, hbs, hof⟩ := HK'
  obtain ⟨c0, c1, c2, c3, c4, c5, c6, c7, c8, c9, c10, c11⟩ := hq.cells
  obtain ⟨z0, z1, z2, z3, z4, z5, z6, z7, z8, z9, z10, z11⟩ := hz.cells
  have f0 := hz.free' 0
  have f1 := hz.free' 1
  have f2 := hz.free' 2
  have f3 := hz.free' 3
  have f4 := hz.free' 4
  have f5 := hz.free' 5
  have f6 := hz.free' 6
  have f7 := hz.free' 7
  have f8 := hz.free' 8
  have f9 := hz.free' 9
  have f10 := hz.free' 10
  have f11 := hz.free' 11
  have HTH : Hid (W.there (w.heap.size + 1) 0 12) := hz.there
  have HF : Hid (Below w.heap.size w (W.setCells (w.heap.size + 1) 0 [.int .i64 2, .int .i64 r.x.k, .int .i64 r.x.s, .int .i64 r.x.p, .int .i64 1, .int .i64 r.x.a, .int .i64 r.x.l, .int .i64 r.x.c, .int .i64 r.x.n, .int .i64 r.x.i, .string r.nm, .slice ao3 r.l.length cap3]) ∧ Bs (W.setCells (w.heap.size + 1) 0 [.int .i64 2, .int .i64 r.x.k, .int .i64 r.x.s, .int .i64 r.x.p, .int .i64 1, .int .i64 r.x.a, .int .i64 r.x.l, .int .i64 r.x.c, .int .i64 r.x.n, .int .i64 r.x.i, .string r.nm, .slice ao3 r.l.length cap3]) (.slice ao3 r.l.length cap3) r.l ∧ ∀ g, g < w.heap.size → Off g (.slice ao3 r.l.length cap3) r.l) := ⟨hB, hbs, hof⟩
  clear hq hz hB hbs hof
  go_wp2
  have HRG := World.rangeAt_setCells_same W (w.heap.size + 1) 0 [.int .i64 2, .int .i64 r.x.k, .int .i64 r.x.s, .int .i64 r.x.p, .int .i64 1, .int .i64 r.x.a, .int .i64 r.x.l, .int .i64 r.x.c, .int .i64 r.x.n, .int .i64 r.x.i, .string r.nm, .slice ao3 r.l.length cap3] HTH.out
  refine bodyPost_ret (results_cell_mid (p := 2) (ty := 24) rfl _ _ (w.heap.size + 1) [.int .i64 2, .int .i64 r.x.k, .int .i64 r.x.s, .int .i64 r.x.p, .int .i64 1, .int .i64 r.x.a, .int .i64 r.x.l, .int .i64 r.x.c, .int .i64 r.x.n, .int .i64 r.x.i, .string r.nm, .slice ao3 r.l.length cap3] _ rfl HRG Tryd.underlying24 rfl HIR.out) rfl ?_
  exact ⟨_, _, rfl, HF.out.2.1, HF.out.2.2, HF.out.1⟩
set_option maxRecDepth 100000 in
set_option maxHeartbeats 2000000 in
theorem second_4 (r : Rec) (d : Value) (w : World) (h : Bs w d r.l) (hlen : r.l.length ≤ 140737488355000) (hk : r.x.k = 4) :
    Calls Tryd.prog 74 #[rv r.x r.nm d] w fun e w' => NewR w w' (cOne r) e := by
  have HE : Hid (cOne r = ⟨{ r.x with v := 2, l := 1 }, r.nm, r.l⟩) := by show _ = _; unfold cOne; rw [if_neg (by omega), if_neg (by omega), if_pos hk]
  rw [HE.out]
  have d1 : (r.x.k == 1) = false := by simp [hk]
  have d2 : (r.x.k == 2) = false := by simp [hk]
  have d4 : (r.x.k == 4) = true := by simp [hk]
  have d5 : (r.x.k == 5) = false := by simp [hk]
  have HIR : Hid ((Tryd.prog.info? 24).map (·.size) = some 12) := infoRec
  have HX : Hid (∀ o1 o2, ((w.alloc o1).alloc o2).heap[w.heap.size]? = some o1 ∧ ((w.alloc o1).alloc o2).heap[w.heap.size + 1]? = some o2 ∧ Below w.heap.size w ((w.alloc o1).alloc o2) ∧ w.heap.size + 2 ≤ ((w.alloc o1).alloc o2).heap.size) := fun o1 o2 => ⟨(heap2 w o1 o2).1, (heap2 w o1 o2).2.1, (heap2 w o1 o2).2.2, by rw [heap_one, heap_one]; omega⟩
  have HCL : Hid (∀ w', Below w.heap.size w w' → Calls Tryd.prog 6 #[rv r.x r.nm d] w' fun e w'' => ∃ ao', ∃ cap' : Nat, e = .returned (rv r.x r.nm (.slice ao' r.l.length cap')) ∧ Own w'.heap.size w'' (.slice ao' r.l.length cap') r.l ∧ Below w'.heap.size w' w'') := fun w' hb' => (refclone_any r.x r.nm d r.l w' (h.kept hb') hlen).mono fun e w'' ⟨d', he, ho, hb''⟩ => by
    obtain ⟨ao', cap', rfl, _⟩ := ho.bs.shape
    exact ⟨ao', cap', he, ho, hb''⟩
  have HB : Hid (∀ w', Below w.heap.size w w' → Bs w' d r.l) := fun w' hb' => h.kept hb'
  obtain ⟨ao, cap, rfl, _⟩ := h.shape
  clear h HE hk
  unfold rv at *
  go_enter Tryd.func74, Tryd.ntmps74
  go_wp2_with fail
  refine (HCL.out _ (HX.out _ _).2.2.1).mono ?_
  rintro e w3 ⟨ao3, cap3, rfl, ho3, b3⟩
  have hbx : Box w3 w.heap.size r.x r.nm (.slice ao r.l.length cap) := Box.kept (HX.out _ _).1 b3
  have hz : Box w3 (w.heap.size + 1) zeroNums ⟨#[]⟩ (.slice none 0 0) := Box.kept (HX.out _ _).2.1 b3
  have B3 := andThen (HX.out _ _).2.2.1 b3
  have HO3 : Hid (Own (w.heap.size + 2) w3 (.slice ao3 r.l.length cap3) r.l) := ho3.mono (HX.out _ _).2.2.2
  clear ho3 b3 HX HCL
  have hl0 : w.heap.size < w3.heap.size := hbx.lt
  have hl1 : w.heap.size + 1 < w3.heap.size := hz.lt
  have HA : Hid (∀ o, Box (w3.alloc o) w.heap.size r.x r.nm (.slice ao r.l.length cap) ∧ Box (w3.alloc o) (w.heap.size + 1) zeroNums ⟨#[]⟩ (.slice none 0 0) ∧ Bs (w3.alloc o) (.slice ao r.l.length cap) r.l ∧ Below w.heap.size w (w3.alloc o) ∧ Own (w.heap.size + 2) (w3.alloc o) (.slice ao3 r.l.length cap3) r.l) := fun o => ⟨hbx.kept (up0 _ _), hz.kept (up0 _ _), HB.out _ (up B3 _), up B3 _, HO3.out.alloc _⟩
  obtain ⟨c0, c1, c2, c3, c4, c5, c6, c7, c8, c9, c10, c11⟩ := hbx.cells
  clear B3
  go_upto_region 14 with fail
  have HK : Hid (Box (w3.alloc (.cells #[.int .i64 2, .int .i64 r.x.k, .int .i64 r.x.s, .int .i64 r.x.p, .int .i64 r.x.t, .int .i64 r.x.a, .int .i64 1, .int .i64 r.x.c, .int .i64 r.x.n, .int .i64 r.x.i, .string r.nm, .slice ao3 r.l.length cap3] 24)) w3.heap.size ⟨2, r.x.k, r.x.s, r.x.p, r.x.t, r.x.a, 1, r.x.c, r.x.n, r.x.i⟩ r.nm (.slice ao3 r.l.length cap3) ∧ Box (w3.alloc (.cells #[.int .i64 2, .int .i64 r.x.k, .int .i64 r.x.s, .int .i64 r.x.p, .int .i64 r.x.t, .int .i64 r.x.a, .int .i64 1, .int .i64 r.x.c, .int .i64 r.x.n, .int .i64 r.x.i, .string r.nm, .slice ao3 r.l.length cap3] 24)) (w.heap.size + 1) zeroNums ⟨#[]⟩ (.slice none 0 0) ∧ Below w.heap.size w ((w3.alloc (.cells #[.int .i64 2, .int .i64 r.x.k, .int .i64 r.x.s, .int .i64 r.x.p, .int .i64 r.x.t, .int .i64 r.x.a, .int .i64 1, .int .i64 r.x.c, .int .i64 r.x.n, .int .i64 r.x.i, .string r.nm, .slice ao3 r.l.length cap3] 24)).setCells (w.heap.size + 1) 0 [.int .i64 2, .int .i64 r.x.k, .int .i64 r.x.s, .int .i64 r.x.p, .int .i64 r.x.t, .int .i64 r.x.a, .int .i64 1, .int .i64 r.x.c, .int .i64 r.x.n, .int .i64 r.x.i, .string r.nm, .slice ao3 r.l.length cap3]) ∧ Bs ((w3.alloc (.cells #[.int .i64 2, .int .i64 r.x.k, .int .i64 r.x.s, .int .i64 r.x.p, .int .i64 r.x.t, .int .i64 r.x.a, .int .i64 1, .int .i64 r.x.c, .int .i64 r.x.n, .int .i64 r.x.i, .string r.nm, .slice ao3 r.l.length cap3] 24)).setCells (w.heap.size + 1) 0 [.int .i64 2, .int .i64 r.x.k, .int .i64 r.x.s, .int .i64 r.x.p, .int .i64 r.x.t, .int .i64 r.x.a, .int .i64 1, .int .i64 r.x.c, .int .i64 r.x.n, .int .i64 r.x.i, .string r.nm, .slice ao3 r.l.length cap3]) (.slice ao3 r.l.length cap3) r.l ∧ ∀ g, g < w.heap.size → Off g (.slice ao3 r.l.length cap3) r.l) := ⟨heap_new _ _, (HA.out _).2.1, below_cells (by omega) _ 0 _ (HA.out _).2.2.2.1, (Own.cells (HA.out _).2.2.2.2 _ _ _ (by omega)).bs, fun g hg => off_own HO3.out g (by omega)⟩
  have HK' := HK.out
  clear HK HA HO3 hbx hz c0 c1 c2 c3 c4 c5 c6 c7 c8 c9 c10 c11 hl0 hl1
  generalize w3.alloc (.cells #[.int .i64 2, .int .i64 r.x.k, .int .i64 r.x.s, .int .i64 r.x.p, .int .i64 r.x.t, .int .i64 r.x.a, .int .i64 1, .int .i64 r.x.c, .int .i64 r.x.n, .int .i64 r.x.i, .string r.nm, .slice ao3 r.l.length cap3] 24) = W at HK' ⊢
  generalize w3.heap.size = g3 at HK' ⊢
  obtain ⟨hq, hz, hB, hbs, hof⟩ := HK'
  obtain ⟨c0, c1, c2, c3, c4, c5, c6, c7, c8, c9, c10, c11⟩ := hq.cells
  obtain ⟨z0, z1, z2, z3, z4, z5, z6, z7, z8, z9, z10, z11⟩ := hz.cells
  have f0 := hz.free' 0
  have f1 := hz.free' 1
  have f2 := hz.free' 2
  have f3 := hz.free' 3
  have f4 := hz.free' 4
  have f5 := hz.free' 5
  have f6 := hz.free' 6
  have f7 := hz.free' 7
  have f8 := hz.free' 8
  have f9 := hz.free' 9
  have f10 := hz.free' 10
  have f11 := hz.free' 11
  have HTH : Hid (W.there (w.heap.size + 1) 0 12) := hz.there
  have HF : Hid (Below w.heap.size w (W.setCells (w.heap.size + 1) 0 [.int .i64 2, .int .i64 r.x.k, .int .i64 r.x.s, .int .i64 r.x.p, .int .i64 r.x.t, .int .i64 r.x.a, .int .i64 1, .int .i64 r.x.c, .int .i64 r.x.n, .int .i64 r.x.i, .string r.nm, .slice ao3 r.l.length cap3]) ∧ Bs (W.setCells (w.heap.size + 1) 0 [.int .i64 2, .int .i64 r.x.k, .int .i64 r.x.s, .int .i64 r.x.p, .int .i64 r.x.t, .int .i64 r.x.a, .int .i64 1, .int .i64 r.x.c, .int .i64 r.x.n, .int .i64 r.x.i, .string r.nm, .slice ao3 r.l.length cap3]) (.slice ao3 r.l.length cap3) r.l ∧ ∀ g, g < w.heap.size → Off g (.slice ao3 r.l.length cap3) r.l) := ⟨hB, hbs, hof⟩
  clear hq hz hB hbs hof
  go_wp2
  have HRG := World.rangeAt_setCells_same W (w.heap.size + 1) 0 [.int .i64 2, .int .i64 r.x.k, .int .i64 r.x.s, .int .i64 r.x.p, .int .i64 r.x.t, .int .i64 r.x.a, .int .i64 1, .int .i64 r.x.c, .int .i64 r.x.n, .int .i64 r.x.i, .string r.nm, .slice ao3 r.l.length cap3] HTH.out
  refine bodyPost_ret (results_cell_mid (p := 2) (ty := 24) rfl _ _ (w.heap.size + 1) [.int .i64 2, .int .i64 r.x.k, .int .i64 r.x.s, .int .i64 r.x.p, .int .i64 r.x.t, .int .i64 r.x.a, .int .i64 1, .int .i64 r.x.c, .int .i64 r.x.n, .int .i64 r.x.i, .string r.nm, .slice ao3 r.l.length cap3] _ rfl HRG Tryd.underlying24 rfl HIR.out) rfl ?_
  exact ⟨_, _, rfl, HF.out.2.1, HF.out.2.2, HF.out.1⟩
set_option maxRecDepth 100000 in
set_option maxHeartbeats 2000000 in
theorem second_0 (r : Rec) (d : Value) (w : World) (h : Bs w d r.l) (hlen : r.l.length ≤ 140737488355000) (h1 : r.x.k ≠ 1) (h2 : r.x.k ≠ 2) (h4 : r.x.k ≠ 4) (h5 : r.x.k ≠ 5) :
    Calls Tryd.prog 74 #[rv r.x r.nm d] w fun e w' => NewR w w' (cOne r) e := by
  have HE : Hid (cOne r = ⟨{ r.x with v := 2 }, r.nm, r.l⟩) := by show _ = _; unfold cOne; rw [if_neg h1, if_neg (by omega), if_neg h4]
  rw [HE.out]
  have d1 : (r.x.k == 1) = false := by simp [h1]
  have d2 : (r.x.k == 2) = false := by simp [h2]
  have d4 : (r.x.k == 4) = false := by simp [h4]
  have d5 : (r.x.k == 5) = false := by simp [h5]
  have HIR : Hid ((Tryd.prog.info? 24).map (·.size) = some 12) := infoRec
  have HX : Hid (∀ o1 o2, ((w.alloc o1).alloc o2).heap[w.heap.size]? = some o1 ∧ ((w.alloc o1).alloc o2).heap[w.heap.size + 1]? = some o2 ∧ Below w.heap.size w ((w.alloc o1).alloc o2) ∧ w.heap.size + 2 ≤ ((w.alloc o1).alloc o2).heap.size) := fun o1 o2 => ⟨(heap2 w o1 o2).1, (heap2 w o1 o2).2.1, (heap2 w o1 o2).2.2, by rw [heap_one, heap_one]; omega⟩
  have HCL : Hid (∀ w', Below w.heap.size w w' → Calls Tryd.prog 6 #[rv r.x r.nm d] w' fun e w'' => ∃ ao', ∃ cap' : Nat, e = .returned (rv r.x r.nm (.slice ao' r.l.length cap')) ∧ Own w'.heap.size w'' (.slice ao' r.l.length cap') r.l ∧ Below w'.heap.size w' w'') := fun w' hb' => (refclone_any r.x r.nm d r.l w' (h.kept hb') hlen).mono fun e w'' ⟨d', he, ho, hb''⟩ => by
    obtain ⟨ao', cap', rfl, _⟩ := ho.bs.shape
    exact ⟨ao', cap', he, ho, hb''⟩
  have HB : Hid (∀ w', Below w.heap.size w w' → Bs w' d r.l) := fun w' hb' => h.kept hb'
  obtain ⟨ao, cap, rfl, _⟩ := h.shape
  clear h HE h1 h2 h4 h5
  unfold rv at *
  go_enter Tryd.func74, Tryd.ntmps74
  go_wp2_with fail
  refine (HCL.out _ (HX.out _ _).2.2.1).mono ?_
  rintro e w3 ⟨ao3, cap3, rfl, ho3, b3⟩
  have hbx : Box w3 w.heap.size r.x r.nm (.slice ao r.l.length cap) := Box.kept (HX.out _ _).1 b3
  have hz : Box w3 (w.heap.size + 1) zeroNums ⟨#[]⟩ (.slice none 0 0) := Box.kept (HX.out _ _).2.1 b3
  have B3 := andThen (HX.out _ _).2.2.1 b3
  have HO3 : Hid (Own (w.heap.size + 2) w3 (.slice ao3 r.l.length cap3) r.l) := ho3.mono (HX.out _ _).2.2.2
  clear ho3 b3 HX HCL
  have hl0 : w.heap.size < w3.heap.size := hbx.lt
  have hl1 : w.heap.size + 1 < w3.heap.size := hz.lt
  have HA : Hid (∀ o, Box (w3.alloc o) w.heap.size r.x r.nm (.slice ao r.l.length cap) ∧ Box (w3.alloc o) (w.heap.size + 1) zeroNums ⟨#[]⟩ (.slice none 0 0) ∧ Bs (w3.alloc o) (.slice ao r.l.length cap) r.l ∧ Below w.heap.size w (w3.alloc o) ∧ Own (w.heap.size + 2) (w3.alloc o) (.slice ao3 r.l.length cap3) r.l) := fun o => ⟨hbx.kept (up0 _ _), hz.kept (up0 _ _), HB.out _ (up B3 _), up B3 _, HO3.out.alloc _⟩
  obtain ⟨c0, c1, c2, c3, c4, c5, c6, c7, c8, c9, c10, c11⟩ := hbx.cells
  clear B3
  go_upto_region 14 with fail
  have HK : Hid (Box (w3.alloc (.cells #[.int .i64 2, .int .i64 r.x.k, .int .i64 r.x.s, .int .i64 r.x.p, .int .i64 r.x.t, .int .i64 r.x.a, .int .i64 r.x.l, .int .i64 r.x.c, .int .i64 r.x.n, .int .i64 r.x.i, .string r.nm, .slice ao3 r.l.length cap3] 24)) w3.heap.size ⟨2, r.x.k, r.x.s, r.x.p, r.x.t, r.x.a, r.x.l, r.x.c, r.x.n, r.x.i⟩ r.nm (.slice ao3 r.l.length cap3) ∧ Box (w3.alloc (.cells #[.int .i64 2, .int .i64 r.x.k, .int .i64 r.x.s, .int .i64 r.x.p, .int .i64 r.x.t, .int .i64 r.x.a, .int .i64 r.x.l, .int .i64 r.x.c, .int .i64 r.x.n, .int .i64 r.x.i, .string r.nm, .slice ao3 r.l.length cap3] 24)) (w.heap.size + 1) zeroNums ⟨#[]⟩ (.slice none 0 0) ∧ Below w.heap.size w ((w3.alloc (.cells #[.int .i64 2, .int .i64 r.x.k, .int .i64 r.x.s, .int .i64 r.x.p, .int .i64 r.x.t, .int .i64 r.x.a, .int .i64 r.x.l, .int .i64 r.x.c, .int .i64 r.x.n, .int .i64 r.x.i, .string r.nm, .slice ao3 r.l.length cap3] 24)).setCells (w.heap.size + 1) 0 [.int .i64 2, .int .i64 r.x.k, .int .i64 r.x.s, .int .i64 r.x.p, .int .i64 r.x.t, .int .i64 r.x.a, .int .i64 r.x.l, .int .i64 r.x.c, .int .i64 r.x.n, .int .i64 r.x.i, .string r.nm, .slice ao3 r.l.length cap3]) ∧ Bs ((w3.alloc (.cells #[.int .i64 2, .int .i64 r.x.k, .int .i64 r.x.s, .int .i64 r.x.p, .int .i64 r.x.t, .int .i64 r.x.a, .int .i64 r.x.l, .int .i64 r.x.c, .int .i64 r.x.n, .int .i64 r.x.i, .string r.nm, .slice ao3 r.l.length cap3] 24)).setCells (w.heap.size + 1) 0 [.int .i64 2, .int .i64 r.x.k, .int .i64 r.x.s, .int .i64 r.x.p, .int .i64 r.x.t, .int .i64 r.x.a, .int .i64 r.x.l, .int .i64 r.x.c, .int .i64 r.x.n, .int .i64 r.x.i, .string r.nm, .slice ao3 r.l.length cap3]) (.slice ao3 r.l.length cap3) r.l ∧ ∀ g, g < w.heap.size → Off g (.slice ao3 r.l.length cap3) r.l) := ⟨heap_new _ _, (HA.out _).2.1, below_cells (by omega) _ 0 _ (HA.out _).2.2.2.1, (Own.cells (HA.out _).2.2.2.2 _ _ _ (by omega)).bs, fun g hg => off_own HO3.out g (by omega)⟩
  have HK' := HK.out
  clear HK HA HO3 hbx hz c0 c1 c2 c3 c4 c5 c6 c7 c8 c9 c10 c11 hl0 hl1
  generalize w3.alloc (.cells #[.int .i64 2, .int .i64 r.x.k, .int .i64 r.x.s, .int .i64 r.x.p, .int .i64 r.x.t, .int .i64 r.x.a, .int .i64 r.x.l, .int .i64 r.x.c, .int .i64 r.x.n, .int .i64 r.x.i, .string r.nm, .slice ao3 r.l.length cap3] 24) = W at HK' ⊢
  generalize w3.heap.size = g3 at HK' ⊢
  obtain ⟨hq, hz, hB, hbs, hof⟩ := HK'
  obtain ⟨c0, c1, c2, c3, c4, c5, c6, c7, c8, c9, c10, c11⟩ := hq.cells
  obtain ⟨z0, z1, z2, z3, z4, z5, z6, z7, z8, z9, z10, z11⟩ := hz.cells
  have f0 := hz.free' 0
  have f1 := hz.free' 1
  have f2 := hz.free' 2
  have f3 := hz.free' 3
  have f4 := hz.free' 4
  have f5 := hz.free' 5
  have f6 := hz.free' 6
  have f7 := hz.free' 7
  have f8 := hz.free' 8
  have f9 := hz.free' 9
  have f10 := hz.free' 10
  have f11 := hz.free' 11
  have HTH : Hid (W.there (w.heap.size + 1) 0 12) := hz.there
  have HF : Hid (Below w.heap.size w (W.setCells (w.heap.size + 1) 0 [.int .i64 2, .int .i64 r.x.k, .int .i64 r.x.s, .int .i64 r.x.p, .int .i64 r.x.t, .int .i64 r.x.a, .int .i64 r.x.l, .int .i64 r.x.c, .int .i64 r.x.n, .int .i64 r.x.i, .string r.nm, .slice ao3 r.l.length cap3]) ∧ Bs (W.setCells (w.heap.size + 1) 0 [.int .i64 2, .int .i64 r.x.k, .int .i64 r.x.s, .int .i64 r.x.p, .int .i64 r.x.t, .int .i64 r.x.a, .int .i64 r.x.l, .int .i64 r.x.c, .int .i64 r.x.n, .int .i64 r.x.i, .string r.nm, .slice ao3 r.l.length cap3]) (.slice ao3 r.l.length cap3) r.l ∧ ∀ g, g < w.heap.size → Off g (.slice ao3 r.l.length cap3) r.l) := ⟨hB, hbs, hof⟩
  clear hq hz hB hbs hof
  go_wp2
  have HRG := World.rangeAt_setCells_same W (w.heap.size + 1) 0 [.int .i64 2, .int .i64 r.x.k, .int .i64 r.x.s, .int .i64 r.x.p, .int .i64 r.x.t, .int .i64 r.x.a, .int .i64 r.x.l, .int .i64 r.x.c, .int .i64 r.x.n, .int .i64 r.x.i, .string r.nm, .slice ao3 r.l.length cap3] HTH.out
  refine bodyPost_ret (results_cell_mid (p := 2) (ty := 24) rfl _ _ (w.heap.size + 1) [.int .i64 2, .int .i64 r.x.k, .int .i64 r.x.s, .int .i64 r.x.p, .int .i64 r.x.t, .int .i64 r.x.a, .int .i64 r.x.l, .int .i64 r.x.c, .int .i64 r.x.n, .int .i64 r.x.i, .string r.nm, .slice ao3 r.l.length cap3] _ rfl HRG Tryd.underlying24 rfl HIR.out) rfl ?_
  exact ⟨_, _, rfl, HF.out.2.1, HF.out.2.2, HF.out.1⟩
theorem second_any (r : Rec) (d : Value) (w : World) (h : Bs w d r.l) (hlen : r.l.length ≤ 140737488355000) :
    Calls Tryd.prog 74 #[rv r.x r.nm d] w fun e w' => NewR w w' (cOne r) e := by
  by_cases h1 : r.x.k = 1
  · exact second_1 r d w h hlen h1
  by_cases h2 : r.x.k = 2
  · exact second_2 r d w h hlen h2
  by_cases h5 : r.x.k = 5
  · exact second_5 r d w h hlen h5
  by_cases h4 : r.x.k = 4
  · exact second_4 r d w h hlen h4
  exact second_0 r d w h hlen h1 h2 h4 h5
end Go.Proofs.YtfnfdbmckpklmaaDoor
