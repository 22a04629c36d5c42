import Derived.Deep.Cut
import Derived.Test.YtabdfafffjgfiaaGreatDoorAE1
set_option maxRecDepth 100000
set_option maxHeartbeats 2000000
namespace Go.Proofs.YtabdfafffjgfiaaGreatDoor
open Go Go.RowKit
open Wb

def liftTo (to : Int) (r : Rec) : Rec := if r.x.v = 1 ∧ 1 < to then ⟨{ (cOne r).x with v := to }, (cOne r).nm, (cOne r).l⟩ else ⟨{ r.x with v := to }, r.nm, r.l⟩
def guessP (to : Int) (r : Rec) : Rec := if 1 < r.x.v ∧ to = 1 ∧ r.x.k = 1 then ⟨⟨to, r.x.k, r.x.s, r.x.n, 0, 0, 0, 0, 0, 0⟩, ⟨#[]⟩, nbs r.nm⟩
 else if to ≤ 1 then ⟨⟨to, r.x.k, r.x.s, r.x.p, 0, 0, 0, 0, 0, 0⟩, ⟨#[]⟩, r.l⟩
 else if to ≤ 2 then ⟨⟨to, r.x.k, r.x.s, r.x.p, r.x.t, r.x.a, r.x.l, 0, r.x.n, 0⟩, r.nm, r.l⟩
 else ⟨⟨to, r.x.k, r.x.s, r.x.p, r.x.t, r.x.a, r.x.l, r.x.c, r.x.n, r.x.i⟩, r.nm, r.l⟩
theorem liftTo_car (to : Int) (r : Rec) (hc : chkR r = 0) (h3 : to ≤ 3) (hv : r.x.v ≤ to) : liftTo to r = carP to r := by
 have hvv := ((chk_exp r.x r.nm r.l).1 hc).1
 obtain ⟨⟨v, k, s, p, t, a, l, c, n, i⟩, nm, d⟩ := r
 simp only at hvv hv
 obtain h | h | h : v = 1 ∨ v = 2 ∨ v = 3 := by omega
 ·subst h
  obtain rfl | rfl | rfl : to = 1 ∨ to = 2 ∨ to = 3 := by omega
  ·rw [car11 _ rfl]; rfl
  ·rw [car12 _ rfl]
   have := one_v ⟨⟨1, k, s, p, t, a, l, c, n, i⟩, nm, d⟩
   unfold liftTo
   rw [if_pos ⟨rfl, by decide⟩]
   generalize cOne ⟨⟨1, k, s, p, t, a, l, c, n, i⟩, nm, d⟩ = q at *
   obtain ⟨⟨v, k, s, p, t, a, l, c, n, i⟩, nm, d⟩ := q
   simp only at this
   subst this
   rfl
  ·rw [car13 _ rfl]
   unfold liftTo cTwo
   rw [if_pos ⟨rfl, by decide⟩]
 ·subst h
  obtain rfl | rfl : to = 2 ∨ to = 3 := by omega
  ·rw [car22 _ rfl]; rfl
  ·rw [car23 _ rfl]; rfl
 ·subst h
  obtain rfl : to = 3 := by omega
  rw [car33 _ rfl]; rfl
theorem bs_set {w : World} {d : Value} {l : List Nat} (h : Bs w d l) (p : Addr) (u : Value) (ho : Off p.block d l) : Bs (w.setCell p u) d l := by
 obtain ⟨⟨ao, cap, h1, h2, h3, h4, h5⟩, hok⟩ := h
 refine ⟨⟨ao, cap, h1, h2, h3, h4, fun hne => ?_⟩, hok⟩
 obtain ⟨b, off, hb, hc⟩ := h5 hne
 refine ⟨b, off, hb, fun j hj => ?_⟩
 have hbg : b ≠ p.block := ho hne b off l.length cap (by rw [h1, hb])
 have e := set_other w p u b hbg
 have hcj := hc j hj
 unfold World.cell? at hcj ⊢
 simp only at hcj ⊢
 rw [e]
 exact hcj
theorem off_nil (g : Nat) (d : Value) : Off g d [] := fun h => absurd rfl h
def NewR (w w' : World) (r : Rec) (e : Ending) : Prop := ∃ ao, ∃ cap : Nat, e = .returned (rv r.x r.nm (.slice ao r.l.length cap)) ∧ Bs w' (.slice ao r.l.length cap) r.l ∧ (∀ g, g < w.heap.size → Off g (.slice ao r.l.length cap) r.l) ∧ Below w.heap.size w w'
theorem second_1 (r : Rec) (d : Value) (w : World) (h : Bs w d r.l) (hlen : r.l.length ≤ 140737488355000) (hk : r.x.k = 1) :
  Calls Tryz.prog 111 #[rv r.x r.nm d] w fun e w' => NewR w w' (cOne r) e := by
 have HE : Hid (cOne r = ⟨{ r.x with v := 2, n := r.x.p, p := 0 }, bstr r.l, []⟩) := by show _ = _; unfold cOne; rw [if_pos hk]
 rw [HE.out]
 have d1 : (r.x.k == 1) = true := by simp [hk]
 have d2 : (r.x.k == 2) = false := by simp [hk]
 have d4 : (r.x.k == 4) = false := by simp [hk]
 have d5 : (r.x.k == 5) = false := by simp [hk]
 have HIR : Hid ((Tryz.prog.info? 37).map (·.size) = some 12) := infoRec
 have HX : Hid (∀ o1 o2, ((w.alloc o1).alloc o2).heap[w.heap.size]? = some o1 ∧ ((w.alloc o1).alloc o2).heap[w.heap.size + 1]? = some o2 ∧ Below w.heap.size w ((w.alloc o1).alloc o2) ∧ w.heap.size + 2 ≤ ((w.alloc o1).alloc o2).heap.size) := fun o1 o2 => ⟨(heap2 w o1 o2).1, (heap2 w o1 o2).2.1, (heap2 w o1 o2).2.2, by rw [heap_one, heap_one]; omega⟩
 have HCL : Hid (∀ w', Below w.heap.size w w' → Calls Tryz.prog 15 #[rv r.x r.nm d] w' fun e w'' => ∃ ao', ∃ cap' : Nat, e = .returned (rv r.x r.nm (.slice ao' r.l.length cap')) ∧ Own w'.heap.size w'' (.slice ao' r.l.length cap') r.l ∧ Below w'.heap.size w' w'') := fun w' hb' => (refclone_any r.x r.nm d r.l w' (h.kept hb') hlen).mono fun e w'' ⟨d', he, ho, hb''⟩ => by
  obtain ⟨ao', cap', rfl, _⟩ := ho.bs.shape
  exact ⟨ao', cap', he, ho, hb''⟩
 have HB : Hid (∀ w', Below w.heap.size w w' → Bs w' d r.l) := fun w' hb' => h.kept hb'
 obtain ⟨ao, cap, rfl, _⟩ := h.shape
 clear h HE hk
 unfold rv at *
 go_enter Tryz.func111, Tryz.ntmps111
 go_wp2_with fail
 refine (HCL.out _ (HX.out _ _).2.2.1).mono ?_
 rintro e w3 ⟨ao3, cap3, rfl, ho3, b3⟩
 have hbx : Box w3 w.heap.size r.x r.nm (.slice ao r.l.length cap) := Box.kept (HX.out _ _).1 b3
 have hz : Box w3 (w.heap.size + 1) zeroNums ⟨#[]⟩ (.slice none 0 0) := Box.kept (HX.out _ _).2.1 b3
 have B3 := andThen (HX.out _ _).2.2.1 b3
 have HO3 : Hid (Own (w.heap.size + 2) w3 (.slice ao3 r.l.length cap3) r.l) := ho3.mono (HX.out _ _).2.2.2
 clear ho3 b3 HX HCL
 have hl0 : w.heap.size < w3.heap.size := hbx.lt
 have hl1 : w.heap.size + 1 < w3.heap.size := hz.lt
 have HA : Hid (∀ o, Box (w3.alloc o) w.heap.size r.x r.nm (.slice ao r.l.length cap) ∧ Box (w3.alloc o) (w.heap.size + 1) zeroNums ⟨#[]⟩ (.slice none 0 0) ∧ Bs (w3.alloc o) (.slice ao r.l.length cap) r.l ∧ Below w.heap.size w (w3.alloc o) ∧ Own (w.heap.size + 2) (w3.alloc o) (.slice ao3 r.l.length cap3) r.l) := fun o => ⟨hbx.kept (up0 _ _), hz.kept (up0 _ _), HB.out _ (up B3 _), up B3 _, HO3.out.alloc _⟩
 obtain ⟨c0, c1, c2, c3, c4, c5, c6, c7, c8, c9, c10, c11⟩ := hbx.cells
 have hcv : ∀ o, (convert 22 9 (.slice ao r.l.length cap)).run Tryz.prog (w3.alloc o) = .ok (.string (bstr r.l)) (w3.alloc o) := fun o => conv_bs (HA.out o).2.2.1
 clear B3
 go_upto_region 14 with fail
 have HK : Hid (Box (w3.alloc (.cells #[.int .i64 2, .int .i64 r.x.k, .int .i64 r.x.s, .int .i64 0, .int .i64 r.x.t, .int .i64 r.x.a, .int .i64 r.x.l, .int .i64 r.x.c, .int .i64 r.x.p, .int .i64 r.x.i, .string (bstr r.l), .slice none 0 0] 37)) w3.heap.size ⟨2, r.x.k, r.x.s, 0, r.x.t, r.x.a, r.x.l, r.x.c, r.x.p, r.x.i⟩ (bstr r.l) (.slice none 0 0) ∧ Box (w3.alloc (.cells #[.int .i64 2, .int .i64 r.x.k, .int .i64 r.x.s, .int .i64 0, .int .i64 r.x.t, .int .i64 r.x.a, .int .i64 r.x.l, .int .i64 r.x.c, .int .i64 r.x.p, .int .i64 r.x.i, .string (bstr r.l), .slice none 0 0] 37)) (w.heap.size + 1) zeroNums ⟨#[]⟩ (.slice none 0 0) ∧ Below w.heap.size w ((w3.alloc (.cells #[.int .i64 2, .int .i64 r.x.k, .int .i64 r.x.s, .int .i64 0, .int .i64 r.x.t, .int .i64 r.x.a, .int .i64 r.x.l, .int .i64 r.x.c, .int .i64 r.x.p, .int .i64 r.x.i, .string (bstr r.l), .slice none 0 0] 37)).setCells (w.heap.size + 1) 0 [.int .i64 2, .int .i64 r.x.k, .int .i64 r.x.s, .int .i64 0, .int .i64 r.x.t, .int .i64 r.x.a, .int .i64 r.x.l, .int .i64 r.x.c, .int .i64 r.x.p, .int .i64 r.x.i, .string (bstr r.l), .slice none 0 0]) ∧ Bs ((w3.alloc (.cells #[.int .i64 2, .int .i64 r.x.k, .int .i64 r.x.s, .int .i64 0, .int .i64 r.x.t, .int .i64 r.x.a, .int .i64 r.x.l, .int .i64 r.x.c, .int .i64 r.x.p, .int .i64 r.x.i, .string (bstr r.l), .slice none 0 0] 37)).setCells (w.heap.size + 1) 0 [.int .i64 2, .int .i64 r.x.k, .int .i64 r.x.s, .int .i64 0, .int .i64 r.x.t, .int .i64 r.x.a, .int .i64 r.x.l, .int .i64 r.x.c, .int .i64 r.x.p, .int .i64 r.x.i, .string (bstr r.l), .slice none 0 0]) (.slice none 0 0) [] ∧ ∀ g, g < w.heap.size → Off g (.slice none 0 0) []) := ⟨heap_new _ _, (HA.out _).2.1, below_cells (by omega) _ 0 _ (HA.out _).2.2.2.1, Bs.nil _, fun g _ => off_nil g _⟩
 have HK' := HK.out
 clear HK HA HO3 hbx hz c0 c1 c2 c3 c4 c5 c6 c7 c8 c9 c10 c11 hl0 hl1 hcv
 generalize w3.alloc (.cells #[.int .i64 2, .int .i64 r.x.k, .int .i64 r.x.s, .int .i64 0, .int .i64 r.x.t, .int .i64 r.x.a, .int .i64 r.x.l, .int .i64 r.x.c, .int .i64 r.x.p, .int .i64 r.x.i, .string (bstr r.l), .slice none 0 0] 37) = W at HK' ⊢
 generalize w3.heap.size = g3 at HK' ⊢
 obtain ⟨hq, hz, hB, hbs, hof⟩ := HK'
 obtain ⟨c0, c1, c2, c3, c4, c5, c6, c7, c8, c9, c10, c11⟩ := hq.cells
 obtain ⟨z0, z1, z2, z3, z4, z5, z6, z7, z8, z9, z10, z11⟩ := hz.cells
 have f0 := hz.free' 0
 have f1 := hz.free' 1
 have f2 := hz.free' 2
 have f3 := hz.free' 3
 have f4 := hz.free' 4
 have f5 := hz.free' 5
 have f6 := hz.free' 6
 have f7 := hz.free' 7
 have f8 := hz.free' 8
 have f9 := hz.free' 9
 have f10 := hz.free' 10
 have f11 := hz.free' 11
 have HTH : Hid (W.there (w.heap.size + 1) 0 12) := hz.there
 have HF : Hid (Below w.heap.size w (W.setCells (w.heap.size + 1) 0 [.int .i64 2, .int .i64 r.x.k, .int .i64 r.x.s, .int .i64 0, .int .i64 r.x.t, .int .i64 r.x.a, .int .i64 r.x.l, .int .i64 r.x.c, .int .i64 r.x.p, .int .i64 r.x.i, .string (bstr r.l), .slice none 0 0]) ∧ Bs (W.setCells (w.heap.size + 1) 0 [.int .i64 2, .int .i64 r.x.k, .int .i64 r.x.s, .int .i64 0, .int .i64 r.x.t, .int .i64 r.x.a, .int .i64 r.x.l, .int .i64 r.x.c, .int .i64 r.x.p, .int .i64 r.x.i, .string (bstr r.l), .slice none 0 0]) (.slice none 0 0) [] ∧ ∀ g, g < w.heap.size → Off g (.slice none 0 0) []) := ⟨hB, hbs, hof⟩
 clear hq hz hB hbs hof
 go_wp2
 have HRG := World.rangeAt_setCells_same W (w.heap.size + 1) 0 [.int .i64 2, .int .i64 r.x.k, .int .i64 r.x.s, .int .i64 0, .int .i64 r.x.t, .int .i64 r.x.a, .int .i64 r.x.l, .int .i64 r.x.c, .int .i64 r.x.p, .int .i64 r.x.i, .string (bstr r.l), .slice none 0 0] HTH.out
 refine bodyPost_ret (results_cell_mid (p := 2) (ty := 37) rfl _ _ (w.heap.size + 1) [.int .i64 2, .int .i64 r.x.k, .int .i64 r.x.s, .int .i64 0, .int .i64 r.x.t, .int .i64 r.x.a, .int .i64 r.x.l, .int .i64 r.x.c, .int .i64 r.x.p, .int .i64 r.x.i, .string (bstr r.l), .slice none 0 0] _ rfl HRG Tryz.underlying37 rfl HIR.out) rfl ?_
 exact ⟨_, _, rfl, HF.out.2.1, HF.out.2.2, HF.out.1⟩
theorem second_2 (r : Rec) (d : Value) (w : World) (h : Bs w d r.l) (hlen : r.l.length ≤ 140737488355000) (hk : r.x.k = 2) :
  Calls Tryz.prog 111 #[rv r.x r.nm d] w fun e w' => NewR w w' (cOne r) e := by
 have HE : Hid (cOne r = ⟨{ r.x with v := 2, t := 1 }, r.nm, r.l⟩) := by show _ = _; unfold cOne; rw [if_neg (by omega), if_pos (.inl hk)]
 rw [HE.out]
 have d1 : (r.x.k == 1) = false := by simp [hk]
 have d2 : (r.x.k == 2) = true := by simp [hk]
 have d4 : (r.x.k == 4) = false := by simp [hk]
 have d5 : (r.x.k == 5) = false := by simp [hk]
 have HIR : Hid ((Tryz.prog.info? 37).map (·.size) = some 12) := infoRec
 have HX : Hid (∀ o1 o2, ((w.alloc o1).alloc o2).heap[w.heap.size]? = some o1 ∧ ((w.alloc o1).alloc o2).heap[w.heap.size + 1]? = some o2 ∧ Below w.heap.size w ((w.alloc o1).alloc o2) ∧ w.heap.size + 2 ≤ ((w.alloc o1).alloc o2).heap.size) := fun o1 o2 => ⟨(heap2 w o1 o2).1, (heap2 w o1 o2).2.1, (heap2 w o1 o2).2.2, by rw [heap_one, heap_one]; omega⟩
 have HCL : Hid (∀ w', Below w.heap.size w w' → Calls Tryz.prog 15 #[rv r.x r.nm d] w' fun e w'' => ∃ ao', ∃ cap' : Nat, e = .returned (rv r.x r.nm (.slice ao' r.l.length cap')) ∧ Own w'.heap.size w'' (.slice ao' r.l.length cap') r.l ∧ Below w'.heap.size w' w'') := fun w' hb' => (refclone_any r.x r.nm d r.l w' (h.kept hb') hlen).mono fun e w'' ⟨d', he, ho, hb''⟩ => by
  obtain ⟨ao', cap', rfl, _⟩ := ho.bs.shape
  exact ⟨ao', cap', he, ho, hb''⟩
 have HB : Hid (∀ w', Below w.heap.size w w' → Bs w' d r.l) := fun w' hb' => h.kept hb'
 obtain ⟨ao, cap, rfl, _⟩ := h.shape
 clear h HE hk
 unfold rv at *
 go_enter Tryz.func111, Tryz.ntmps111
 go_wp2_with fail
 refine (HCL.out _ (HX.out _ _).2.2.1).mono ?_
 rintro e w3 ⟨ao3, cap3, rfl, ho3, b3⟩
 have hbx : Box w3 w.heap.size r.x r.nm (.slice ao r.l.length cap) := Box.kept (HX.out _ _).1 b3
 have hz : Box w3 (w.heap.size + 1) zeroNums ⟨#[]⟩ (.slice none 0 0) := Box.kept (HX.out _ _).2.1 b3
 have B3 := andThen (HX.out _ _).2.2.1 b3
 have HO3 : Hid (Own (w.heap.size + 2) w3 (.slice ao3 r.l.length cap3) r.l) := ho3.mono (HX.out _ _).2.2.2
 clear ho3 b3 HX HCL
 have hl0 : w.heap.size < w3.heap.size := hbx.lt
 have hl1 : w.heap.size + 1 < w3.heap.size := hz.lt
 have HA : Hid (∀ o, Box (w3.alloc o) w.heap.size r.x r.nm (.slice ao r.l.length cap) ∧ Box (w3.alloc o) (w.heap.size + 1) zeroNums ⟨#[]⟩ (.slice none 0 0) ∧ Bs (w3.alloc o) (.slice ao r.l.length cap) r.l ∧ Below w.heap.size w (w3.alloc o) ∧ Own (w.heap.size + 2) (w3.alloc o) (.slice ao3 r.l.length cap3) r.l) := fun o => ⟨hbx.kept (up0 _ _), hz.kept (up0 _ _), HB.out _ (up B3 _), up B3 _, HO3.out.alloc _⟩
 obtain ⟨c0, c1, c2, c3, c4, c5, c6, c7, c8, c9, c10, c11⟩ := hbx.cells
 clear B3
 go_upto_region 14 with fail
 have HK : Hid (Box (w3.alloc (.cells #[.int .i64 2, .int .i64 r.x.k, .int .i64 r.x.s, .int .i64 r.x.p, .int .i64 1, .int .i64 r.x.a, .int .i64 r.x.l, .int .i64 r.x.c, .int .i64 r.x.n, .int .i64 r.x.i, .string r.nm, .slice ao3 r.l.length cap3] 37)) w3.heap.size ⟨2, r.x.k, r.x.s, r.x.p, 1, r.x.a, r.x.l, r.x.c, r.x.n, r.x.i⟩ r.nm (.slice ao3 r.l.length cap3) ∧ Box (w3.alloc (.cells #[.int .i64 2, .int .i64 r.x.k, .int .i64 r.x.s, .int .i64 r.x.p, .int .i64 1, .int .i64 r.x.a, .int .i64 r.x.l, .int .i64 r.x.c, .int .i64 r.x.n, .int .i64 r.x.i, .string r.nm, .slice ao3 r.l.length cap3] 37)) (w.heap.size + 1) zeroNums ⟨#[]⟩ (.slice none 0 0) ∧ Below w.heap.size w ((w3.alloc (.cells #[.int .i64 2, .int .i64 r.x.k, .int .i64 r.x.s, .int .i64 r.x.p, .int .i64 1, .int .i64 r.x.a, .int .i64 r.x.l, .int .i64 r.x.c, .int .i64 r.x.n, .int .i64 r.x.i, .string r.nm, .slice ao3 r.l.length cap3] 37)).setCells (w.heap.size + 1) 0 [.int .i64 2, .int .i64 r.x.k, .int .i64 r.x.s, .int .i64 r.x.p, .int .i64 1, .int .i64 r.x.a, .int .i64 r.x.l, .int .i64 r.x.c, .int .i64 r.x.n, .int .i64 r.x.i, .string r.nm, .slice ao3 r.l.length cap3]) ∧ Bs ((w3.alloc (.cells #[.int .i64 2, .int .i64 r.x.k, .int .i64 r.x.s, .int .i64 r.x.p, .int .i64 1, .int .i64 r.x.a, .int .i64 r.x.l, .int .i64 r.x.c, .int .i64 r.x.n, .int .i64 r.x.i, .string r.nm, .slice ao3 r.l.length cap3] 37)).setCells (w.heap.size + 1) 0 [.int .i64 2, .int .i64 r.x.k, .int .i64 r.x.s, .int .i64 r.x.p, .int .i64 1, .int .i64 r.x.a, .int .i64 r.x.l, .int .i64 r.x.c, .int .i64 r.x.n, .int .i64 r.x.i, .string r.nm, .slice ao3 r.l.length cap3]) (.slice ao3 r.l.length cap3) r.l ∧ ∀ g, g < w.heap.size → Off g (.slice ao3 r.l.length cap3) r.l) := ⟨heap_new _ _, (HA.out _).2.1, below_cells (by omega) _ 0 _ (HA.out _).2.2.2.1, (Own.cells (HA.out _).2.2.2.2 _ _ _ (by omega)).bs, fun g hg => off_own HO3.out g (by omega)⟩
 have HK' := HK.out
 clear HK HA HO3 hbx hz c0 c1 c2 c3 c4 c5 c6 c7 c8 c9 c10 c11 hl0 hl1
 generalize w3.alloc (.cells #[.int .i64 2, .int .i64 r.x.k, .int .i64 r.x.s, .int .i64 r.x.p, .int .i64 1, .int .i64 r.x.a, .int .i64 r.x.l, .int .i64 r.x.c, .int .i64 r.x.n, .int .i64 r.x.i, .string r.nm, .slice ao3 r.l.length cap3] 37) = W at HK' ⊢
 generalize w3.heap.size = g3 at HK' ⊢
 obtain ⟨hq, hz, hB, hbs, hof⟩ := HK'
 obtain ⟨c0, c1, c2, c3, c4, c5, c6, c7, c8, c9, c10, c11⟩ := hq.cells
 obtain ⟨z0, z1, z2, z3, z4, z5, z6, z7, z8, z9, z10, z11⟩ := hz.cells
 have f0 := hz.free' 0
 have f1 := hz.free' 1
 have f2 := hz.free' 2
 have f3 := hz.free' 3
 have f4 := hz.free' 4
 have f5 := hz.free' 5
 have f6 := hz.free' 6
 have f7 := hz.free' 7
 have f8 := hz.free' 8
 have f9 := hz.free' 9
 have f10 := hz.free' 10
 have f11 := hz.free' 11
 have HTH : Hid (W.there (w.heap.size + 1) 0 12) := hz.there
 have HF : Hid (Below w.heap.size w (W.setCells (w.heap.size + 1) 0 [.int .i64 2, .int .i64 r.x.k, .int .i64 r.x.s, .int .i64 r.x.p, .int .i64 1, .int .i64 r.x.a, .int .i64 r.x.l, .int .i64 r.x.c, .int .i64 r.x.n, .int .i64 r.x.i, .string r.nm, .slice ao3 r.l.length cap3]) ∧ Bs (W.setCells (w.heap.size + 1) 0 [.int .i64 2, .int .i64 r.x.k, .int .i64 r.x.s, .int .i64 r.x.p, .int .i64 1, .int .i64 r.x.a, .int .i64 r.x.l, .int .i64 r.x.c, .int .i64 r.x.n, .int .i64 r.x.i, .string r.nm, .slice ao3 r.l.length cap3]) (.slice ao3 r.l.length cap3) r.l ∧ ∀ g, g < w.heap.size → Off g (.slice ao3 r.l.length cap3) r.l) := ⟨hB, hbs, hof⟩
 clear hq hz hB hbs hof
 go_wp2
 have HRG := World.rangeAt_setCells_same W (w.heap.size + 1) 0 [.int .i64 2, .int .i64 r.x.k, .int .i64 r.x.s, .int .i64 r.x.p, .int .i64 1, .int .i64 r.x.a, .int .i64 r.x.l, .int .i64 r.x.c, .int .i64 r.x.n, .int .i64 r.x.i, .string r.nm, .slice ao3 r.l.length cap3] HTH.out
 refine bodyPost_ret (results_cell_mid (p := 2) (ty := 37) rfl _ _ (w.heap.size + 1) [.int .i64 2, .int .i64 r.x.k, .int .i64 r.x.s, .int .i64 r.x.p, .int .i64 1, .int .i64 r.x.a, .int .i64 r.x.l, .int .i64 r.x.c, .int .i64 r.x.n, .int .i64 r.x.i, .string r.nm, .slice ao3 r.l.length cap3] _ rfl HRG Tryz.underlying37 rfl HIR.out) rfl ?_
 exact ⟨_, _, rfl, HF.out.2.1, HF.out.2.2, HF.out.1⟩
theorem second_5 (r : Rec) (d : Value) (w : World) (h : Bs w d r.l) (hlen : r.l.length ≤ 140737488355000) (hk : r.x.k = 5) :
  Calls Tryz.prog 111 #[rv r.x r.nm d] w fun e w' => NewR w w' (cOne r) e := by
 have HE : Hid (cOne r = ⟨{ r.x with v := 2, t := 1 }, r.nm, r.l⟩) := by show _ = _; unfold cOne; rw [if_neg (by omega), if_pos (.inr hk)]
 rw [HE.out]
 have d1 : (r.x.k == 1) = false := by simp [hk]
 have d2 : (r.x.k == 2) = false := by simp [hk]
 have d4 : (r.x.k == 4) = false := by simp [hk]
 have d5 : (r.x.k == 5) = true := by simp [hk]
 have HIR : Hid ((Tryz.prog.info? 37).map (·.size) = some 12) := infoRec
 have HX : Hid (∀ o1 o2, ((w.alloc o1).alloc o2).heap[w.heap.size]? = some o1 ∧ ((w.alloc o1).alloc o2).heap[w.heap.size + 1]? = some o2 ∧ Below w.heap.size w ((w.alloc o1).alloc o2) ∧ w.heap.size + 2 ≤ ((w.alloc o1).alloc o2).heap.size) := fun o1 o2 => ⟨(heap2 w o1 o2).1, (heap2 w o1 o2).2.1, (heap2 w o1 o2).2.2, by rw [heap_one, heap_one]; omega⟩
 have HCL : Hid (∀ w', Below w.heap.size w w' → Calls Tryz.prog 15 #[rv r.x r.nm d] w' fun e w'' => ∃ ao', ∃ cap' : Nat, e = .returned (rv r.x r.nm (.slice ao' r.l.length cap')) ∧ Own w'.heap.size w'' (.slice ao' r.l.length cap') r.l ∧ Below w'.heap.size w' w'') := fun w' hb' => (refclone_any r.x r.nm d r.l w' (h.kept hb') hlen).mono fun e w'' ⟨d', he, ho, hb''⟩ => by
  obtain ⟨ao', cap', rfl, _⟩ := ho.bs.shape
  exact ⟨ao', cap', he, ho, hb''⟩
 have HB : Hid (∀ w', Below w.heap.size w w' → Bs w' d r.l) := fun w' hb' => h.kept hb'
 obtain ⟨ao, cap, rfl, _⟩ := h.shape
 clear h HE hk
 unfold rv at *
 go_enter Tryz.func111, Tryz.ntmps111
 go_wp2_with fail
 refine (HCL.out _ (HX.out _ _).2.2.1).mono ?_
 rintro e w3 ⟨ao3, cap3, rfl, ho3, b3⟩
 have hbx : Box w3 w.heap.size r.x r.nm (.slice ao r.l.length cap) := Box.kept (HX.out _ _).1 b3
 have hz : Box w3 (w.heap.size + 1) zeroNums ⟨#[]⟩ (.slice none 0 0) := Box.kept (HX.out _ _).2.1 b3
 have B3 := andThen (HX.out _ _).2.2.1 b3
 have HO3 : Hid (Own (w.heap.size + 2) w3 (.slice ao3 r.l.length cap3) r.l) := ho3.mono (HX.out _ _).2.2.2
 clear ho3 b3 HX HCL
 have hl0 : w.heap.size < w3.heap.size := hbx.lt
 have hl1 : w.heap.size + 1 < w3.heap.size := hz.lt
 have HA : Hid (∀ o, Box (w3.alloc o) w.heap.size r.x r.nm (.slice ao r.l.length cap) ∧ Box (w3.alloc o) (w.heap.size + 1) zeroNums ⟨#[]⟩ (.slice none 0 0) ∧ Bs (w3.alloc o) (.slice ao r.l.length cap) r.l ∧ Below w.heap.size w (w3.alloc o) ∧ Own (w.heap.size + 2) (w3.alloc o) (.slice ao3 r.l.length cap3) r.l) := fun o => ⟨hbx.kept (up0 _ _), hz.kept (up0 _ _), HB.out _ (up B3 _), up B3 _, HO3.out.alloc _⟩
 obtain ⟨c0, c1, c2, c3, c4, c5, c6, c7, c8, c9, c10, c11⟩ := hbx.cells
 clear B3
 go_upto_region 14 with fail
 have HK : Hid (Box (w3.alloc (.cells #[.int .i64 2, .int .i64 r.x.k, .int .i64 r.x.s, .int .i64 r.x.p, .int .i64 1, .int .i64 r.x.a, .int .i64 r.x.l, .int .i64 r.x.c, .int .i64 r.x.n, .int .i64 r.x.i, .string r.nm, .slice ao3 r.l.length cap3] 37)) w3.heap.size ⟨2, r.x.k, r.x.s, r.x.p, 1, r.x.a, r.x.l, r.x.c, r.x.n, r.x.i⟩ r.nm (.slice ao3 r.l.length cap3) ∧ Box (w3.alloc (.cells #[.int .i64 2, .int .i64 r.x.k, .int .i64 r.x.s, .int .i64 r.x.p, .int .i64 1, .int .i64 r.x.a, .int .i64 r.x.l, .int .i64 r.x.c, .int .i64 r.x.n, .int .i64 r.x.i, .string r.nm, .slice ao3 r.l.length cap3] 37)) (w.heap.size + 1) zeroNums ⟨#[]⟩ (.slice none 0 0) ∧ Below w.heap.size w ((w3.alloc (.cells #[.int .i64 2, .int .i64 r.x.k, .int .i64 r.x.s, .int .i64 r.x.p, .int .i64 1, .int .i64 r.x.a, .int .i64 r.x.l, .int .i64 r.x.c, .int .i64 r.x.n, .int .i64 r.x.i, .string r.nm, .slice ao3 r.l.length cap3] 37)).setCells (w.heap.size + 1) 0 [.int .i64 2, .int .i64 r.x.k, .int .i64 r.x.s, .int .i64 r.x.p, .int .i64 1, .int .i64 r.x.a, .int .i64 r.x.l, .int .i64 r.x.c, .int .i64 r.x.n, .int .i64 r.x.i, .string r.nm, .slice ao3 r.l.length cap3]) ∧ Bs ((w3.alloc (.cells #[.int .i64 2, .int .i64 r.x.k, .int .i64 r.x.s, .int .i64 r.x.p, .int .i64 1, .int .i64 r.x.a, .int .i64 r.x.l, .int .i64 r.x.c, .int .i64 r.x.n, .int .i64 r.x.i, .string r.nm, .slice ao3 r.l.length cap3] 37)).setCells (w.heap.size + 1) 0 [.int .i64 2, .int .i64 r.x.k, .int .i64 r.x.s, .int .i64 r.x.p, .int .i64 1, .int .i64 r.x.a, .int .i64 r.x.l, .int .i64 r.x.c, .int .i64 r.x.n, .int .i64 r.x.i, .string r.nm, .slice ao3 r.l.length cap3]) (.slice ao3 r.l.length cap3) r.l ∧ ∀ g, g < w.heap.size → Off g (.slice ao3 r.l.length cap3) r.l) := ⟨heap_new _ _, (HA.out _).2.1, below_cells (by omega) _ 0 _ (HA.out _).2.2.2.1, (Own.cells (HA.out _).2.2.2.2 _ _ _ (by omega)).bs, fun g hg => off_own HO3.out g (by omega)⟩
 have HK' := HK.out
 clear HK HA HO3 hbx hz c0 c1 c2 c3 c4 c5 c6 c7 c8 c9 c10 c11 hl0 hl1
 generalize w3.alloc (.cells #[.int .i64 2, .int .i64 r.x.k, .int .i64 r.x.s, .int .i64 r.x.p, .int .i64 1, .int .i64 r.x.a, .int .i64 r.x.l, .int .i64 r.x.c, .int .i64 r.x.n, .int .i64 r.x.i, .string r.nm, .slice ao3 r.l.length cap3] 37) = W at HK' ⊢
 generalize w3.heap.size = g3 at HK' ⊢
 obtain ⟨hq, hz, hB, hbs, hof⟩ := HK'
 obtain ⟨c0, c1, c2, c3, c4, c5, c6, c7, c8, c9, c10, c11⟩ := hq.cells
 obtain ⟨z0, z1, z2, z3, z4, z5, z6, z7, z8, z9, z10, z11⟩ := hz.cells
 have f0 := hz.free' 0
 have f1 := hz.free' 1
 have f2 := hz.free' 2
 have f3 := hz.free' 3
 have f4 := hz.free' 4
 have f5 := hz.free' 5
 have f6 := hz.free' 6
 have f7 := hz.free' 7
 have f8 := hz.free' 8
 have f9 := hz.free' 9
 have f10 := hz.free' 10
 have f11 := hz.free' 11
 have HTH : Hid (W.there (w.heap.size + 1) 0 12) := hz.there
 have HF : Hid (Below w.heap.size w (W.setCells (w.heap.size + 1) 0 [.int .i64 2, .int .i64 r.x.k, .int .i64 r.x.s, .int .i64 r.x.p, .int .i64 1, .int .i64 r.x.a, .int .i64 r.x.l, .int .i64 r.x.c, .int .i64 r.x.n, .int .i64 r.x.i, .string r.nm, .slice ao3 r.l.length cap3]) ∧ Bs (W.setCells (w.heap.size + 1) 0 [.int .i64 2, .int .i64 r.x.k, .int .i64 r.x.s, .int .i64 r.x.p, .int .i64 1, .int .i64 r.x.a, .int .i64 r.x.l, .int .i64 r.x.c, .int .i64 r.x.n, .int .i64 r.x.i, .string r.nm, .slice ao3 r.l.length cap3]) (.slice ao3 r.l.length cap3) r.l ∧ ∀ g, g < w.heap.size → Off g (.slice ao3 r.l.length cap3) r.l) := ⟨hB, hbs, hof⟩
 clear hq hz hB hbs hof
 go_wp2
 have HRG := World.rangeAt_setCells_same W (w.heap.size + 1) 0 [.int .i64 2, .int .i64 r.x.k, .int .i64 r.x.s, .int .i64 r.x.p, .int .i64 1, .int .i64 r.x.a, .int .i64 r.x.l, .int .i64 r.x.c, .int .i64 r.x.n, .int .i64 r.x.i, .string r.nm, .slice ao3 r.l.length cap3] HTH.out
 refine bodyPost_ret (results_cell_mid (p := 2) (ty := 37) rfl _ _ (w.heap.size + 1) [.int .i64 2, .int .i64 r.x.k, .int .i64 r.x.s, .int .i64 r.x.p, .int .i64 1, .int .i64 r.x.a, .int .i64 r.x.l, .int .i64 r.x.c, .int .i64 r.x.n, .int .i64 r.x.i, .string r.nm, .slice ao3 r.l.length cap3] _ rfl HRG Tryz.underlying37 rfl HIR.out) rfl ?_
 exact ⟨_, _, rfl, HF.out.2.1, HF.out.2.2, HF.out.1⟩
theorem second_4 (r : Rec) (d : Value) (w : World) (h : Bs w d r.l) (hlen : r.l.length ≤ 140737488355000) (hk : r.x.k = 4) :
  Calls Tryz.prog 111 #[rv r.x r.nm d] w fun e w' => NewR w w' (cOne r) e := by
 have HE : Hid (cOne r = ⟨{ r.x with v := 2, l := 1 }, r.nm, r.l⟩) := by show _ = _; unfold cOne; rw [if_neg (by omega), if_neg (by omega), if_pos hk]
 rw [HE.out]
 have d1 : (r.x.k == 1) = false := by simp [hk]
 have d2 : (r.x.k == 2) = false := by simp [hk]
 have d4 : (r.x.k == 4) = true := by simp [hk]
 have d5 : (r.x.k == 5) = false := by simp [hk]
 have HIR : Hid ((Tryz.prog.info? 37).map (·.size) = some 12) := infoRec
 have HX : Hid (∀ o1 o2, ((w.alloc o1).alloc o2).heap[w.heap.size]? = some o1 ∧ ((w.alloc o1).alloc o2).heap[w.heap.size + 1]? = some o2 ∧ Below w.heap.size w ((w.alloc o1).alloc o2) ∧ w.heap.size + 2 ≤ ((w.alloc o1).alloc o2).heap.size) := fun o1 o2 => ⟨(heap2 w o1 o2).1, (heap2 w o1 o2).2.1, (heap2 w o1 o2).2.2, by rw [heap_one, heap_one]; omega⟩
 have HCL : Hid (∀ w', Below w.heap.size w w' → Calls Tryz.prog 15 #[rv r.x r.nm d] w' fun e w'' => ∃ ao', ∃ cap' : Nat, e = .returned (rv r.x r.nm (.slice ao' r.l.length cap')) ∧ Own w'.heap.size w'' (.slice ao' r.l.length cap') r.l ∧ Below w'.heap.size w' w'') := fun w' hb' => (refclone_any r.x r.nm d r.l w' (h.kept hb') hlen).mono fun e w'' ⟨d', he, ho, hb''⟩ => by
  obtain ⟨ao', cap', rfl, _⟩ := ho.bs.shape
  exact ⟨ao', cap', he, ho, hb''⟩
 have HB : Hid (∀ w', Below w.heap.size w w' → Bs w' d r.l) := fun w' hb' => h.kept hb'
 obtain ⟨ao, cap, rfl, _⟩ := h.shape
 clear h HE hk
 unfold rv at *
 go_enter Tryz.func111, Tryz.ntmps111
 go_wp2_with fail
 refine (HCL.out _ (HX.out _ _).2.2.1).mono ?_
 rintro e w3 ⟨ao3, cap3, rfl, ho3, b3⟩
 have hbx : Box w3 w.heap.size r.x r.nm (.slice ao r.l.length cap) := Box.kept (HX.out _ _).1 b3
 have hz : Box w3 (w.heap.size + 1) zeroNums ⟨#[]⟩ (.slice none 0 0) := Box.kept (HX.out _ _).2.1 b3
 have B3 := andThen (HX.out _ _).2.2.1 b3
 have HO3 : Hid (Own (w.heap.size + 2) w3 (.slice ao3 r.l.length cap3) r.l) := ho3.mono (HX.out _ _).2.2.2
 clear ho3 b3 HX HCL
 have hl0 : w.heap.size < w3.heap.size := hbx.lt
 have hl1 : w.heap.size + 1 < w3.heap.size := hz.lt
 have HA : Hid (∀ o, Box (w3.alloc o) w.heap.size r.x r.nm (.slice ao r.l.length cap) ∧ Box (w3.alloc o) (w.heap.size + 1) zeroNums ⟨#[]⟩ (.slice none 0 0) ∧ Bs (w3.alloc o) (.slice ao r.l.length cap) r.l ∧ Below w.heap.size w (w3.alloc o) ∧ Own (w.heap.size + 2) (w3.alloc o) (.slice ao3 r.l.length cap3) r.l) := fun o => ⟨hbx.kept (up0 _ _), hz.kept (up0 _ _), HB.out _ (up B3 _), up B3 _, HO3.out.alloc _⟩
 obtain ⟨c0, c1, c2, c3, c4, c5, c6, c7, c8, c9, c10, c11⟩ := hbx.cells
 clear B3
 go_upto_region 14 with fail
 have HK : Hid (Box (w3.alloc (.cells #[.int .i64 2, .int .i64 r.x.k, .int .i64 r.x.s, .int .i64 r.x.p, .int .i64 r.x.t, .int .i64 r.x.a, .int .i64 1, .int .i64 r.x.c, .int .i64 r.x.n, .int .i64 r.x.i, .string r.nm, .slice ao3 r.l.length cap3] 37)) w3.heap.size ⟨2, r.x.k, r.x.s, r.x.p, r.x.t, r.x.a, 1, r.x.c, r.x.n, r.x.i⟩ r.nm (.slice ao3 r.l.length cap3) ∧ Box (w3.alloc (.cells #[.int .i64 2, .int .i64 r.x.k, .int .i64 r.x.s, .int .i64 r.x.p, .int .i64 r.x.t, .int .i64 r.x.a, .int .i64 1, .int .i64 r.x.c, .int .i64 r.x.n, .int .i64 r.x.i, .string r.nm, .slice ao3 r.l.length cap3] 37)) (w.heap.size + 1) zeroNums ⟨#[]⟩ (.slice none 0 0) ∧ Below w.heap.size w ((w3.alloc (.cells #[.int .i64 2, .int .i64 r.x.k, .int .i64 r.x.s, .int .i64 r.x.p, .int .i64 r.x.t, .int .i64 r.x.a, .int .i64 1, .int .i64 r.x.c, .int .i64 r.x.n, .int .i64 r.x.i, .string r.nm, .slice ao3 r.l.length cap3] 37)).setCells (w.heap.size + 1) 0 [.int .i64 2, .int .i64 r.x.k, .int .i64 r.x.s, .int .i64 r.x.p, .int .i64 r.x.t, .int .i64 r.x.a, .int .i64 1, .int .i64 r.x.c, .int .i64 r.x.n, .int .i64 r.x.i, .string r.nm, .slice ao3 r.l.length cap3]) ∧ Bs ((w3.alloc (.cells #[.int .i64 2, .int .i64 r.x.k, .int .i64 r.x.s, .int .i64 r.x.p, .int .i64 r.x.t, .int .i64 r.x.a, .int .i64 1, .int .i64 r.x.c, .int .i64 r.x.n, .int .i64 r.x.i, .string r.nm, .slice ao3 r.l.length cap3] 37)).setCells (w.heap.size + 1) 0 [.int .i64 2, .int .i64 r.x.k, .int .i64 r.x.s, .int .i64 r.x.p, .int .i64 r.x.t, .int .i64 r.x.a, .int .i64 1, .int .i64 r.x.c, .int .i64 r.x.n, .int .i64 r.x.i, .string r.nm, .slice ao3 r.l.length cap3]) (.slice ao3 r.l.length cap3) r.l ∧ ∀ g, g < w.heap.size → Off g (.slice ao3 r.l.length cap3) r.l) := ⟨heap_new _ _, (HA.out _).2.1, below_cells (by omega) _ 0 _ (HA.out _).2.2.2.1, (Own.cells (HA.out _).2.2.2.2 _ _ _ (by omega)).bs, fun g hg => off_own HO3.out g (by omega)⟩
 have HK' := HK.out
 clear HK HA HO3 hbx hz c0 c1 c2 c3 c4 c5 c6 c7 c8 c9 c10 c11 hl0 hl1
 generalize w3.alloc (.cells #[.int .i64 2, .int .i64 r.x.k, .int .i64 r.x.s, .int .i64 r.x.p, .int .i64 r.x.t, .int .i64 r.x.a, .int .i64 1, .int .i64 r.x.c, .int .i64 r.x.n, .int .i64 r.x.i, .string r.nm, .slice ao3 r.l.length cap3] 37) = W at HK' ⊢
 generalize w3.heap.size = g3 at HK' ⊢
 obtain ⟨hq, hz, hB, hbs, hof⟩ := HK'
 obtain ⟨c0, c1, c2, c3, c4, c5, c6, c7, c8, c9, c10, c11⟩ := hq.cells
 obtain ⟨z0, z1, z2, z3, z4, z5, z6, z7, z8, z9, z10, z11⟩ := hz.cells
 have f0 := hz.free' 0
 have f1 := hz.free' 1
 have f2 := hz.free' 2
 have f3 := hz.free' 3
 have f4 := hz.free' 4
 have f5 := hz.free' 5
 have f6 := hz.free' 6
 have f7 := hz.free' 7
 have f8 := hz.free' 8
 have f9 := hz.free' 9
 have f10 := hz.free' 10
 have f11 := hz.free' 11
 have HTH : Hid (W.there (w.heap.size + 1) 0 12) := hz.there
 have HF : Hid (Below w.heap.size w (W.setCells (w.heap.size + 1) 0 [.int .i64 2, .int .i64 r.x.k, .int .i64 r.x.s, .int .i64 r.x.p, .int .i64 r.x.t, .int .i64 r.x.a, .int .i64 1, .int .i64 r.x.c, .int .i64 r.x.n, .int .i64 r.x.i, .string r.nm, .slice ao3 r.l.length cap3]) ∧ Bs (W.setCells (w.heap.size + 1) 0 [.int .i64 2, .int .i64 r.x.k, .int .i64 r.x.s, .int .i64 r.x.p, .int .i64 r.x.t, .int .i64 r.x.a, .int .i64 1, .int .i64 r.x.c, .int .i64 r.x.n, .int .i64 r.x.i, .string r.nm, .slice ao3 r.l.length cap3]) (.slice ao3 r.l.length cap3) r.l ∧ ∀ g, g < w.heap.size → Off g (.slice ao3 r.l.length cap3) r.l) := ⟨hB, hbs, hof⟩
 clear hq hz hB hbs hof
 go_wp2
 have HRG := World.rangeAt_setCells_same W (w.heap.size + 1) 0 [.int .i64 2, .int .i64 r.x.k, .int .i64 r.x.s, .int .i64 r.x.p, .int .i64 r.x.t, .int .i64 r.x.a, .int .i64 1, .int .i64 r.x.c, .int .i64 r.x.n, .int .i64 r.x.i, .string r.nm, .slice ao3 r.l.length cap3] HTH.out
 refine bodyPost_ret (results_cell_mid (p := 2) (ty := 37) rfl _ _ (w.heap.size + 1) [.int .i64 2, .int .i64 r.x.k, .int .i64 r.x.s, .int .i64 r.x.p, .int .i64 r.x.t, .int .i64 r.x.a, .int .i64 1, .int .i64 r.x.c, .int .i64 r.x.n, .int .i64 r.x.i, .string r.nm, .slice ao3 r.l.length cap3] _ rfl HRG Tryz.underlying37 rfl HIR.out) rfl ?_
 exact ⟨_, _, rfl, HF.out.2.1, HF.out.2.2, HF.out.1⟩
theorem second_0 (r : Rec) (d : Value) (w : World) (h : Bs w d r.l) (hlen : r.l.length ≤ 140737488355000) (h1 : r.x.k ≠ 1) (h2 : r.x.k ≠ 2) (h4 : r.x.k ≠ 4) (h5 : r.x.k ≠ 5) :
  Calls Tryz.prog 111 #[rv r.x r.nm d] w fun e w' => NewR w w' (cOne r) e := by
 have HE : Hid (cOne r = ⟨{ r.x with v := 2 }, r.nm, r.l⟩) := by show _ = _; unfold cOne; rw [if_neg h1, if_neg (by omega), if_neg h4]
 rw [HE.out]
 have d1 : (r.x.k == 1) = false := by simp [h1]
 have d2 : (r.x.k == 2) = false := by simp [h2]
 have d4 : (r.x.k == 4) = false := by simp [h4]
 have d5 : (r.x.k == 5) = false := by simp [h5]
 have HIR : Hid ((Tryz.prog.info? 37).map (·.size) = some 12) := infoRec
 have HX : Hid (∀ o1 o2, ((w.alloc o1).alloc o2).heap[w.heap.size]? = some o1 ∧ ((w.alloc o1).alloc o2).heap[w.heap.size + 1]? = some o2 ∧ Below w.heap.size w ((w.alloc o1).alloc o2) ∧ w.heap.size + 2 ≤ ((w.alloc o1).alloc o2).heap.size) := fun o1 o2 => ⟨(heap2 w o1 o2).1, (heap2 w o1 o2).2.1, (heap2 w o1 o2).2.2, by rw [heap_one, heap_one]; omega⟩
 have HCL : Hid (∀ w', Below w.heap.size w w' → Calls Tryz.prog 15 #[rv r.x r.nm d] w' fun e w'' => ∃ ao', ∃ cap' : Nat, e = .returned (rv r.x r.nm (.slice ao' r.l.length cap')) ∧ Own w'.heap.size w'' (.slice ao' r.l.length cap') r.l ∧ Below w'.heap.size w' w'') := fun w' hb' => (refclone_any r.x r.nm d r.l w' (h.kept hb') hlen).mono fun e w'' ⟨d', he, ho, hb''⟩ => by
  obtain ⟨ao', cap', rfl, _⟩ := ho.bs.shape
  exact ⟨ao', cap', he, ho, hb''⟩
 have HB : Hid (∀ w', Below w.heap.size w w' → Bs w' d r.l) := fun w' hb' => h.kept hb'
 obtain ⟨ao, cap, rfl, _⟩ := h.shape
 clear h HE h1 h2 h4 h5
 unfold rv at *
 go_enter Tryz.func111, Tryz.ntmps111
 go_wp2_with fail
 refine (HCL.out _ (HX.out _ _).2.2.1).mono ?_
 rintro e w3 ⟨ao3, cap3, rfl, ho3, b3⟩
 have hbx : Box w3 w.heap.size r.x r.nm (.slice ao r.l.length cap) := Box.kept (HX.out _ _).1 b3
 have hz : Box w3 (w.heap.size + 1) zeroNums ⟨#[]⟩ (.slice none 0 0) := Box.kept (HX.out _ _).2.1 b3
 have B3 := andThen (HX.out _ _).2.2.1 b3
 have HO3 : Hid (Own (w.heap.size + 2) w3 (.slice ao3 r.l.length cap3) r.l) := ho3.mono (HX.out _ _).2.2.2
 clear ho3 b3 HX HCL
 have hl0 : w.heap.size < w3.heap.size := hbx.lt
 have hl1 : w.heap.size + 1 < w3.heap.size := hz.lt
 have HA : Hid (∀ o, Box (w3.alloc o) w.heap.size r.x r.nm (.slice ao r.l.length cap) ∧ Box (w3.alloc o) (w.heap.size + 1) zeroNums ⟨#[]⟩ (.slice none 0 0) ∧ Bs (w3.alloc o) (.slice ao r.l.length cap) r.l ∧ Below w.heap.size w (w3.alloc o) ∧ Own (w.heap.size + 2) (w3.alloc o) (.slice ao3 r.l.length cap3) r.l) := fun o => ⟨hbx.kept (up0 _ _), hz.kept (up0 _ _), HB.out _ (up B3 _), up B3 _, HO3.out.alloc _⟩
 obtain ⟨c0, c1, c2, c3, c4, c5, c6, c7, c8, c9, c10, c11⟩ := hbx.cells
 clear B3
 go_upto_region 14 with fail
 have HK : Hid (Box (w3.alloc (.cells #[.int .i64 2, .int .i64 r.x.k, .int .i64 r.x.s, .int .i64 r.x.p, .int .i64 r.x.t, .int .i64 r.x.a, .int .i64 r.x.l, .int .i64 r.x.c, .int .i64 r.x.n, .int .i64 r.x.i, .string r.nm, .slice ao3 r.l.length cap3] 37)) w3.heap.size ⟨2, r.x.k, r.x.s, r.x.p, r.x.t, r.x.a, r.x.l, r.x.c, r.x.n, r.x.i⟩ r.nm (.slice ao3 r.l.length cap3) ∧ Box (w3.alloc (.cells #[.int .i64 2, .int .i64 r.x.k, .int .i64 r.x.s, .int .i64 r.x.p, .int .i64 r.x.t, .int .i64 r.x.a, .int .i64 r.x.l, .int .i64 r.x.c, .int .i64 r.x.n, .int .i64 r.x.i, .string r.nm, .slice ao3 r.l.length cap3] 37)) (w.heap.size + 1) zeroNums ⟨#[]⟩ (.slice none 0 0) ∧ Below w.heap.size w ((w3.alloc (.cells #[.int .i64 2, .int .i64 r.x.k, .int .i64 r.x.s, .int .i64 r.x.p, .int .i64 r.x.t, .int .i64 r.x.a, .int .i64 r.x.l, .int .i64 r.x.c, .int .i64 r.x.n, .int .i64 r.x.i, .string r.nm, .slice ao3 r.l.length cap3] 37)).setCells (w.heap.size + 1) 0 [.int .i64 2, .int .i64 r.x.k, .int .i64 r.x.s, .int .i64 r.x.p, .int .i64 r.x.t, .int .i64 r.x.a, .int .i64 r.x.l, .int .i64 r.x.c, .int .i64 r.x.n, .int .i64 r.x.i, .string r.nm, .slice ao3 r.l.length cap3]) ∧ Bs ((w3.alloc (.cells #[.int .i64 2, .int .i64 r.x.k, .int .i64 r.x.s, .int .i64 r.x.p, .int .i64 r.x.t, .int .i64 r.x.a, .int .i64 r.x.l, .int .i64 r.x.c, .int .i64 r.x.n, .int .i64 r.x.i, .string r.nm, .slice ao3 r.l.length cap3] 37)).setCells (w.heap.size + 1) 0 [.int .i64 2, .int .i64 r.x.k, .int .i64 r.x.s, .int .i64 r.x.p, .int .i64 r.x.t, .int .i64 r.x.a, .int .i64 r.x.l, .int .i64 r.x.c, .int .i64 r.x.n, .int .i64 r.x.i, .string r.nm, .slice ao3 r.l.length cap3]) (.slice ao3 r.l.length cap3) r.l ∧ ∀ g, g < w.heap.size → Off g (.slice ao3 r.l.length cap3) r.l) := ⟨heap_new _ _, (HA.out _).2.1, below_cells (by omega) _ 0 _ (HA.out _).2.2.2.1, (Own.cells (HA.out _).2.2.2.2 _ _ _ (by omega)).bs, fun g hg => off_own HO3.out g (by omega)⟩
 have HK' := HK.out
 clear HK HA HO3 hbx hz c0 c1 c2 c3 c4 c5 c6 c7 c8 c9 c10 c11 hl0 hl1
 generalize w3.alloc (.cells #[.int .i64 2, .int .i64 r.x.k, .int .i64 r.x.s, .int .i64 r.x.p, .int .i64 r.x.t, .int .i64 r.x.a, .int .i64 r.x.l, .int .i64 r.x.c, .int .i64 r.x.n, .int .i64 r.x.i, .string r.nm, .slice ao3 r.l.length cap3] 37) = W at HK' ⊢
 generalize w3.heap.size = g3 at HK' ⊢
 obtain ⟨hq, hz, hB, hbs, hof⟩ := HK'
 obtain ⟨c0, c1, c2, c3, c4, c5, c6, c7, c8, c9, c10, c11⟩ := hq.cells
 obtain ⟨z0, z1, z2, z3, z4, z5, z6, z7, z8, z9, z10, z11⟩ := hz.cells
 have f0 := hz.free' 0
 have f1 := hz.free' 1
 have f2 := hz.free' 2
 have f3 := hz.free' 3
 have f4 := hz.free' 4
 have f5 := hz.free' 5
 have f6 := hz.free' 6
 have f7 := hz.free' 7
 have f8 := hz.free' 8
 have f9 := hz.free' 9
 have f10 := hz.free' 10
 have f11 := hz.free' 11
 have HTH : Hid (W.there (w.heap.size + 1) 0 12) := hz.there
 have HF : Hid (Below w.heap.size w (W.setCells (w.heap.size + 1) 0 [.int .i64 2, .int .i64 r.x.k, .int .i64 r.x.s, .int .i64 r.x.p, .int .i64 r.x.t, .int .i64 r.x.a, .int .i64 r.x.l, .int .i64 r.x.c, .int .i64 r.x.n, .int .i64 r.x.i, .string r.nm, .slice ao3 r.l.length cap3]) ∧ Bs (W.setCells (w.heap.size + 1) 0 [.int .i64 2, .int .i64 r.x.k, .int .i64 r.x.s, .int .i64 r.x.p, .int .i64 r.x.t, .int .i64 r.x.a, .int .i64 r.x.l, .int .i64 r.x.c, .int .i64 r.x.n, .int .i64 r.x.i, .string r.nm, .slice ao3 r.l.length cap3]) (.slice ao3 r.l.length cap3) r.l ∧ ∀ g, g < w.heap.size → Off g (.slice ao3 r.l.length cap3) r.l) := ⟨hB, hbs, hof⟩
 clear hq hz hB hbs hof
 go_wp2
 have HRG := World.rangeAt_setCells_same W (w.heap.size + 1) 0 [.int .i64 2, .int .i64 r.x.k, .int .i64 r.x.s, .int .i64 r.x.p, .int .i64 r.x.t, .int .i64 r.x.a, .int .i64 r.x.l, .int .i64 r.x.c, .int .i64 r.x.n, .int .i64 r.x.i, .string r.nm, .slice ao3 r.l.length cap3] HTH.out
 refine bodyPost_ret (results_cell_mid (p := 2) (ty := 37) rfl _ _ (w.heap.size + 1) [.int .i64 2, .int .i64 r.x.k, .int .i64 r.x.s, .int .i64 r.x.p, .int .i64 r.x.t, .int .i64 r.x.a, .int .i64 r.x.l, .int .i64 r.x.c, .int .i64 r.x.n, .int .i64 r.x.i, .string r.nm, .slice ao3 r.l.length cap3] _ rfl HRG Tryz.underlying37 rfl HIR.out) rfl ?_
 exact ⟨_, _, rfl, HF.out.2.1, HF.out.2.2, HF.out.1⟩
theorem second_any (r : Rec) (d : Value) (w : World) (h : Bs w d r.l) (hlen : r.l.length ≤ 140737488355000) :
  Calls Tryz.prog 111 #[rv r.x r.nm d] w fun e w' => NewR w w' (cOne r) e := by
 by_cases h1 : r.x.k = 1
 ·exact second_1 r d w h hlen h1
 by_cases h2 : r.x.k = 2
 ·exact second_2 r d w h hlen h2
 by_cases h5 : r.x.k = 5
 ·exact second_5 r d w h hlen h5
 by_cases h4 : r.x.k = 4
 ·exact second_4 r d w h hlen h4
 exact second_0 r d w h hlen h1 h2 h4 h5
def NewT (w w' : World) (a : Int × Rec) (e : Ending) : Prop := ∃ ao, ∃ cap : Nat, e = .returned (.tuple #[rv a.2.x a.2.nm (.slice ao a.2.l.length cap), .int .i64 a.1]) ∧ Bs w' (.slice ao a.2.l.length cap) a.2.l ∧ (∀ g, g < w.heap.size → Off g (.slice ao a.2.l.length cap) a.2.l) ∧ Below w.heap.size w w'
theorem box_v {w : World} {g : Nat} {x : Nums} {nm : ByteArray} {d : Value} (h : Box w g x nm d) (z : Int) : Box (w.setCell ⟨g, 0, none⟩ (.int .i64 z)) g { x with v := z } nm d := by
 unfold Box at *
 simp [World.setCell, Array.getElem?_modify, h]
theorem r4up_e1 (to : Int) (r : Rec) (d : Value) (w : World) (h : Bs w d r.l) (hT : Tabs w) (hnm : r.nm.size ≤ 1048576) (hf : r.x.fit) (hc : chkR r ≠ 0) :
  Calls Tryz.prog 93 #[rv r.x r.nm d, .int .i64 to] w fun e w' => NewT w w' (upP to r) e := by
 have HE : Hid (upP to r = (chkR r, zRec)) := by
  show _ = _
  have hl : lckE to r = chkR r := by { unfold lckE; rw [if_pos hc] }
  unfold upP; rw [hl, if_pos hc]
 rw [HE.out]
 have HIR : Hid ((Tryz.prog.info? 37).map (·.size) = some 12) := infoRec
 have HX : Hid (∀ o1 o2, ((w.alloc o1).alloc o2).heap[w.heap.size]? = some o1 ∧ ((w.alloc o1).alloc o2).heap[w.heap.size + 1]? = some o2 ∧ Below w.heap.size w ((w.alloc o1).alloc o2)) := fun o1 o2 => heap2 w o1 o2
 have HRC : Hid (∀ w', Below w.heap.size w w' → Calls Tryz.prog 75 #[rv r.x r.nm d] w' fun e w'' => e = .returned (.int .i64 (chkR r)) ∧ Below w'.heap.size w' w'') := fun w' hb' => refcheck_any r.x r.nm d r.l w' (h.kept hb') (hT.kept hb').rlets (hT.kept hb').rows hf.c (by omega)
 have d1 : (chkR r != 0) = true := by rw [bne_iff_ne]; exact hc
 obtain ⟨ao, cap, rfl, _⟩ := h.shape
 clear h HE hf
 generalize chkR r = z at *
 simp only [zRec, zeroNums]
 unfold rv at *
 go_enter Tryz.func93, Tryz.ntmps93
 go_wp2_with fail
 refine (HRC.out _ (HX.out _ _).2.2).mono ?_
 rintro e w1 ⟨rfl, b1⟩
 have hbx : Box w1 w.heap.size r.x r.nm (.slice ao r.l.length cap) := Box.kept (HX.out _ _).1 b1
 have hz : Box w1 (w.heap.size + 1) zeroNums ⟨#[]⟩ (.slice none 0 0) := Box.kept (HX.out _ _).2.1 b1
 have B1 := andThen (HX.out _ _).2.2 b1
 clear b1 HX HRC
 have c0 := hbx.cells.1
 obtain ⟨z0, z1, z2, z3, z4, z5, z6, z7, z8, z9, z10, z11⟩ := hz.cells
 have f0 := hz.free' 0
 have f1 := hz.free' 1
 have f2 := hz.free' 2
 have f3 := hz.free' 3
 have f4 := hz.free' 4
 have f5 := hz.free' 5
 have f6 := hz.free' 6
 have f7 := hz.free' 7
 have f8 := hz.free' 8
 have f9 := hz.free' 9
 have f10 := hz.free' 10
 have f11 := hz.free' 11
 have HTH : Hid (w1.there (w.heap.size + 1) 0 12) := hz.there
 have HBF : Hid (Below w.heap.size w (w1.setCells (w.heap.size + 1) 0 [.int .i64 0, .int .i64 0, .int .i64 0, .int .i64 0, .int .i64 0, .int .i64 0, .int .i64 0, .int .i64 0, .int .i64 0, .int .i64 0, .string ⟨#[]⟩, .slice none 0 0])) := below_cells (by omega) _ 0 _ B1
 clear hbx hz B1
 go_wp2
 have HRG := World.rangeAt_setCells_same w1 (w.heap.size + 1) 0 [.int .i64 0, .int .i64 0, .int .i64 0, .int .i64 0, .int .i64 0, .int .i64 0, .int .i64 0, .int .i64 0, .int .i64 0, .int .i64 0, .string ⟨#[]⟩, .slice none 0 0] HTH.out
 refine bodyPost_ret (results_cell_slot (p := 4) (s := 5) (ty := 37) rfl _ _ (w.heap.size + 1) [.int .i64 0, .int .i64 0, .int .i64 0, .int .i64 0, .int .i64 0, .int .i64 0, .int .i64 0, .int .i64 0, .int .i64 0, .int .i64 0, .string ⟨#[]⟩, .slice none 0 0] _ rfl HRG Tryz.underlying37 rfl HIR.out) rfl ?_
 exact ⟨none, 0, rfl, Bs.nil _, fun g _ => off_nil g _, HBF.out⟩
theorem r4up_e2a (to : Int) (r : Rec) (d : Value) (w : World) (h : Bs w d r.l) (hT : Tabs w) (hnm : r.nm.size ≤ 1048576) (hf : r.x.fit) (hc : chkR r = 0) (ht : to < 1) :
  Calls Tryz.prog 93 #[rv r.x r.nm d, .int .i64 to] w fun e w' => NewT w w' (upP to r) e := by
 have HE : Hid (upP to r = (3, zRec)) := by
  show _ = _
  have hl : lckE to r = 3 := by { unfold lckE; rw [if_neg (by simpa using hc), if_neg (by omega)] }
  unfold upP; rw [hl, if_pos (by decide)]
 rw [HE.out]
 have HIR : Hid ((Tryz.prog.info? 37).map (·.size) = some 12) := infoRec
 have HX : Hid (∀ o1 o2, ((w.alloc o1).alloc o2).heap[w.heap.size]? = some o1 ∧ ((w.alloc o1).alloc o2).heap[w.heap.size + 1]? = some o2 ∧ Below w.heap.size w ((w.alloc o1).alloc o2)) := fun o1 o2 => heap2 w o1 o2
 have HRC : Hid (∀ w', Below w.heap.size w w' → Calls Tryz.prog 75 #[rv r.x r.nm d] w' fun e w'' => e = .returned (.int .i64 (chkR r)) ∧ Below w'.heap.size w' w'') := fun w' hb' => refcheck_any r.x r.nm d r.l w' (h.kept hb') (hT.kept hb').rlets (hT.kept hb').rows hf.c (by omega)
 rw [hc] at HRC
 obtain ⟨ao, cap, rfl, _⟩ := h.shape
 clear h HE hf
 simp only [zRec, zeroNums]
 unfold rv at *
 go_enter Tryz.func93, Tryz.ntmps93
 go_wp2_with fail
 refine (HRC.out _ (HX.out _ _).2.2).mono ?_
 rintro e w1 ⟨rfl, b1⟩
 have hbx : Box w1 w.heap.size r.x r.nm (.slice ao r.l.length cap) := Box.kept (HX.out _ _).1 b1
 have hz : Box w1 (w.heap.size + 1) zeroNums ⟨#[]⟩ (.slice none 0 0) := Box.kept (HX.out _ _).2.1 b1
 have B1 := andThen (HX.out _ _).2.2 b1
 clear b1 HX HRC
 have c0 := hbx.cells.1
 obtain ⟨z0, z1, z2, z3, z4, z5, z6, z7, z8, z9, z10, z11⟩ := hz.cells
 have f0 := hz.free' 0
 have f1 := hz.free' 1
 have f2 := hz.free' 2
 have f3 := hz.free' 3
 have f4 := hz.free' 4
 have f5 := hz.free' 5
 have f6 := hz.free' 6
 have f7 := hz.free' 7
 have f8 := hz.free' 8
 have f9 := hz.free' 9
 have f10 := hz.free' 10
 have f11 := hz.free' 11
 have HTH : Hid (w1.there (w.heap.size + 1) 0 12) := hz.there
 have HBF : Hid (Below w.heap.size w (w1.setCells (w.heap.size + 1) 0 [.int .i64 0, .int .i64 0, .int .i64 0, .int .i64 0, .int .i64 0, .int .i64 0, .int .i64 0, .int .i64 0, .int .i64 0, .int .i64 0, .string ⟨#[]⟩, .slice none 0 0])) := below_cells (by omega) _ 0 _ B1
 clear hbx hz B1
 go_wp2
 have HRG := World.rangeAt_setCells_same w1 (w.heap.size + 1) 0 [.int .i64 0, .int .i64 0, .int .i64 0, .int .i64 0, .int .i64 0, .int .i64 0, .int .i64 0, .int .i64 0, .int .i64 0, .int .i64 0, .string ⟨#[]⟩, .slice none 0 0] HTH.out
 refine bodyPost_ret (results_cell_slot (p := 4) (s := 5) (ty := 37) rfl _ _ (w.heap.size + 1) [.int .i64 0, .int .i64 0, .int .i64 0, .int .i64 0, .int .i64 0, .int .i64 0, .int .i64 0, .int .i64 0, .int .i64 0, .int .i64 0, .string ⟨#[]⟩, .slice none 0 0] _ rfl HRG Tryz.underlying37 rfl HIR.out) rfl ?_
 exact ⟨none, 0, rfl, Bs.nil _, fun g _ => off_nil g _, HBF.out⟩
theorem r4up_e2b (to : Int) (r : Rec) (d : Value) (w : World) (h : Bs w d r.l) (hT : Tabs w) (hnm : r.nm.size ≤ 1048576) (hf : r.x.fit) (hc : chkR r = 0) (ht : 3 < to) :
  Calls Tryz.prog 93 #[rv r.x r.nm d, .int .i64 to] w fun e w' => NewT w w' (upP to r) e := by
 have HE : Hid (upP to r = (3, zRec)) := by
  show _ = _
  have hl : lckE to r = 3 := by { unfold lckE; rw [if_neg (by simpa using hc), if_neg (by omega)] }
  unfold upP; rw [hl, if_pos (by decide)]
 rw [HE.out]
 have HIR : Hid ((Tryz.prog.info? 37).map (·.size) = some 12) := infoRec
 have HX : Hid (∀ o1 o2, ((w.alloc o1).alloc o2).heap[w.heap.size]? = some o1 ∧ ((w.alloc o1).alloc o2).heap[w.heap.size + 1]? = some o2 ∧ Below w.heap.size w ((w.alloc o1).alloc o2)) := fun o1 o2 => heap2 w o1 o2
 have HRC : Hid (∀ w', Below w.heap.size w w' → Calls Tryz.prog 75 #[rv r.x r.nm d] w' fun e w'' => e = .returned (.int .i64 (chkR r)) ∧ Below w'.heap.size w' w'') := fun w' hb' => refcheck_any r.x r.nm d r.l w' (h.kept hb') (hT.kept hb').rlets (hT.kept hb').rows hf.c (by omega)
 rw [hc] at HRC
 obtain ⟨ao, cap, rfl, _⟩ := h.shape
 clear h HE hf
 simp only [zRec, zeroNums]
 unfold rv at *
 go_enter Tryz.func93, Tryz.ntmps93
 go_wp2_with fail
 refine (HRC.out _ (HX.out _ _).2.2).mono ?_
 rintro e w1 ⟨rfl, b1⟩
 have hbx : Box w1 w.heap.size r.x r.nm (.slice ao r.l.length cap) := Box.kept (HX.out _ _).1 b1
 have hz : Box w1 (w.heap.size + 1) zeroNums ⟨#[]⟩ (.slice none 0 0) := Box.kept (HX.out _ _).2.1 b1
 have B1 := andThen (HX.out _ _).2.2 b1
 clear b1 HX HRC
 have c0 := hbx.cells.1
 obtain ⟨z0, z1, z2, z3, z4, z5, z6, z7, z8, z9, z10, z11⟩ := hz.cells
 have f0 := hz.free' 0
 have f1 := hz.free' 1
 have f2 := hz.free' 2
 have f3 := hz.free' 3
 have f4 := hz.free' 4
 have f5 := hz.free' 5
 have f6 := hz.free' 6
 have f7 := hz.free' 7
 have f8 := hz.free' 8
 have f9 := hz.free' 9
 have f10 := hz.free' 10
 have f11 := hz.free' 11
 have HTH : Hid (w1.there (w.heap.size + 1) 0 12) := hz.there
 have HBF : Hid (Below w.heap.size w (w1.setCells (w.heap.size + 1) 0 [.int .i64 0, .int .i64 0, .int .i64 0, .int .i64 0, .int .i64 0, .int .i64 0, .int .i64 0, .int .i64 0, .int .i64 0, .int .i64 0, .string ⟨#[]⟩, .slice none 0 0])) := below_cells (by omega) _ 0 _ B1
 clear hbx hz B1
 go_wp2
 have HRG := World.rangeAt_setCells_same w1 (w.heap.size + 1) 0 [.int .i64 0, .int .i64 0, .int .i64 0, .int .i64 0, .int .i64 0, .int .i64 0, .int .i64 0, .int .i64 0, .int .i64 0, .int .i64 0, .string ⟨#[]⟩, .slice none 0 0] HTH.out
 refine bodyPost_ret (results_cell_slot (p := 4) (s := 5) (ty := 37) rfl _ _ (w.heap.size + 1) [.int .i64 0, .int .i64 0, .int .i64 0, .int .i64 0, .int .i64 0, .int .i64 0, .int .i64 0, .int .i64 0, .int .i64 0, .int .i64 0, .string ⟨#[]⟩, .slice none 0 0] _ rfl HRG Tryz.underlying37 rfl HIR.out) rfl ?_
 exact ⟨none, 0, rfl, Bs.nil _, fun g _ => off_nil g _, HBF.out⟩
theorem r4up_e3 (to : Int) (r : Rec) (d : Value) (w : World) (h : Bs w d r.l) (hT : Tabs w) (hnm : r.nm.size ≤ 1048576) (hf : r.x.fit) (hc : chkR r = 0) (h1 : 1 ≤ to) (h3 : to ≤ 3) (ht : to < r.x.v) :
  Calls Tryz.prog 93 #[rv r.x r.nm d, .int .i64 to] w fun e w' => NewT w w' (upP to r) e := by
 have HE : Hid (upP to r = (41, zRec)) := by
  show _ = _
  have hl : lckE to r = 0 := lck_zero.2 ⟨hc, h1, h3⟩
  unfold upP; rw [hl, if_neg (by simp), if_pos ht]
 rw [HE.out]
 have HIR : Hid ((Tryz.prog.info? 37).map (·.size) = some 12) := infoRec
 have HX : Hid (∀ o1 o2, ((w.alloc o1).alloc o2).heap[w.heap.size]? = some o1 ∧ ((w.alloc o1).alloc o2).heap[w.heap.size + 1]? = some o2 ∧ Below w.heap.size w ((w.alloc o1).alloc o2)) := fun o1 o2 => heap2 w o1 o2
 have HRC : Hid (∀ w', Below w.heap.size w w' → Calls Tryz.prog 75 #[rv r.x r.nm d] w' fun e w'' => e = .returned (.int .i64 (chkR r)) ∧ Below w'.heap.size w' w'') := fun w' hb' => refcheck_any r.x r.nm d r.l w' (h.kept hb') (hT.kept hb').rlets (hT.kept hb').rows hf.c (by omega)
 rw [hc] at HRC
 obtain ⟨ao, cap, rfl, _⟩ := h.shape
 clear h HE hf
 simp only [zRec, zeroNums]
 unfold rv at *
 go_enter Tryz.func93, Tryz.ntmps93
 go_wp2_with fail
 refine (HRC.out _ (HX.out _ _).2.2).mono ?_
 rintro e w1 ⟨rfl, b1⟩
 have hbx : Box w1 w.heap.size r.x r.nm (.slice ao r.l.length cap) := Box.kept (HX.out _ _).1 b1
 have hz : Box w1 (w.heap.size + 1) zeroNums ⟨#[]⟩ (.slice none 0 0) := Box.kept (HX.out _ _).2.1 b1
 have B1 := andThen (HX.out _ _).2.2 b1
 clear b1 HX HRC
 have c0 := hbx.cells.1
 obtain ⟨z0, z1, z2, z3, z4, z5, z6, z7, z8, z9, z10, z11⟩ := hz.cells
 have f0 := hz.free' 0
 have f1 := hz.free' 1
 have f2 := hz.free' 2
 have f3 := hz.free' 3
 have f4 := hz.free' 4
 have f5 := hz.free' 5
 have f6 := hz.free' 6
 have f7 := hz.free' 7
 have f8 := hz.free' 8
 have f9 := hz.free' 9
 have f10 := hz.free' 10
 have f11 := hz.free' 11
 have HTH : Hid (w1.there (w.heap.size + 1) 0 12) := hz.there
 have HBF : Hid (Below w.heap.size w (w1.setCells (w.heap.size + 1) 0 [.int .i64 0, .int .i64 0, .int .i64 0, .int .i64 0, .int .i64 0, .int .i64 0, .int .i64 0, .int .i64 0, .int .i64 0, .int .i64 0, .string ⟨#[]⟩, .slice none 0 0])) := below_cells (by omega) _ 0 _ B1
 clear hbx hz B1
 go_wp2
 have HRG := World.rangeAt_setCells_same w1 (w.heap.size + 1) 0 [.int .i64 0, .int .i64 0, .int .i64 0, .int .i64 0, .int .i64 0, .int .i64 0, .int .i64 0, .int .i64 0, .int .i64 0, .int .i64 0, .string ⟨#[]⟩, .slice none 0 0] HTH.out
 refine bodyPost_ret (results_cell_slot (p := 4) (s := 5) (ty := 37) rfl _ _ (w.heap.size + 1) [.int .i64 0, .int .i64 0, .int .i64 0, .int .i64 0, .int .i64 0, .int .i64 0, .int .i64 0, .int .i64 0, .int .i64 0, .int .i64 0, .string ⟨#[]⟩, .slice none 0 0] _ rfl HRG Tryz.underlying37 rfl HIR.out) rfl ?_
 exact ⟨none, 0, rfl, Bs.nil _, fun g _ => off_nil g _, HBF.out⟩
theorem r4up_B1 (to : Int) (r : Rec) (d : Value) (w : World) (h : Bs w d r.l) (hT : Tabs w) (hnm : r.nm.size ≤ 1048576) (hf : r.x.fit) (hs : r.small) (hc : chkR r = 0) (h1 : 1 ≤ to) (h3 : to ≤ 3) (hv : ¬ to < r.x.v) (he1 : r.x.v ≠ 1) :
  Calls Tryz.prog 93 #[rv r.x r.nm d, .int .i64 to] w fun e w' => NewT w w' (upP to r) e := by
 have HE : Hid (upP to r = (0, (⟨{ r.x with v := to }, r.nm, r.l⟩ : Rec))) := by
  show _ = _
  rw [up_good hc h1 h3 (by omega), ← liftTo_car to r hc h3 (by omega)]; unfold liftTo; rw [if_neg (fun x => he1 x.1)]
 rw [HE.out]
 have HIR : Hid ((Tryz.prog.info? 37).map (·.size) = some 12) := infoRec
 have HX : Hid (∀ o1 o2, ((w.alloc o1).alloc o2).heap[w.heap.size]? = some o1 ∧ ((w.alloc o1).alloc o2).heap[w.heap.size + 1]? = some o2 ∧ Below w.heap.size w ((w.alloc o1).alloc o2)) := fun o1 o2 => heap2 w o1 o2
 have HRC : Hid (∀ w', Below w.heap.size w w' → Calls Tryz.prog 75 #[rv r.x r.nm d] w' fun e w'' => e = .returned (.int .i64 (chkR r)) ∧ Below w'.heap.size w' w'') := fun w' hb' => refcheck_any r.x r.nm d r.l w' (h.kept hb') (hT.kept hb').rlets (hT.kept hb').rows hf.c (by omega)
 rw [hc] at HRC
 have HCL : Hid (∀ w', Below w.heap.size w w' → Calls Tryz.prog 15 #[rv r.x r.nm d] w' fun e w'' => ∃ ao', ∃ cap' : Nat, e = .returned (rv r.x r.nm (.slice ao' r.l.length cap')) ∧ Own w'.heap.size w'' (.slice ao' r.l.length cap') r.l ∧ Below w'.heap.size w' w'') := fun w' hb' => (refclone_any r.x r.nm d r.l w' (h.kept hb') (by have := hs.2; omega)).mono fun e w'' ⟨d', he, ho, hb''⟩ => by
  obtain ⟨ao', cap', rfl, _⟩ := ho.bs.shape
  exact ⟨ao', cap', he, ho, hb''⟩
 have dv : (r.x.v == 1) = false := by simp [he1]
 obtain ⟨ao, cap, rfl, _⟩ := h.shape
 clear h HE hf hc he1
 unfold rv at *
 go_enter Tryz.func93, Tryz.ntmps93
 go_wp2_with fail
 refine (HRC.out _ (HX.out _ _).2.2).mono ?_
 rintro e w1 ⟨rfl, b1⟩
 have hbx : Box w1 w.heap.size r.x r.nm (.slice ao r.l.length cap) := Box.kept (HX.out _ _).1 b1
 have hz : Box w1 (w.heap.size + 1) zeroNums ⟨#[]⟩ (.slice none 0 0) := Box.kept (HX.out _ _).2.1 b1
 have B1 := andThen (HX.out _ _).2.2 b1
 clear b1 HX HRC
 obtain ⟨c0, c1, c2, c3, c4, c5, c6, c7, c8, c9, c10, c11⟩ := hbx.cells
 go_wp2_with fail
 refine (HCL.out _ B1).mono ?_
 rintro e w2 ⟨ao2, cap2, rfl, ho2, b2⟩
 have hl1 : w.heap.size + 1 < w1.heap.size := hz.lt
 have hz2 : Box w2 (w.heap.size + 1) zeroNums ⟨#[]⟩ (.slice none 0 0) := hz.kept b2
 have B2 := andThen B1 b2
 have HO2 : Hid (Own (w.heap.size + 2) w2 (.slice ao2 r.l.length cap2) r.l) := ho2.mono (by omega)
 have hl2 : w.heap.size + 1 < w2.heap.size := hz2.lt
 clear c0 c1 c2 c3 c4 c5 c6 c7 c8 c9 c10 c11 hbx hz b2 ho2 B1 HCL hl1
 have HK : Hid (Box (w2.alloc (.cells #[.int .i64 to, .int .i64 r.x.k, .int .i64 r.x.s, .int .i64 r.x.p, .int .i64 r.x.t, .int .i64 r.x.a, .int .i64 r.x.l, .int .i64 r.x.c, .int .i64 r.x.n, .int .i64 r.x.i, .string r.nm, .slice ao2 r.l.length cap2] 37)) w2.heap.size { r.x with v := to } r.nm (.slice ao2 r.l.length cap2) ∧ Box (w2.alloc (.cells #[.int .i64 to, .int .i64 r.x.k, .int .i64 r.x.s, .int .i64 r.x.p, .int .i64 r.x.t, .int .i64 r.x.a, .int .i64 r.x.l, .int .i64 r.x.c, .int .i64 r.x.n, .int .i64 r.x.i, .string r.nm, .slice ao2 r.l.length cap2] 37)) (w.heap.size + 1) zeroNums ⟨#[]⟩ (.slice none 0 0) ∧ Below w.heap.size w (w2.alloc (.cells #[.int .i64 to, .int .i64 r.x.k, .int .i64 r.x.s, .int .i64 r.x.p, .int .i64 r.x.t, .int .i64 r.x.a, .int .i64 r.x.l, .int .i64 r.x.c, .int .i64 r.x.n, .int .i64 r.x.i, .string r.nm, .slice ao2 r.l.length cap2] 37)) ∧ Bs (w2.alloc (.cells #[.int .i64 to, .int .i64 r.x.k, .int .i64 r.x.s, .int .i64 r.x.p, .int .i64 r.x.t, .int .i64 r.x.a, .int .i64 r.x.l, .int .i64 r.x.c, .int .i64 r.x.n, .int .i64 r.x.i, .string r.nm, .slice ao2 r.l.length cap2] 37)) (.slice ao2 r.l.length cap2) r.l ∧ ∀ g, g < w.heap.size + 2 → Off g (.slice ao2 r.l.length cap2) r.l) := ⟨heap_new _ _, hz2.kept (up0 _ _), up B2 _, HO2.out.bs.alloc _, fun g hg => off_own HO2.out g hg⟩
 clear hz2 B2 HO2 hl2
 go_upto_region 12 with fail
 have HK' := HK.out
 clear HK
 generalize w2.alloc (.cells #[.int .i64 to, .int .i64 r.x.k, .int .i64 r.x.s, .int .i64 r.x.p, .int .i64 r.x.t, .int .i64 r.x.a, .int .i64 r.x.l, .int .i64 r.x.c, .int .i64 r.x.n, .int .i64 r.x.i, .string r.nm, .slice ao2 r.l.length cap2] 37) = W at HK' ⊢
 generalize w2.heap.size = g2 at HK' ⊢
 obtain ⟨hq, hz, hB, hbs, hof⟩ := HK'
 obtain ⟨c0, c1, c2, c3, c4, c5, c6, c7, c8, c9, c10, c11⟩ := hq.cells
 have q0 := hq.free' 0
 have q1 := hq.free' 1
 have q2 := hq.free' 2
 have q3 := hq.free' 3
 have q4 := hq.free' 4
 have q5 := hq.free' 5
 have q6 := hq.free' 6
 have q7 := hq.free' 7
 have q8 := hq.free' 8
 have q9 := hq.free' 9
 have q10 := hq.free' 10
 have q11 := hq.free' 11
 obtain ⟨z0, z1, z2, z3, z4, z5, z6, z7, z8, z9, z10, z11⟩ := hz.cells
 have f0 := hz.free' 0
 have f1 := hz.free' 1
 have f2 := hz.free' 2
 have f3 := hz.free' 3
 have f4 := hz.free' 4
 have f5 := hz.free' 5
 have f6 := hz.free' 6
 have f7 := hz.free' 7
 have f8 := hz.free' 8
 have f9 := hz.free' 9
 have f10 := hz.free' 10
 have f11 := hz.free' 11
 have HTH : Hid (W.there (w.heap.size + 1) 0 12) := hz.there
 have HF : Hid (Below w.heap.size w (W.setCells (w.heap.size + 1) 0 [.int .i64 to, .int .i64 r.x.k, .int .i64 r.x.s, .int .i64 r.x.p, .int .i64 r.x.t, .int .i64 r.x.a, .int .i64 r.x.l, .int .i64 r.x.c, .int .i64 r.x.n, .int .i64 r.x.i, .string r.nm, .slice ao2 r.l.length cap2]) ∧ Bs (W.setCells (w.heap.size + 1) 0 [.int .i64 to, .int .i64 r.x.k, .int .i64 r.x.s, .int .i64 r.x.p, .int .i64 r.x.t, .int .i64 r.x.a, .int .i64 r.x.l, .int .i64 r.x.c, .int .i64 r.x.n, .int .i64 r.x.i, .string r.nm, .slice ao2 r.l.length cap2]) (.slice ao2 r.l.length cap2) r.l ∧ ∀ g, g < w.heap.size → Off g (.slice ao2 r.l.length cap2) r.l) := ⟨below_cells (by omega) _ 0 _ hB, bs_off hbs _ _ _ (hof _ (by omega)), fun g hg => hof g (by omega)⟩
 clear hq hz hB hbs hof
 go_wp2
 have HRG := World.rangeAt_setCells_same W (w.heap.size + 1) 0 [.int .i64 to, .int .i64 r.x.k, .int .i64 r.x.s, .int .i64 r.x.p, .int .i64 r.x.t, .int .i64 r.x.a, .int .i64 r.x.l, .int .i64 r.x.c, .int .i64 r.x.n, .int .i64 r.x.i, .string r.nm, .slice ao2 r.l.length cap2] HTH.out
 refine bodyPost_ret (results_cell_slot (p := 4) (s := 5) (ty := 37) rfl _ _ (w.heap.size + 1) [.int .i64 to, .int .i64 r.x.k, .int .i64 r.x.s, .int .i64 r.x.p, .int .i64 r.x.t, .int .i64 r.x.a, .int .i64 r.x.l, .int .i64 r.x.c, .int .i64 r.x.n, .int .i64 r.x.i, .string r.nm, .slice ao2 r.l.length cap2] _ rfl HRG Tryz.underlying37 rfl HIR.out) rfl ?_
 exact ⟨_, _, rfl, HF.out.2.1, HF.out.2.2, HF.out.1⟩
theorem r4up_B2 (to : Int) (r : Rec) (d : Value) (w : World) (h : Bs w d r.l) (hT : Tabs w) (hnm : r.nm.size ≤ 1048576) (hf : r.x.fit) (hs : r.small) (hc : chkR r = 0) (h1 : 1 ≤ to) (h3 : to ≤ 3) (hv : ¬ to < r.x.v) (he1 : r.x.v = 1) (ht1 : ¬ 1 < to) :
  Calls Tryz.prog 93 #[rv r.x r.nm d, .int .i64 to] w fun e w' => NewT w w' (upP to r) e := by
 have HE : Hid (upP to r = (0, (⟨{ r.x with v := to }, r.nm, r.l⟩ : Rec))) := by
  show _ = _
  rw [up_good hc h1 h3 (by omega), ← liftTo_car to r hc h3 (by omega)]; unfold liftTo; rw [if_neg (fun x => ht1 x.2)]
 rw [HE.out]
 have HIR : Hid ((Tryz.prog.info? 37).map (·.size) = some 12) := infoRec
 have HX : Hid (∀ o1 o2, ((w.alloc o1).alloc o2).heap[w.heap.size]? = some o1 ∧ ((w.alloc o1).alloc o2).heap[w.heap.size + 1]? = some o2 ∧ Below w.heap.size w ((w.alloc o1).alloc o2)) := fun o1 o2 => heap2 w o1 o2
 have HRC : Hid (∀ w', Below w.heap.size w w' → Calls Tryz.prog 75 #[rv r.x r.nm d] w' fun e w'' => e = .returned (.int .i64 (chkR r)) ∧ Below w'.heap.size w' w'') := fun w' hb' => refcheck_any r.x r.nm d r.l w' (h.kept hb') (hT.kept hb').rlets (hT.kept hb').rows hf.c (by omega)
 rw [hc] at HRC
 have HCL : Hid (∀ w', Below w.heap.size w w' → Calls Tryz.prog 15 #[rv r.x r.nm d] w' fun e w'' => ∃ ao', ∃ cap' : Nat, e = .returned (rv r.x r.nm (.slice ao' r.l.length cap')) ∧ Own w'.heap.size w'' (.slice ao' r.l.length cap') r.l ∧ Below w'.heap.size w' w'') := fun w' hb' => (refclone_any r.x r.nm d r.l w' (h.kept hb') (by have := hs.2; omega)).mono fun e w'' ⟨d', he, ho, hb''⟩ => by
  obtain ⟨ao', cap', rfl, _⟩ := ho.bs.shape
  exact ⟨ao', cap', he, ho, hb''⟩
 have dv : (r.x.v == 1) = true := by simp [he1]
 obtain ⟨ao, cap, rfl, _⟩ := h.shape
 clear h HE hf hc he1
 unfold rv at *
 go_enter Tryz.func93, Tryz.ntmps93
 go_wp2_with fail
 refine (HRC.out _ (HX.out _ _).2.2).mono ?_
 rintro e w1 ⟨rfl, b1⟩
 have hbx : Box w1 w.heap.size r.x r.nm (.slice ao r.l.length cap) := Box.kept (HX.out _ _).1 b1
 have hz : Box w1 (w.heap.size + 1) zeroNums ⟨#[]⟩ (.slice none 0 0) := Box.kept (HX.out _ _).2.1 b1
 have B1 := andThen (HX.out _ _).2.2 b1
 clear b1 HX HRC
 obtain ⟨c0, c1, c2, c3, c4, c5, c6, c7, c8, c9, c10, c11⟩ := hbx.cells
 go_wp2_with fail
 refine (HCL.out _ B1).mono ?_
 rintro e w2 ⟨ao2, cap2, rfl, ho2, b2⟩
 have hl1 : w.heap.size + 1 < w1.heap.size := hz.lt
 have hz2 : Box w2 (w.heap.size + 1) zeroNums ⟨#[]⟩ (.slice none 0 0) := hz.kept b2
 have B2 := andThen B1 b2
 have HO2 : Hid (Own (w.heap.size + 2) w2 (.slice ao2 r.l.length cap2) r.l) := ho2.mono (by omega)
 have hl2 : w.heap.size + 1 < w2.heap.size := hz2.lt
 clear c0 c1 c2 c3 c4 c5 c6 c7 c8 c9 c10 c11 hbx hz b2 ho2 B1 HCL hl1
 have HK : Hid (Box (w2.alloc (.cells #[.int .i64 to, .int .i64 r.x.k, .int .i64 r.x.s, .int .i64 r.x.p, .int .i64 r.x.t, .int .i64 r.x.a, .int .i64 r.x.l, .int .i64 r.x.c, .int .i64 r.x.n, .int .i64 r.x.i, .string r.nm, .slice ao2 r.l.length cap2] 37)) w2.heap.size { r.x with v := to } r.nm (.slice ao2 r.l.length cap2) ∧ Box (w2.alloc (.cells #[.int .i64 to, .int .i64 r.x.k, .int .i64 r.x.s, .int .i64 r.x.p, .int .i64 r.x.t, .int .i64 r.x.a, .int .i64 r.x.l, .int .i64 r.x.c, .int .i64 r.x.n, .int .i64 r.x.i, .string r.nm, .slice ao2 r.l.length cap2] 37)) (w.heap.size + 1) zeroNums ⟨#[]⟩ (.slice none 0 0) ∧ Below w.heap.size w (w2.alloc (.cells #[.int .i64 to, .int .i64 r.x.k, .int .i64 r.x.s, .int .i64 r.x.p, .int .i64 r.x.t, .int .i64 r.x.a, .int .i64 r.x.l, .int .i64 r.x.c, .int .i64 r.x.n, .int .i64 r.x.i, .string r.nm, .slice ao2 r.l.length cap2] 37)) ∧ Bs (w2.alloc (.cells #[.int .i64 to, .int .i64 r.x.k, .int .i64 r.x.s, .int .i64 r.x.p, .int .i64 r.x.t, .int .i64 r.x.a, .int .i64 r.x.l, .int .i64 r.x.c, .int .i64 r.x.n, .int .i64 r.x.i, .string r.nm, .slice ao2 r.l.length cap2] 37)) (.slice ao2 r.l.length cap2) r.l ∧ ∀ g, g < w.heap.size + 2 → Off g (.slice ao2 r.l.length cap2) r.l) := ⟨heap_new _ _, hz2.kept (up0 _ _), up B2 _, HO2.out.bs.alloc _, fun g hg => off_own HO2.out g hg⟩
 clear hz2 B2 HO2 hl2
 go_upto_region 12 with fail
 have HK' := HK.out
 clear HK
 generalize w2.alloc (.cells #[.int .i64 to, .int .i64 r.x.k, .int .i64 r.x.s, .int .i64 r.x.p, .int .i64 r.x.t, .int .i64 r.x.a, .int .i64 r.x.l, .int .i64 r.x.c, .int .i64 r.x.n, .int .i64 r.x.i, .string r.nm, .slice ao2 r.l.length cap2] 37) = W at HK' ⊢
 generalize w2.heap.size = g2 at HK' ⊢
 obtain ⟨hq, hz, hB, hbs, hof⟩ := HK'
 obtain ⟨c0, c1, c2, c3, c4, c5, c6, c7, c8, c9, c10, c11⟩ := hq.cells
 have q0 := hq.free' 0
 have q1 := hq.free' 1
 have q2 := hq.free' 2
 have q3 := hq.free' 3
 have q4 := hq.free' 4
 have q5 := hq.free' 5
 have q6 := hq.free' 6
 have q7 := hq.free' 7
 have q8 := hq.free' 8
 have q9 := hq.free' 9
 have q10 := hq.free' 10
 have q11 := hq.free' 11
 obtain ⟨z0, z1, z2, z3, z4, z5, z6, z7, z8, z9, z10, z11⟩ := hz.cells
 have f0 := hz.free' 0
 have f1 := hz.free' 1
 have f2 := hz.free' 2
 have f3 := hz.free' 3
 have f4 := hz.free' 4
 have f5 := hz.free' 5
 have f6 := hz.free' 6
 have f7 := hz.free' 7
 have f8 := hz.free' 8
 have f9 := hz.free' 9
 have f10 := hz.free' 10
 have f11 := hz.free' 11
 have HTH : Hid (W.there (w.heap.size + 1) 0 12) := hz.there
 have HF : Hid (Below w.heap.size w (W.setCells (w.heap.size + 1) 0 [.int .i64 to, .int .i64 r.x.k, .int .i64 r.x.s, .int .i64 r.x.p, .int .i64 r.x.t, .int .i64 r.x.a, .int .i64 r.x.l, .int .i64 r.x.c, .int .i64 r.x.n, .int .i64 r.x.i, .string r.nm, .slice ao2 r.l.length cap2]) ∧ Bs (W.setCells (w.heap.size + 1) 0 [.int .i64 to, .int .i64 r.x.k, .int .i64 r.x.s, .int .i64 r.x.p, .int .i64 r.x.t, .int .i64 r.x.a, .int .i64 r.x.l, .int .i64 r.x.c, .int .i64 r.x.n, .int .i64 r.x.i, .string r.nm, .slice ao2 r.l.length cap2]) (.slice ao2 r.l.length cap2) r.l ∧ ∀ g, g < w.heap.size → Off g (.slice ao2 r.l.length cap2) r.l) := ⟨below_cells (by omega) _ 0 _ hB, bs_off hbs _ _ _ (hof _ (by omega)), fun g hg => hof g (by omega)⟩
 clear hq hz hB hbs hof
 go_wp2
 have HRG := World.rangeAt_setCells_same W (w.heap.size + 1) 0 [.int .i64 to, .int .i64 r.x.k, .int .i64 r.x.s, .int .i64 r.x.p, .int .i64 r.x.t, .int .i64 r.x.a, .int .i64 r.x.l, .int .i64 r.x.c, .int .i64 r.x.n, .int .i64 r.x.i, .string r.nm, .slice ao2 r.l.length cap2] HTH.out
 refine bodyPost_ret (results_cell_slot (p := 4) (s := 5) (ty := 37) rfl _ _ (w.heap.size + 1) [.int .i64 to, .int .i64 r.x.k, .int .i64 r.x.s, .int .i64 r.x.p, .int .i64 r.x.t, .int .i64 r.x.a, .int .i64 r.x.l, .int .i64 r.x.c, .int .i64 r.x.n, .int .i64 r.x.i, .string r.nm, .slice ao2 r.l.length cap2] _ rfl HRG Tryz.underlying37 rfl HIR.out) rfl ?_
 exact ⟨_, _, rfl, HF.out.2.1, HF.out.2.2, HF.out.1⟩
theorem r4up_A (to : Int) (r : Rec) (d : Value) (w : World) (h : Bs w d r.l) (hT : Tabs w) (hnm : r.nm.size ≤ 1048576) (hf : r.x.fit) (hs : r.small) (hc : chkR r = 0) (h1 : 1 ≤ to) (h3 : to ≤ 3) (hv : ¬ to < r.x.v) (he : r.x.v = 1 ∧ 1 < to) :
  Calls Tryz.prog 93 #[rv r.x r.nm d, .int .i64 to] w fun e w' => NewT w w' (upP to r) e := by
 have HE : Hid (upP to r = (0, (⟨{ (cOne r).x with v := to }, (cOne r).nm, (cOne r).l⟩ : Rec))) := by
  show _ = _
  rw [up_good hc h1 h3 (by omega), ← liftTo_car to r hc h3 (by omega)]; unfold liftTo; rw [if_pos he]
 rw [HE.out]
 have HIR : Hid ((Tryz.prog.info? 37).map (·.size) = some 12) := infoRec
 have HX : Hid (∀ o1 o2, ((w.alloc o1).alloc o2).heap[w.heap.size]? = some o1 ∧ ((w.alloc o1).alloc o2).heap[w.heap.size + 1]? = some o2 ∧ Below w.heap.size w ((w.alloc o1).alloc o2)) := fun o1 o2 => heap2 w o1 o2
 have HRC : Hid (∀ w', Below w.heap.size w w' → Calls Tryz.prog 75 #[rv r.x r.nm d] w' fun e w'' => e = .returned (.int .i64 (chkR r)) ∧ Below w'.heap.size w' w'') := fun w' hb' => refcheck_any r.x r.nm d r.l w' (h.kept hb') (hT.kept hb').rlets (hT.kept hb').rows hf.c (by omega)
 rw [hc] at HRC
 have HCL : Hid (∀ w', Below w.heap.size w w' → Calls Tryz.prog 15 #[rv r.x r.nm d] w' fun e w'' => ∃ ao', ∃ cap' : Nat, e = .returned (rv r.x r.nm (.slice ao' r.l.length cap')) ∧ Own w'.heap.size w'' (.slice ao' r.l.length cap') r.l ∧ Below w'.heap.size w' w'') := fun w' hb' => (refclone_any r.x r.nm d r.l w' (h.kept hb') (by have := hs.2; omega)).mono fun e w'' ⟨d', he, ho, hb''⟩ => by
  obtain ⟨ao', cap', rfl, _⟩ := ho.bs.shape
  exact ⟨ao', cap', he, ho, hb''⟩
 have HSE : Hid (∀ w' ao' (cap' : Nat), Bs w' (.slice ao' r.l.length cap') r.l → Calls Tryz.prog 111 #[rv r.x r.nm (.slice ao' r.l.length cap')] w' fun e w'' => NewR w' w'' (cOne r) e) := fun w' ao' cap' hb => second_any r _ w' hb (by have := hs.2; omega)
 generalize cOne r = C at *
 have dv : (r.x.v == 1) = true := by simp [he.1]
 have ht1 : 1 < to := he.2
 obtain ⟨ao, cap, rfl, _⟩ := h.shape
 clear h HE hf hc he
 unfold rv at *
 go_enter Tryz.func93, Tryz.ntmps93
 go_wp2_with fail
 refine (HRC.out _ (HX.out _ _).2.2).mono ?_
 rintro e w1 ⟨rfl, b1⟩
 have hbx : Box w1 w.heap.size r.x r.nm (.slice ao r.l.length cap) := Box.kept (HX.out _ _).1 b1
 have hz : Box w1 (w.heap.size + 1) zeroNums ⟨#[]⟩ (.slice none 0 0) := Box.kept (HX.out _ _).2.1 b1
 have B1 := andThen (HX.out _ _).2.2 b1
 clear b1 HX HRC
 obtain ⟨c0, c1, c2, c3, c4, c5, c6, c7, c8, c9, c10, c11⟩ := hbx.cells
 go_wp2_with fail
 refine (HCL.out _ B1).mono ?_
 rintro e w2 ⟨ao2, cap2, rfl, ho2, b2⟩
 have hl1 : w.heap.size + 1 < w1.heap.size := hz.lt
 have hz2 : Box w2 (w.heap.size + 1) zeroNums ⟨#[]⟩ (.slice none 0 0) := hz.kept b2
 have B2 := andThen B1 b2
 have HO2 : Hid (Own (w.heap.size + 2) w2 (.slice ao2 r.l.length cap2) r.l) := ho2.mono (by omega)
 have hl2 : w.heap.size + 1 < w2.heap.size := hz2.lt
 clear c0 c1 c2 c3 c4 c5 c6 c7 c8 c9 c10 c11 hbx hz b2 ho2 B1 HCL hl1
 have HK : Hid (Box (w2.alloc (.cells #[.int .i64 r.x.v, .int .i64 r.x.k, .int .i64 r.x.s, .int .i64 r.x.p, .int .i64 r.x.t, .int .i64 r.x.a, .int .i64 r.x.l, .int .i64 r.x.c, .int .i64 r.x.n, .int .i64 r.x.i, .string r.nm, .slice ao2 r.l.length cap2] 37)) w2.heap.size r.x r.nm (.slice ao2 r.l.length cap2) ∧ Box (w2.alloc (.cells #[.int .i64 r.x.v, .int .i64 r.x.k, .int .i64 r.x.s, .int .i64 r.x.p, .int .i64 r.x.t, .int .i64 r.x.a, .int .i64 r.x.l, .int .i64 r.x.c, .int .i64 r.x.n, .int .i64 r.x.i, .string r.nm, .slice ao2 r.l.length cap2] 37)) (w.heap.size + 1) zeroNums ⟨#[]⟩ (.slice none 0 0) ∧ Below w.heap.size w (w2.alloc (.cells #[.int .i64 r.x.v, .int .i64 r.x.k, .int .i64 r.x.s, .int .i64 r.x.p, .int .i64 r.x.t, .int .i64 r.x.a, .int .i64 r.x.l, .int .i64 r.x.c, .int .i64 r.x.n, .int .i64 r.x.i, .string r.nm, .slice ao2 r.l.length cap2] 37)) ∧ Bs (w2.alloc (.cells #[.int .i64 r.x.v, .int .i64 r.x.k, .int .i64 r.x.s, .int .i64 r.x.p, .int .i64 r.x.t, .int .i64 r.x.a, .int .i64 r.x.l, .int .i64 r.x.c, .int .i64 r.x.n, .int .i64 r.x.i, .string r.nm, .slice ao2 r.l.length cap2] 37)) (.slice ao2 r.l.length cap2) r.l ∧ (w2.alloc (.cells #[.int .i64 r.x.v, .int .i64 r.x.k, .int .i64 r.x.s, .int .i64 r.x.p, .int .i64 r.x.t, .int .i64 r.x.a, .int .i64 r.x.l, .int .i64 r.x.c, .int .i64 r.x.n, .int .i64 r.x.i, .string r.nm, .slice ao2 r.l.length cap2] 37)).heap.size = w2.heap.size + 1) := ⟨heap_new _ _, hz2.kept (up0 _ _), up B2 _, HO2.out.bs.alloc _, heap_one _ _⟩
 clear hz2 B2 HO2
 go_wp2_with fail
 refine (HSE.out _ _ _ HK.out.2.2.2.1).mono ?_
 rintro e w3 ⟨ao3, cap3, rfl, hb3, hf3, b3⟩
 unfold rv
 have hq := HK.out.1.kept b3
 have hz := HK.out.2.1.kept b3
 have HK3 : Hid (Box (w3.setCells w2.heap.size 0 [.int .i64 C.x.v, .int .i64 C.x.k, .int .i64 C.x.s, .int .i64 C.x.p, .int .i64 C.x.t, .int .i64 C.x.a, .int .i64 C.x.l, .int .i64 C.x.c, .int .i64 C.x.n, .int .i64 C.x.i, .string C.nm, .slice ao3 C.l.length cap3]) w2.heap.size C.x C.nm (.slice ao3 C.l.length cap3) ∧ Box (w3.setCells w2.heap.size 0 [.int .i64 C.x.v, .int .i64 C.x.k, .int .i64 C.x.s, .int .i64 C.x.p, .int .i64 C.x.t, .int .i64 C.x.a, .int .i64 C.x.l, .int .i64 C.x.c, .int .i64 C.x.n, .int .i64 C.x.i, .string C.nm, .slice ao3 C.l.length cap3]) (w.heap.size + 1) zeroNums ⟨#[]⟩ (.slice none 0 0) ∧ Below w.heap.size w (w3.setCells w2.heap.size 0 [.int .i64 C.x.v, .int .i64 C.x.k, .int .i64 C.x.s, .int .i64 C.x.p, .int .i64 C.x.t, .int .i64 C.x.a, .int .i64 C.x.l, .int .i64 C.x.c, .int .i64 C.x.n, .int .i64 C.x.i, .string C.nm, .slice ao3 C.l.length cap3]) ∧ Bs (w3.setCells w2.heap.size 0 [.int .i64 C.x.v, .int .i64 C.x.k, .int .i64 C.x.s, .int .i64 C.x.p, .int .i64 C.x.t, .int .i64 C.x.a, .int .i64 C.x.l, .int .i64 C.x.c, .int .i64 C.x.n, .int .i64 C.x.i, .string C.nm, .slice ao3 C.l.length cap3]) (.slice ao3 C.l.length cap3) C.l ∧ ∀ g, g ≤ w2.heap.size → Off g (.slice ao3 C.l.length cap3) C.l) := ⟨box_cells hq C.x C.nm _, box_cells_other hz _ _ (by omega), below_cells (by omega) _ 0 _ (andThen HK.out.2.2.1 b3), bs_off hb3 _ _ _ (hf3 _ (by rw [HK.out.2.2.2.2]; omega)), fun g hg => hf3 g (by rw [HK.out.2.2.2.2]; omega)⟩
 obtain ⟨c0, c1, c2, c3, c4, c5, c6, c7, c8, c9, c10, c11⟩ := hq.cells
 have f0 := hq.free' 0
 have f1 := hq.free' 1
 have f2 := hq.free' 2
 have f3 := hq.free' 3
 have f4 := hq.free' 4
 have f5 := hq.free' 5
 have f6 := hq.free' 6
 have f7 := hq.free' 7
 have f8 := hq.free' 8
 have f9 := hq.free' 9
 have f10 := hq.free' 10
 have f11 := hq.free' 11
 clear hz hq hb3 hf3 b3 HK HSE
 generalize w2.heap.size = g2 at *
 go_upto_region 11 with fail
 clear c0 c1 c2 c3 c4 c5 c6 c7 c8 c9 c10 c11 f0 f1 f2 f3 f4 f5 f6 f7 f8 f9 f10 f11
 obtain ⟨W3, hW3, hq, hz, hB, hbs, hof⟩ : ∃ W3, ((((((((((((w3.setCell ⟨g2, 0, none⟩ (.int .i64 C.x.v)).setCell ⟨g2, 1, none⟩ (.int .i64 C.x.k)).setCell ⟨g2, 2, none⟩ (.int .i64 C.x.s)).setCell ⟨g2, 3, none⟩ (.int .i64 C.x.p)).setCell ⟨g2, 4, none⟩ (.int .i64 C.x.t)).setCell ⟨g2, 5, none⟩ (.int .i64 C.x.a)).setCell ⟨g2, 6, none⟩ (.int .i64 C.x.l)).setCell ⟨g2, 7, none⟩ (.int .i64 C.x.c)).setCell ⟨g2, 8, none⟩ (.int .i64 C.x.n)).setCell ⟨g2, 9, none⟩ (.int .i64 C.x.i)).setCell ⟨g2, 10, none⟩ (.string C.nm)).setCell ⟨g2, 11, none⟩ (.slice ao3 C.l.length cap3)) = W3 ∧ Box W3 g2 C.x C.nm (.slice ao3 C.l.length cap3) ∧ Box W3 (w.heap.size + 1) zeroNums ⟨#[]⟩ (.slice none 0 0) ∧ Below w.heap.size w W3 ∧ Bs W3 (.slice ao3 C.l.length cap3) C.l ∧ ∀ g, g ≤ g2 → Off g (.slice ao3 C.l.length cap3) C.l := ⟨w3.setCells g2 0 [.int .i64 C.x.v, .int .i64 C.x.k, .int .i64 C.x.s, .int .i64 C.x.p, .int .i64 C.x.t, .int .i64 C.x.a, .int .i64 C.x.l, .int .i64 C.x.c, .int .i64 C.x.n, .int .i64 C.x.i, .string C.nm, .slice ao3 C.l.length cap3], rfl, HK3.out⟩
 rw [hW3]
 clear HK3 hW3
 have HK : Hid (Box (W3.setCell ⟨g2, 0, none⟩ (.int .i64 to)) g2 { C.x with v := to } C.nm (.slice ao3 C.l.length cap3) ∧ Box (W3.setCell ⟨g2, 0, none⟩ (.int .i64 to)) (w.heap.size + 1) zeroNums ⟨#[]⟩ (.slice none 0 0) ∧ Below w.heap.size w (W3.setCell ⟨g2, 0, none⟩ (.int .i64 to)) ∧ Bs (W3.setCell ⟨g2, 0, none⟩ (.int .i64 to)) (.slice ao3 C.l.length cap3) C.l ∧ ∀ g, g < w.heap.size + 2 → Off g (.slice ao3 C.l.length cap3) C.l) := ⟨box_v hq to, hz.set _ _ (show w.heap.size + 1 ≠ g2 by omega), Below.setCell hB (show w.heap.size ≤ g2 by omega) _, bs_set hbs _ _ (hof g2 (Nat.le_refl _)), fun g hg => hof g (by omega)⟩
 have c0 := hq.cells.1
 have f0 := hq.free' 0
 clear hq hz hB hbs hof
 go_upto_region 12 with fail
 have HK' := HK.out
 clear HK c0 f0
 generalize W3.setCell ⟨g2, 0, none⟩ (.int .i64 to) = W at HK' ⊢
 obtain ⟨hq, hz, hB, hbs, hof⟩ := HK'
 obtain ⟨c0, c1, c2, c3, c4, c5, c6, c7, c8, c9, c10, c11⟩ := hq.cells
 have q0 := hq.free' 0
 have q1 := hq.free' 1
 have q2 := hq.free' 2
 have q3 := hq.free' 3
 have q4 := hq.free' 4
 have q5 := hq.free' 5
 have q6 := hq.free' 6
 have q7 := hq.free' 7
 have q8 := hq.free' 8
 have q9 := hq.free' 9
 have q10 := hq.free' 10
 have q11 := hq.free' 11
 obtain ⟨z0, z1, z2, z3, z4, z5, z6, z7, z8, z9, z10, z11⟩ := hz.cells
 have f0 := hz.free' 0
 have f1 := hz.free' 1
 have f2 := hz.free' 2
 have f3 := hz.free' 3
 have f4 := hz.free' 4
 have f5 := hz.free' 5
 have f6 := hz.free' 6
 have f7 := hz.free' 7
 have f8 := hz.free' 8
 have f9 := hz.free' 9
 have f10 := hz.free' 10
 have f11 := hz.free' 11
 have HTH : Hid (W.there (w.heap.size + 1) 0 12) := hz.there
 have HF : Hid (Below w.heap.size w (W.setCells (w.heap.size + 1) 0 [.int .i64 to, .int .i64 C.x.k, .int .i64 C.x.s, .int .i64 C.x.p, .int .i64 C.x.t, .int .i64 C.x.a, .int .i64 C.x.l, .int .i64 C.x.c, .int .i64 C.x.n, .int .i64 C.x.i, .string C.nm, .slice ao3 C.l.length cap3]) ∧ Bs (W.setCells (w.heap.size + 1) 0 [.int .i64 to, .int .i64 C.x.k, .int .i64 C.x.s, .int .i64 C.x.p, .int .i64 C.x.t, .int .i64 C.x.a, .int .i64 C.x.l, .int .i64 C.x.c, .int .i64 C.x.n, .int .i64 C.x.i, .string C.nm, .slice ao3 C.l.length cap3]) (.slice ao3 C.l.length cap3) C.l ∧ ∀ g, g < w.heap.size → Off g (.slice ao3 C.l.length cap3) C.l) := ⟨below_cells (by omega) _ 0 _ hB, bs_off hbs _ _ _ (hof _ (by omega)), fun g hg => hof g (by omega)⟩
 clear hq hz hB hbs hof
 go_wp2
 have HRG := World.rangeAt_setCells_same W (w.heap.size + 1) 0 [.int .i64 to, .int .i64 C.x.k, .int .i64 C.x.s, .int .i64 C.x.p, .int .i64 C.x.t, .int .i64 C.x.a, .int .i64 C.x.l, .int .i64 C.x.c, .int .i64 C.x.n, .int .i64 C.x.i, .string C.nm, .slice ao3 C.l.length cap3] HTH.out
 refine bodyPost_ret (results_cell_slot (p := 4) (s := 5) (ty := 37) rfl _ _ (w.heap.size + 1) [.int .i64 to, .int .i64 C.x.k, .int .i64 C.x.s, .int .i64 C.x.p, .int .i64 C.x.t, .int .i64 C.x.a, .int .i64 C.x.l, .int .i64 C.x.c, .int .i64 C.x.n, .int .i64 C.x.i, .string C.nm, .slice ao3 C.l.length cap3] _ rfl HRG Tryz.underlying37 rfl HIR.out) rfl ?_
 exact ⟨_, _, rfl, HF.out.2.1, HF.out.2.2, HF.out.1⟩
theorem r4up_any (to : Int) (r : Rec) (d : Value) (w : World) (h : Bs w d r.l) (hT : Tabs w) (hnm : r.nm.size ≤ 1048576) (hf : r.x.fit) :
  Calls Tryz.prog 93 #[rv r.x r.nm d, .int .i64 to] w fun e w' => NewT w w' (upP to r) e := by
 by_cases hc : chkR r = 0
 ·by_cases h1 : to < 1
  ·exact r4up_e2a to r d w h hT hnm hf hc h1
  by_cases h3 : 3 < to
  ·exact r4up_e2b to r d w h hT hnm hf hc h3
  by_cases hv : to < r.x.v
  ·exact r4up_e3 to r d w h hT hnm hf hc (by omega) (by omega) hv
  have hs := small_of r hf hc
  by_cases he : r.x.v = 1
  ·by_cases ht : 1 < to
   ·exact r4up_A to r d w h hT hnm hf hs hc (by omega) (by omega) hv ⟨he, ht⟩
   ·exact r4up_B2 to r d w h hT hnm hf hs hc (by omega) (by omega) hv he ht
  ·exact r4up_B1 to r d w h hT hnm hf hs hc (by omega) (by omega) hv he
 ·exact r4up_e1 to r d w h hT hnm hf hc
end Go.Proofs.YtabdfafffjgfiaaGreatDoor
