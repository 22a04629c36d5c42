import Derived.Deep.RegionHeld3
import Derived.Test.YtpikdngccgdhiaaDoorQM9
import Derived.Test.YtpikdngccgdhiaaDoorQM4
import Derived.Test.YtpikdngccgdhiaaDoorQM5
/-
  ManifestReads: the reference's Decode.
-/
namespace Go.Proofs.YtpikdngccgdhiaaDoor
open Go Go.RowKit
open Wb

theorem nx_zero (body : List Nat) (st : Int × Nat) (base : Int) (h : (nx body st base).2.2 ≠ 0) : (nx body st base).1 = 0 := by
  unfold nx at h ⊢
  split
  · rfl
  · split
    · rfl
    · split
      · rfl
      · rename_i h1 h2 h3
        rw [if_neg h1, if_neg h2, if_neg h3] at h
        exact absurd rfl h
theorem nx_bad (body : List Nat) (p : Int) (f : Nat) (base : Int) (h : f ≠ 0) : nx body (p, f) base = (0, (p, f)) := by
  unfold nx
  rw [if_pos h]
theorem tk_ok {l : List Nat} {p base x q : Int} (h : nx l (p, 0) base = (x, (q, 0))) : tk l p base = (x, q, 0) := by
  unfold tk
  rw [h]
  rfl
theorem tk_bad {l : List Nat} {p base x q : Int} {f : Nat} (h : nx l (p, 0) base = (x, (q, f))) (hf : f ≠ 0) : tk l p base = (0, 0, f) := by
  unfold tk
  rw [h, if_pos hf]
theorem setc_other (w : World) (p : Addr) (u : Value) (g : Nat) (h : g ≠ p.block) : (w.setCell p u).heap[g]? = w.heap[g]? := by
  simp only [World.setCell, Array.getElem?_modify]
  rw [if_neg (Ne.symm h)]
set_option maxRecDepth 100000 in
set_option maxHeartbeats 8000000 in
theorem rdecode8_any (v : Value) (b : List Nat) (w : World) (hb : Bs w v b) (hl : b.length ≤ 2000000) :
    Calls Tryd.prog 20 #[v] w fun e w' => ∃ sv, e = .returned (.tuple #[mfv (decM b).1 sv, .int .i64 ((decM b).2 : Int)]) ∧ SgR w.heap.size w' sv (decM b).1.l ∧ Below w.heap.size w w' := by
  have hin := infoSg3
  have HF : Hid (∀ (er : Nat) (w' : World), decM b = (zeroM, er) → Below w.heap.size w w' → ∃ sv, Ending.returned (.tuple #[mfv zeroM (.slice none 0 0), .int .i64 (er : Int)]) = .returned (.tuple #[mfv (decM b).1 sv, .int .i64 ((decM b).2 : Int)]) ∧ SgR w.heap.size w' sv (decM b).1.l ∧ Below w.heap.size w w') := fun er w' hd hb => ⟨_, by rw [hd], by rw [hd]; exact SgR.nil _ _, hb⟩
  obtain ⟨W, hW⟩ : ∃ W, W = (w.alloc (.cells #[.int .i64 0, .int .i64 0, .int .i64 0, .int .i64 0, .slice none 0 0] 24)).alloc (.cells #[.int .i64 0, .int .i64 0, .int .i64 0, .int .i64 0, .slice none 0 0] 24) := ⟨_, rfl⟩
  have hWb : Below w.heap.size w W := by rw [hW]; exact up (up0 w _) _
  have HRF : Hid (Calls Tryd.prog 36 #[v, .int .i64 0] W fun e w' => ∃ v', e = .returned (.tuple #[v', .int .i64 (rf b 0).2.1, .int .i64 ((rf b 0).2.2 : Int)]) ∧ Own W.heap.size w' v' (rf b 0).1 ∧ Below W.heap.size W w') := rrf_any v b 0 W (hb.kept hWb) (by omega)
  have hs : W.heap.size = w.heap.size + 2 := by rw [hW, heap1, heap1]
  have HRS : Hid (∀ w', Below W.heap.size W w' → Mb w' w.heap.size zeroM (.slice none 0 0) ∧ Mb w' (w.heap.size + 1) zeroM (.slice none 0 0)) := fun w' h => by
    have h1 : Mb (w.alloc (.cells #[.int .i64 0, .int .i64 0, .int .i64 0, .int .i64 0, .slice none 0 0] 24)) w.heap.size zeroM (.slice none 0 0) := mb_new w zeroM (.slice none 0 0) 24
    have h2 : Mb ((w.alloc (.cells #[.int .i64 0, .int .i64 0, .int .i64 0, .int .i64 0, .slice none 0 0] 24)).alloc (.cells #[.int .i64 0, .int .i64 0, .int .i64 0, .int .i64 0, .slice none 0 0] 24)) (w.alloc (.cells #[.int .i64 0, .int .i64 0, .int .i64 0, .int .i64 0, .slice none 0 0] 24)).heap.size zeroM (.slice none 0 0) := mb_new (w.alloc (.cells #[.int .i64 0, .int .i64 0, .int .i64 0, .int .i64 0, .slice none 0 0] 24)) zeroM (.slice none 0 0) 24
    rw [heap1] at h2
    have h3 : Mb W w.heap.size zeroM (.slice none 0 0) := by rw [hW]; exact h1.block (alloc_old _ _ _ (by rw [heap1]; omega))
    rw [← hW] at h2
    exact ⟨h3.block (h.block _ (by omega)), h2.block (h.block _ (by omega))⟩
  have HBB : Hid (∀ w', Below W.heap.size W w' → Below w.heap.size w w') := fun w' h => andThen hWb h
  have HWE : Hid ((w.alloc (.cells #[.int .i64 0, .int .i64 0, .int .i64 0, .int .i64 0, .slice none 0 0] 24)).alloc (.cells #[.int .i64 0, .int .i64 0, .int .i64 0, .int .i64 0, .slice none 0 0] 24) = W) := hW.symm
  have hok := hb.good
  obtain ⟨ab, cb, rfl, _⟩ := hb.shape
  clear hb hW hWb hs
  rcases hrf : rf b 0 with ⟨body, en, er⟩
  rw [hrf] at HRF
  simp only at HRF
  go_enter Tryd.func20, Tryd.ntmps20
  go_upto_region 2 with fail
  rw [HWE.out]
  clear HWE
  go_wp2_with fail
  refine HRF.out.mono ?_
  rintro e w1 ⟨vb, rfl, ho, B1⟩
  clear HRF
  by_cases he : er = 0
  · subst he
    rw [show ((0 : Nat) : Int) = 0 from rfl]
    have hbl := rf_body_len b hok (by rw [hrf])
    rw [hrf] at hbl
    simp only at hbl
    obtain ⟨c0, hc0⟩ : ∃ c0, body[0]? = some c0 := ⟨body[0], List.getElem?_eq_getElem hbl.1⟩
    have hhd : body.head? = some c0 := by rw [List.head?_eq_getElem?, hc0]
    obtain ⟨gb, cbb, rfl, hcell⟩ : ∃ gb, ∃ cbb : Nat, vb = .slice (some ⟨gb, 0, none⟩) body.length cbb ∧ w1.cell? ⟨gb, 0, none⟩ = some (.int .u8 (c0 : Int)) := by
      rcases ho.shape with ⟨_, h0⟩ | ⟨gd, cd, e5, hgd, _, hlc, hcm, hcl⟩
      · rw [h0] at hbl; simp at hbl
      · refine ⟨gd, cd, e5, ?_⟩
        rw [hcl 0 hbl.1]
        rw [List.getElem?_eq_getElem hbl.1] at hc0
        rw [Option.some.inj hc0]
    have hbn : (0 : Int) < (body.length : Int) := by omega
    have hc256 : c0 < 256 := ho.good c0 (List.mem_of_getElem? hc0)
    have HDM : Hid (decM b = if en ≠ (b.length : Int) ∨ c0 ≠ 77 then (zeroM, 85) else if (prs body).2 ≠ 0 then (zeroM, (prs body).2) else if chkM (prs body).1 ≠ 0 then (zeroM, chkM (prs body).1) else ((prs body).1, 0)) := by
      show _ = _
      unfold decM
      rw [hrf]
      simp only
      rw [if_neg (by simp), hhd]
      simp
    have HBO : Hid (∀ w', Below w1.heap.size w1 w' → Bs w' (.slice (some ⟨gb, 0, none⟩) body.length cbb) body) := fun w' h => (ho.kept h).bs
    clear ho hc0 hhd hrf
    by_cases h3 : en = (b.length : Int)
    · subst h3
      by_cases h4 : c0 = 77
      · subst h4
        have HDN : Hid (decM b = if (prs body).2 ≠ 0 then (zeroM, (prs body).2) else if chkM (prs body).1 ≠ 0 then (zeroM, chkM (prs body).1) else ((prs body).1, 0)) := by
          show _ = _
          rw [HDM.out, if_neg (by simp)]
        clear HDM
        go_wp2_with fail
        refine (heads_any _ body _ (HBO.out _ (Below.refl _ _)) (by omega)).mono ?_
        rintro e w2 (⟨hs5, ⟨ch, ah, rfl, hrow⟩, b2⟩ | ⟨hs5, rfl, b2⟩)
        · have B2 := andThen B1 b2
          rcases hst : stH body 5 with ⟨p5, f5⟩
          rw [hst] at hs5
          simp only at hs5
          subst hs5
          obtain ⟨gh, rfl, HHC⟩ : ∃ gh : Nat, ah = some ⟨gh, 0, none⟩ ∧ Hid (gh < w2.heap.size ∧ ∀ w' : World, w'.heap[gh]? = w2.heap[gh]? → w'.cell? ⟨gh, 0, none⟩ = some (.int .i64 (hvH body 0)) ∧ w'.cell? ⟨gh, 1, none⟩ = some (.int .i64 (hvH body 1)) ∧ w'.cell? ⟨gh, 2, none⟩ = some (.int .i64 (hvH body 2)) ∧ w'.cell? ⟨gh, 3, none⟩ = some (.int .i64 (hvH body 3)) ∧ w'.cell? ⟨gh, 4, none⟩ = some (.int .i64 (hvH body 4))) := by
            rcases hrow.2 with ⟨e, h0⟩ | ⟨gh, cap, cur, e, hg1, hg2, rest⟩
            · simp at h0
            · simp only [Value.slice.injEq] at e
              obtain ⟨rfl, -, rfl⟩ := e
              refine ⟨gh, rfl, (Array.getElem?_eq_some_iff.1 hg2).1, fun w' hw => ?_⟩
              have hc : ∀ (j : Nat) (u : Value), (iv [hvH body 0, hvH body 1, hvH body 2, hvH body 3, hvH body 4])[j]? = some u → w'.cell? ⟨gh, j, none⟩ = some u := fun j u hj => by
                rw [World.cell?_of_block (a := ⟨gh, j, none⟩) hw]
                have h9 := World.ownsRow.cells hrow (g := gh) rfl j u hj
                rw [Addr.add_lit, Nat.zero_add] at h9
                exact h9
              exact ⟨hc 0 _ rfl, hc 1 _ rfl, hc 2 _ rfl, hc 3 _ rfl, hc 4 _ rfl⟩
          have HBO2 : Hid (∀ w', Below w2.heap.size w2 w' → Bs w' (.slice (some ⟨gb, 0, none⟩) body.length cbb) body) := fun w' h => HBO.out _ (andThen b2 h)
          clear hrow HBO hcell B1 b2
          obtain ⟨x0, x1, x2, x3, x4⟩ := HHC.out.2 w2 rfl
          go_upto_region 10 with fail
          go_region_held3 (fun w' => w'.cell? ⟨gh, 0, none⟩ = some (.int .i64 (hvH body 0)) ∧ w'.cell? ⟨gh, 1, none⟩ = some (.int .i64 (hvH body 1)) ∧ w'.cell? ⟨gh, 2, none⟩ = some (.int .i64 (hvH body 2)) ∧ w'.cell? ⟨gh, 3, none⟩ = some (.int .i64 (hvH body 3))) (go_keep) (fail)
          clear x0 x1 x2 x3 x4
          obtain ⟨C, hC⟩ : ∃ C : Nat, hvH body 4 = (C : Int) := ⟨(hvH body 4).toNat, by have := (nx_val body (stH body 4) 0 (by omega) (by omega)).1; unfold hvH; omega⟩
          have hCm : (C : Int) ≤ 9223372036854775807 := by rw [← hC]; exact (nx_val body (stH body 4) 0 (by omega) (by omega)).2
          have HPR : Hid (prs body = if (pl body C (p5, 0) 0 []).1.2 ≠ 0 then (zeroM, (pl body C (p5, 0) 0 []).1.2) else if (pl body C (p5, 0) 0 []).1.1 ≠ (body.length : Int) then (zeroM, 85) else (⟨hvH body 0, hvH body 1, hvH body 2, hvH body 3, (pl body C (p5, 0) 0 []).2⟩, 0)) := by
            show _ = _
            have e5 : n5 body = (hvH body 4, stH body 5) := rfl
            unfold prs
            rw [e5, hst, hC]
            simp only [Int.toNat_natCast]
            rfl
          rw [hC] at HHC
          obtain ⟨h0, hh0⟩ : ∃ h0, hvH body 0 = h0 := ⟨_, rfl⟩
          obtain ⟨h1, hh1⟩ : ∃ h1, hvH body 1 = h1 := ⟨_, rfl⟩
          obtain ⟨h2, hh2⟩ : ∃ h2, hvH body 2 = h2 := ⟨_, rfl⟩
          obtain ⟨hq3, hh3⟩ : ∃ h3, hvH body 3 = h3 := ⟨_, rfl⟩
          rw [hh0, hh1, hh2, hh3] at HHC HPR ⊢
          clear hh0 hh1 hh2 hh3 hst hC
          obtain ⟨W3, hW3⟩ : ∃ W3, W3 = (w2.alloc (.cells #[.int .i64 h0, .int .i64 h1, .int .i64 h2, .int .i64 hq3, .slice none 0 0] 24)).drew := ⟨_, rfl⟩
          have HM3 : Hid (Mb W3 w2.heap.size ⟨h0, h1, h2, hq3, []⟩ (.slice none 0 0) ∧ Below w2.heap.size w2 W3 ∧ w2.heap.size + 1 ≤ W3.heap.size) := by
            rw [hW3]
            exact ⟨mb_new w2 ⟨h0, h1, h2, hq3, []⟩ _ 24, Below.drew (up0 _ _), by show _ ≤ (w2.alloc _).heap.size; rw [heap1]; omega⟩
          rw [← hW3]
          clear hW3
          have HTK : Hid (∀ (w' : World) (p bef : Int), Below w2.heap.size w2 w' → 0 ≤ bef → bef ≤ 9223372036854775807 → Calls Tryd.prog 38 #[.slice (some ⟨gb, 0, none⟩) body.length cbb, .int .i64 p, .int .i64 bef] w' fun e w'' => e = .returned (.tuple #[.int .i64 (tk body p bef).1, .int .i64 (tk body p bef).2.1, .int .i64 ((tk body p bef).2.2 : Int)]) ∧ w' = w'') := fun w' p bef hb h0 h1 => take_any _ body p bef w' (HBO2.out _ hb) (by omega) h0 h1
          clear HBO2
          have HB2 : Hid (Below W.heap.size W w2) := B2
          clear B2
          go_wp2
          go_loopw [9, 11, 12] (fun a la i wr => ∃ (j : Nat) (p bef : Int) (acc : List Sg) (sv : Value), j ≤ C ∧ i = .int .i64 (j : Int) ∧ a = .int .i64 p ∧ la = .int .i64 bef ∧ 0 ≤ bef ∧ bef ≤ 9223372036854775807 ∧ (acc = [] ∨ (acc.length : Int) ≤ p ∧ p ≤ (body.length : Int)) ∧ pl body (C - j) (p, 0) bef acc = pl body C (p5, 0) 0 [] ∧ Mb wr w2.heap.size ⟨h0, h1, h2, hq3, []⟩ sv ∧ SgR (w2.heap.size + 1) wr sv acc ∧ Below w2.heap.size w2 wr ∧ w2.heap.size + 1 ≤ wr.heap.size) (fun _ _ i _ => C - (intOf i).toNat)
          case atStart => exact ⟨0, p5, 0, [], _, Nat.zero_le _, rfl, rfl, rfl, by omega, by omega, .inl rfl, rfl, HM3.out.1, SgR.nil _ _, HM3.out.2.1, HM3.out.2.2⟩
          case round =>
            obtain ⟨j, p, bef, acc, sv, hj, rfl, rfl, rfl, hb0, hb1, hacc, hpl, hmb, hsg, hbel, hms⟩ := hrel
            clear HM3
            have x4 := (HHC.out.2 wr (hbel.block _ HHC.out.1)).2.2.2.2
            have BX := andThen HB2.out hbel
            by_cases hlt : j < C
            · obtain ⟨r, hr⟩ : ∃ r, C - j = r + 1 := ⟨C - j - 1, by omega⟩
              rw [hr] at hpl
              have hjC : (j : Int) < (C : Int) := by omega
              have HX : Hid (Mb wr w2.heap.size ⟨h0, h1, h2, hq3, []⟩ sv ∧ SgR (w2.heap.size + 1) wr sv acc ∧ w2.heap.size + 1 ≤ wr.heap.size) := ⟨hmb, hsg, hms⟩
              clear hmb hsg hms
              rcases hn1 : nx body (p, 0) bef with ⟨b1, pa, fa⟩
              have hv1 := nx_val body (p, 0) bef hb0 hb1
              rw [hn1] at hv1
              simp only at hv1
              have T1 := HTK.out wr p bef hbel hb0 hb1
              by_cases hfa : fa = 0
              · subst hfa
                rw [tk_ok hn1] at T1
                have HT1 : Hid (Calls Tryd.prog 38 #[.slice (some ⟨gb, 0, none⟩) body.length cbb, .int .i64 p, .int .i64 bef] wr fun e w'' => e = .returned (.tuple #[.int .i64 b1, .int .i64 pa, .int .i64 0]) ∧ wr = w'') := T1
                clear T1
                rcases hn2 : nx body (pa, 0) 0 with ⟨b2, pb, fb⟩
                have hv2 := nx_val body (pa, 0) 0 (by omega) (by omega)
                rw [hn2] at hv2
                simp only at hv2
                have T2 := HTK.out wr pa 0 hbel (by omega) (by omega)
                by_cases hfb : fb = 0
                · subst hfb
                  rw [tk_ok hn2] at T2
                  have HT2 : Hid (Calls Tryd.prog 38 #[.slice (some ⟨gb, 0, none⟩) body.length cbb, .int .i64 pa, .int .i64 0] wr fun e w'' => e = .returned (.tuple #[.int .i64 b2, .int .i64 pb, .int .i64 0]) ∧ wr = w'') := T2
                  clear T2
                  rcases hn3 : nx body (pb, 0) 0 with ⟨b3, pc, fc⟩
                  have hv3 := nx_val body (pb, 0) 0 (by omega) (by omega)
                  rw [hn3] at hv3
                  simp only at hv3
                  have T3 := HTK.out wr pb 0 hbel (by omega) (by omega)
                  have HPL : Hid (pl body C (p5, 0) 0 [] = if fc ≠ 0 then ((pc, fc), acc) else pl body r (pc, fc) b1 (acc ++ [⟨b1, b2, b3⟩])) := by
                    show _ = _
                    rw [← hpl, pl]
                    simp only [hn1, hn2, hn3]
                  by_cases hfc : fc = 0
                  · subst hfc
                    rw [tk_ok hn3] at T3
                    have HT3 : Hid (Calls Tryd.prog 38 #[.slice (some ⟨gb, 0, none⟩) body.length cbb, .int .i64 pb, .int .i64 0] wr fun e w'' => e = .returned (.tuple #[.int .i64 b3, .int .i64 pc, .int .i64 0]) ∧ wr = w'') := T3
                    clear T3
                    have s3 := nx_step body (pb, 0) 0 (by rw [hn3])
                    have s2 := nx_step body (pa, 0) 0 (by rw [hn2])
                    have s1 := nx_step body (p, 0) bef (by rw [hn1])
                    rw [hn3] at s3
                    rw [hn2] at s2
                    rw [hn1] at s1
                    simp only at s1 s2 s3
                    have HAL : Hid ((acc.length : Int) + 1 ≤ pc ∧ pc ≤ (body.length : Int)) := by
                      rcases hacc with h | h
                      · rw [h]
                        exact ⟨by simp; omega, s3.2.1⟩
                      · exact ⟨by omega, s3.2.1⟩
                    have HPN : Hid (pl body r (pc, 0) b1 (acc ++ [⟨b1, b2, b3⟩]) = pl body C (p5, 0) 0 []) := by
                      show _ = _
                      rw [HPL.out, if_neg (by simp)]
                    have HZ : Hid (∀ o1, SgR (w2.heap.size + 1) (wr.alloc o1) sv acc ∧ w2.heap.size + 1 ≤ (wr.alloc o1).heap.size ∧ Mb (wr.alloc o1) w2.heap.size ⟨h0, h1, h2, hq3, []⟩ sv ∧ Below w2.heap.size w2 (wr.alloc o1)) := fun o1 => by
                      refine ⟨HX.out.2.1.kept (up0 _ _), ?_, HX.out.1.block (alloc_old _ _ _ (by have := HX.out.2.2; omega)), up hbel _⟩
                      have := HX.out.2.2
                      rw [heap1]
                      omega
                    have HRG : Hid (∀ t, (wr.alloc (.cells #[.int .i64 b1, .int .i64 b2, .int .i64 b3] t)).rangeAt wr.heap.size 0 (sgc ⟨b1, b2, b3⟩)) := fun t => by
                      have hh : (wr.alloc (.cells #[.int .i64 b1, .int .i64 b2, .int .i64 b3] t)).heap[wr.heap.size]? = some (.cells #[.int .i64 b1, .int .i64 b2, .int .i64 b3] t) := Array.getElem?_push_size
                      have h2 := World.rangeAt_of_block hh 0 3
                      simpa [sgc] using h2
                    have hmax : (acc.length + 1) * 24 ≤ 140737488355328 := by have := HAL.out; omega
                    have m4 := HX.out.1.cells.2.2.2.2
                    have HSV : Hid (∀ q, sv.ownBlock = some q → w2.heap.size + 1 ≤ q ∧ q < wr.heap.size) := fun q hq => World.ownsRow.lt HX.out.2.1 q hq
                    obtain ⟨asv, csv, esv⟩ : ∃ asv, ∃ csv : Nat, sv = .slice asv acc.length csv := by
                      obtain ⟨asv, csv, e, _⟩ := HX.out.2.1.at
                      exact ⟨asv, csv, e⟩
                    subst esv
                    clear HPL HPR hpl hn1 hn2 hn3 HX s1 s2 s3 hacc hv3 hv2 HTK BX
                    go_wp2_with fail
                    refine HT1.out.mono ?_
                    rintro e w' ⟨rfl, rfl⟩
                    go_wp2_with fail
                    refine HT2.out.mono ?_
                    rintro e w' ⟨rfl, rfl⟩
                    go_wp2_with fail
                    refine HT3.out.mono ?_
                    rintro e w' ⟨rfl, rfl⟩
                    clear HT1 HT2 HT3
                    go_wp2_with (at_builtin; refine wpList_append_seg _ rfl (.tmp 110) (.tmp 115) 22 rfl (w2.heap.size + 1) hin Tryd.underlying22 _ acc ⟨b1, b2, b3⟩ rfl (HZ.out _).1 wr.heap.size rfl (HRG.out _) hmax (HZ.out _).2.1 ?_)
                    intro v6 w6 hs6 g6 hat6
                    have hm6 : Mb w6 w2.heap.size ⟨h0, h1, h2, hq3, []⟩ (.slice asv acc.length csv) := (HZ.out _).2.2.1.block (g6.block _ (by have := (HZ.out (.cells #[.int .i64 b1, .int .i64 b2, .int .i64 b3] 46)).2.1; omega) (fun e => by have := (HSV.out _ e.symm).1; omega))
                    have hb6 : Below w2.heap.size w2 w6 := (HZ.out _).2.2.2.grown g6 (by have := (HZ.out (.cells #[.int .i64 b1, .int .i64 b2, .int .i64 b3] 46)).2.1; omega) (fun q hq => by have := (HSV.out q hq).1; omega)
                    have hz6 : w2.heap.size + 1 ≤ w6.heap.size := by
                      have h1 := (HZ.out (.cells #[.int .i64 b1, .int .i64 b2, .int .i64 b3] 46)).2.1
                      have h2 := g6.size
                      omega
                    have y4 := hm6.cells.2.2.2.2
                    have f4 := hm6.frozen 4
                    obtain ⟨a6, c6, e6⟩ : ∃ a6, ∃ c6 : Nat, v6 = .slice a6 (acc ++ [(⟨b1, b2, b3⟩ : Sg)]).length c6 := by
                      obtain ⟨a6, c6, e, _⟩ := hs6.at
                      exact ⟨a6, c6, e⟩
                    simp only [List.length_append, List.length_cons, List.length_nil, Nat.zero_add] at e6
                    subst e6
                    have R : Hid (Mb (w6.setCell ⟨w2.heap.size, 4, none⟩ (.slice a6 (acc.length + 1) c6)) w2.heap.size ⟨h0, h1, h2, hq3, []⟩ (.slice a6 (acc.length + 1) c6) ∧ SgR (w2.heap.size + 1) (w6.setCell ⟨w2.heap.size, 4, none⟩ (.slice a6 (acc.length + 1) c6)) (.slice a6 (acc.length + 1) c6) (acc ++ [⟨b1, b2, b3⟩]) ∧ Below w2.heap.size w2 (w6.setCell ⟨w2.heap.size, 4, none⟩ (.slice a6 (acc.length + 1) c6)) ∧ w2.heap.size + 1 ≤ (w6.setCell ⟨w2.heap.size, 4, none⟩ (.slice a6 (acc.length + 1) c6)).heap.size) := by
                      refine ⟨hm6.put4 _, hs6.block (fun q hq => setc_other _ _ _ q (fun e => ?_)), hb6.setCell (p := ⟨w2.heap.size, 4, none⟩) (Nat.le_refl _) _, ?_⟩
                      · have h1 := (World.ownsRow.lt hs6 q hq).1
                        have h2 : q = w2.heap.size := e
                        omega
                      · simp only [World.setCell, Array.size_modify]
                        exact hz6
                    clear hs6 g6 hat6 hm6 hb6 hz6 HZ HRG HSV m4 hbel
                    go_wp2
                    go_roundw
                    case rel => exact ⟨j + 1, pc, b1, _, _, by omega, by go_num, rfl, rfl, hv1.1, hv1.2, .inr ⟨by rw [List.length_append]; have := HAL.out.1; simp; omega, HAL.out.2⟩, by rw [show C - (j + 1) = r by omega]; exact HPN.out, R.out.1, R.out.2.1, R.out.2.2.1, R.out.2.2.2⟩
                    case measure => simp [intOf]; omega
                  · have hz : ¬ (fc : Int) = 0 := by omega
                    rw [tk_bad hn3 hfc] at T3
                    have HT3 : Hid (Calls Tryd.prog 38 #[.slice (some ⟨gb, 0, none⟩) body.length cbb, .int .i64 pb, .int .i64 0] wr fun e w'' => e = .returned (.tuple #[.int .i64 0, .int .i64 0, .int .i64 (fc : Int)]) ∧ wr = w'') := T3
                    have hp9 : prs body = (zeroM, fc) := by
                      rw [HPR.out, HPL.out, if_pos hfc, if_pos hfc]
                    have HF2 : Hid (∀ w', Below w.heap.size w w' → _) := fun w' => HF.out fc w' (by rw [HDN.out, hp9, if_pos hfc])
                    clear T3 hp9 HPL HPR HDN hn1 hn2 hn3 HTK hpl hacc hv1 hv2 hv3 HX hbel
                    go_wp2_with fail
                    refine HT1.out.mono ?_
                    rintro e w' ⟨rfl, rfl⟩
                    go_wp2_with fail
                    refine HT2.out.mono ?_
                    rintro e w' ⟨rfl, rfl⟩
                    go_wp2_with fail
                    refine HT3.out.mono ?_
                    rintro e w' ⟨rfl, rfl⟩
                    clear HT1 HT2 HT3
                    have hres := (HRS.out _ BX).1
                    have hnon := (HRS.out _ BX).2
                    obtain ⟨r0, r1, r2, r3, r4⟩ := hres.cells
                    obtain ⟨k0, k1, k2, k3, k4⟩ := hnon.cells
                    have z0 := hres.frozen 0
                    have z1 := hres.frozen 1
                    have z2 := hres.frozen 2
                    have z3 := hres.frozen 3
                    have z4 := hres.frozen 4
                    have HEN : Hid (Mb (store5 wr w.heap.size zeroM (.slice none 0 0)) w.heap.size zeroM (.slice none 0 0) ∧ Below w.heap.size w (store5 wr w.heap.size zeroM (.slice none 0 0))) := ⟨hres.store zeroM _, store5_below (HBB.out _ BX) (Nat.le_refl _) zeroM _⟩
                    unfold zeroM at r0 r1 r2 r3 k0 k1 k2 k3
                    simp only at r0 r1 r2 r3 k0 k1 k2 k3
                    clear hres hnon x4
                    go_wp2
                    obtain ⟨WE, hWE⟩ : ∃ WE, WE = store5 wr w.heap.size zeroM (.slice none 0 0) := ⟨_, rfl⟩
                    rw [← hWE] at HEN
                    have hWE2 : WE = (((((wr.setCell ⟨w.heap.size, 0, none⟩ (.int .i64 0)).setCell ⟨w.heap.size, 1, none⟩ (.int .i64 0)).setCell ⟨w.heap.size, 2, none⟩ (.int .i64 0)).setCell ⟨w.heap.size, 3, none⟩ (.int .i64 0)).setCell ⟨w.heap.size, 4, none⟩ (.slice none 0 0)) := hWE
                    rw [← hWE2]
                    clear hWE hWE2
                    obtain ⟨y0, y1, y2, y3, y4⟩ := HEN.out.1.cells
                    clear r0 r1 r2 r3 r4 z0 z1 z2 z3 z4 k0 k1 k2 k3 k4
                    unfold zeroM at y0 y1 y2 y3
                    simp only at y0 y1 y2 y3
                    (try simp only [Exit.inBlock, Exit.then])
                    refine bodyPost_ret (by simp [results, Tryd.results20, go_sem, y0, y1, y2, y3, y4]; try rfl) rfl ?_
                    exact HF2.out _ HEN.out.2
                · have hz : ¬ (fb : Int) = 0 := by omega
                  rw [tk_bad hn2 hfb] at T2
                  have HT2 : Hid (Calls Tryd.prog 38 #[.slice (some ⟨gb, 0, none⟩) body.length cbb, .int .i64 pa, .int .i64 0] wr fun e w'' => e = .returned (.tuple #[.int .i64 0, .int .i64 0, .int .i64 (fb : Int)]) ∧ wr = w'') := T2
                  have hp9 : prs body = (zeroM, fb) := by
                    have h9 : pl body C (p5, 0) 0 [] = ((pb, fb), acc) := by
                      rw [← hpl, pl]
                      simp only [hn1, hn2, nx_bad body pb fb 0 hfb]
                      rw [if_pos hfb]
                    rw [HPR.out, h9, if_pos hfb]
                  have HF2 : Hid (∀ w', Below w.heap.size w w' → _) := fun w' => HF.out fb w' (by rw [HDN.out, hp9, if_pos hfb])
                  clear T2 hp9 HPR HDN hn1 hn2 HTK hpl hacc hv1 hv2 HX hbel
                  go_wp2_with fail
                  refine HT1.out.mono ?_
                  rintro e w' ⟨rfl, rfl⟩
                  go_wp2_with fail
                  refine HT2.out.mono ?_
                  rintro e w' ⟨rfl, rfl⟩
                  clear HT1 HT2
                  have hres := (HRS.out _ BX).1
                  have hnon := (HRS.out _ BX).2
                  obtain ⟨r0, r1, r2, r3, r4⟩ := hres.cells
                  obtain ⟨k0, k1, k2, k3, k4⟩ := hnon.cells
                  have z0 := hres.frozen 0
                  have z1 := hres.frozen 1
                  have z2 := hres.frozen 2
                  have z3 := hres.frozen 3
                  have z4 := hres.frozen 4
                  have HEN : Hid (Mb (store5 wr w.heap.size zeroM (.slice none 0 0)) w.heap.size zeroM (.slice none 0 0) ∧ Below w.heap.size w (store5 wr w.heap.size zeroM (.slice none 0 0))) := ⟨hres.store zeroM _, store5_below (HBB.out _ BX) (Nat.le_refl _) zeroM _⟩
                  unfold zeroM at r0 r1 r2 r3 k0 k1 k2 k3
                  simp only at r0 r1 r2 r3 k0 k1 k2 k3
                  clear hres hnon x4
                  go_wp2
                  obtain ⟨WE, hWE⟩ : ∃ WE, WE = store5 wr w.heap.size zeroM (.slice none 0 0) := ⟨_, rfl⟩
                  rw [← hWE] at HEN
                  have hWE2 : WE = (((((wr.setCell ⟨w.heap.size, 0, none⟩ (.int .i64 0)).setCell ⟨w.heap.size, 1, none⟩ (.int .i64 0)).setCell ⟨w.heap.size, 2, none⟩ (.int .i64 0)).setCell ⟨w.heap.size, 3, none⟩ (.int .i64 0)).setCell ⟨w.heap.size, 4, none⟩ (.slice none 0 0)) := hWE
                  rw [← hWE2]
                  clear hWE hWE2
                  obtain ⟨y0, y1, y2, y3, y4⟩ := HEN.out.1.cells
                  clear r0 r1 r2 r3 r4 z0 z1 z2 z3 z4 k0 k1 k2 k3 k4
                  unfold zeroM at y0 y1 y2 y3
                  simp only at y0 y1 y2 y3
                  (try simp only [Exit.inBlock, Exit.then])
                  refine bodyPost_ret (by simp [results, Tryd.results20, go_sem, y0, y1, y2, y3, y4]; try rfl) rfl ?_
                  exact HF2.out _ HEN.out.2
              · have hz : ¬ (fa : Int) = 0 := by omega
                rw [tk_bad hn1 hfa] at T1
                have HT1 : Hid (Calls Tryd.prog 38 #[.slice (some ⟨gb, 0, none⟩) body.length cbb, .int .i64 p, .int .i64 bef] wr fun e w'' => e = .returned (.tuple #[.int .i64 0, .int .i64 0, .int .i64 (fa : Int)]) ∧ wr = w'') := T1
                have hp9 : prs body = (zeroM, fa) := by
                  have h9 : pl body C (p5, 0) 0 [] = ((pa, fa), acc) := by
                    rw [← hpl, pl]
                    simp only [hn1, nx_bad body pa fa 0 hfa]
                    rw [if_pos hfa]
                  rw [HPR.out, h9, if_pos hfa]
                have HF2 : Hid (∀ w', Below w.heap.size w w' → _) := fun w' => HF.out fa w' (by rw [HDN.out, hp9, if_pos hfa])
                clear T1 hp9 HPR HDN hn1 HTK hpl hacc hv1 HX hbel
                go_wp2_with fail
                refine HT1.out.mono ?_
                rintro e w' ⟨rfl, rfl⟩
                clear HT1
                have hres := (HRS.out _ BX).1
                have hnon := (HRS.out _ BX).2
                obtain ⟨r0, r1, r2, r3, r4⟩ := hres.cells
                obtain ⟨k0, k1, k2, k3, k4⟩ := hnon.cells
                have z0 := hres.frozen 0
                have z1 := hres.frozen 1
                have z2 := hres.frozen 2
                have z3 := hres.frozen 3
                have z4 := hres.frozen 4
                have HEN : Hid (Mb (store5 wr w.heap.size zeroM (.slice none 0 0)) w.heap.size zeroM (.slice none 0 0) ∧ Below w.heap.size w (store5 wr w.heap.size zeroM (.slice none 0 0))) := ⟨hres.store zeroM _, store5_below (HBB.out _ BX) (Nat.le_refl _) zeroM _⟩
                unfold zeroM at r0 r1 r2 r3 k0 k1 k2 k3
                simp only at r0 r1 r2 r3 k0 k1 k2 k3
                clear hres hnon x4
                go_wp2
                obtain ⟨WE, hWE⟩ : ∃ WE, WE = store5 wr w.heap.size zeroM (.slice none 0 0) := ⟨_, rfl⟩
                rw [← hWE] at HEN
                have hWE2 : WE = (((((wr.setCell ⟨w.heap.size, 0, none⟩ (.int .i64 0)).setCell ⟨w.heap.size, 1, none⟩ (.int .i64 0)).setCell ⟨w.heap.size, 2, none⟩ (.int .i64 0)).setCell ⟨w.heap.size, 3, none⟩ (.int .i64 0)).setCell ⟨w.heap.size, 4, none⟩ (.slice none 0 0)) := hWE
                rw [← hWE2]
                clear hWE hWE2
                obtain ⟨y0, y1, y2, y3, y4⟩ := HEN.out.1.cells
                clear r0 r1 r2 r3 r4 z0 z1 z2 z3 z4 k0 k1 k2 k3 k4
                unfold zeroM at y0 y1 y2 y3
                simp only at y0 y1 y2 y3
                (try simp only [Exit.inBlock, Exit.then])
                refine bodyPost_ret (by simp [results, Tryd.results20, go_sem, y0, y1, y2, y3, y4]; try rfl) rfl ?_
                exact HF2.out _ HEN.out.2
            · obtain rfl : j = C := by omega
              have hplE : pl body j (p5, 0) 0 [] = ((p, 0), acc) := by rw [← hpl, Nat.sub_self, pl]
              have HPS : Hid (prs body = if p ≠ (body.length : Int) then (zeroM, 85) else (⟨h0, h1, h2, hq3, acc⟩, 0)) := by
                show _ = _
                rw [HPR.out, hplE, if_neg (by simp)]
              obtain ⟨asv, csv, esv⟩ : ∃ asv, ∃ csv : Nat, sv = .slice asv acc.length csv := by
                obtain ⟨asv, csv, e, _⟩ := hsg.at
                exact ⟨asv, csv, e⟩
              subst esv
              by_cases hpb : p = (body.length : Int)
              · subst hpb
                have HDP : Hid (decM b = if chkM ⟨h0, h1, h2, hq3, acc⟩ ≠ 0 then (zeroM, chkM ⟨h0, h1, h2, hq3, acc⟩) else (⟨h0, h1, h2, hq3, acc⟩, 0)) := by
                  show _ = _
                  rw [HDN.out, HPS.out, if_neg (by simp)]
                  simp only [ne_eq, not_true_eq_false, if_false]
                have HCK : Hid (Calls Tryd.prog 14 #[.agg #[.int .i64 h0, .int .i64 h1, .int .i64 h2, .int .i64 hq3, .slice asv acc.length csv]] wr fun e w' => e = .returned (.int .i64 (chkM ⟨h0, h1, h2, hq3, acc⟩ : Int)) ∧ Below wr.heap.size wr w') := rcheck8_any ⟨h0, h1, h2, hq3, acc⟩ _ wr hsg.at
                obtain ⟨m0, m1, m2, m3, m4⟩ := hmb.cells
                simp only at m0 m1 m2 m3
                have HX : Hid (Mb wr w2.heap.size ⟨h0, h1, h2, hq3, []⟩ (.slice asv acc.length csv) ∧ SgR (w2.heap.size + 1) wr (.slice asv acc.length csv) acc ∧ w2.heap.size + 1 ≤ wr.heap.size) := ⟨hmb, hsg, hms⟩
                obtain ⟨ck, hck⟩ : ∃ ck, chkM ⟨h0, h1, h2, hq3, acc⟩ = ck := ⟨_, rfl⟩
                rw [hck] at HDP HCK
                clear hpl hplE HPS HPR HDN hmb hsg hms HTK hacc hck hlt
                go_wp2_with fail
                refine HCK.out.mono ?_
                rintro e w9 ⟨rfl, b9⟩
                have B9 := andThen BX b9
                clear x4 m0 m1 m2 m3 m4 HCK
                by_cases hc0 : ck = 0
                · subst hc0
                  rw [show ((0 : Nat) : Int) = 0 from rfl]
                  have hm9 : Mb w9 w2.heap.size ⟨h0, h1, h2, hq3, []⟩ (.slice asv acc.length csv) := HX.out.1.block (b9.block _ (by have := HX.out.2.2; omega))
                  obtain ⟨m0, m1, m2, m3, m4⟩ := hm9.cells
                  simp only at m0 m1 m2 m3
                  have hres := (HRS.out _ B9).1
                  obtain ⟨r0, r1, r2, r3, r4⟩ := hres.cells
                  have z0 := hres.frozen 0
                  have z1 := hres.frozen 1
                  have z2 := hres.frozen 2
                  have z3 := hres.frozen 3
                  have z4 := hres.frozen 4
                  have HEN : Hid (Mb (store5 w9 w.heap.size ⟨h0, h1, h2, hq3, acc⟩ (.slice asv acc.length csv)) w.heap.size ⟨h0, h1, h2, hq3, acc⟩ (.slice asv acc.length csv) ∧ Below w.heap.size w (store5 w9 w.heap.size ⟨h0, h1, h2, hq3, acc⟩ (.slice asv acc.length csv)) ∧ SgR w.heap.size (store5 w9 w.heap.size ⟨h0, h1, h2, hq3, acc⟩ (.slice asv acc.length csv)) (.slice asv acc.length csv) acc) := by
                    have hw2 : w.heap.size ≤ w2.heap.size := (HBB.out _ HB2.out).size
                    refine ⟨hres.store _ _, store5_below (HBB.out _ B9) (Nat.le_refl _) _ _, ?_⟩
                    have h9 := HX.out.2.1.kept b9
                    refine (h9.block fun q hq => store5_block _ _ _ _ q ?_).weak (by omega)
                    have := (World.ownsRow.lt h9 q hq).1
                    omega
                  unfold zeroM at r0 r1 r2 r3
                  simp only at r0 r1 r2 r3
                  clear hres hm9 HX B9 b9 BX hbel
                  go_wp2
                  obtain ⟨WE, hWE⟩ : ∃ WE, WE = store5 w9 w.heap.size ⟨h0, h1, h2, hq3, acc⟩ (.slice asv acc.length csv) := ⟨_, rfl⟩
                  rw [← hWE] at HEN
                  have hWE2 : WE = (((((w9.setCell ⟨w.heap.size, 0, none⟩ (.int .i64 h0)).setCell ⟨w.heap.size, 1, none⟩ (.int .i64 h1)).setCell ⟨w.heap.size, 2, none⟩ (.int .i64 h2)).setCell ⟨w.heap.size, 3, none⟩ (.int .i64 hq3)).setCell ⟨w.heap.size, 4, none⟩ (.slice asv acc.length csv)) := hWE
                  rw [← hWE2]
                  clear hWE hWE2
                  obtain ⟨y0, y1, y2, y3, y4⟩ := HEN.out.1.cells
                  clear r0 r1 r2 r3 r4 z0 z1 z2 z3 z4 m0 m1 m2 m3 m4
                  simp only at y0 y1 y2 y3
                  (try simp only [Exit.inBlock, Exit.then])
                  refine bodyPost_ret (by simp [results, Tryd.results20, go_sem, y0, y1, y2, y3, y4]; try rfl) rfl ?_
                  have hd : decM b = (⟨h0, h1, h2, hq3, acc⟩, 0) := by rw [HDP.out, if_neg (by simp)]
                  rw [hd]
                  exact ⟨_, rfl, HEN.out.2.2, HEN.out.2.1⟩
                · have hz : ¬ (ck : Int) = 0 := by omega
                  have HF2 : Hid (∀ w', Below w.heap.size w w' → _) := fun w' => HF.out ck w' (by rw [HDP.out, if_pos hc0])
                  clear HX HDP b9 BX hbel
                  have hres := (HRS.out _ B9).1
                  have hnon := (HRS.out _ B9).2
                  obtain ⟨r0, r1, r2, r3, r4⟩ := hres.cells
                  obtain ⟨k0, k1, k2, k3, k4⟩ := hnon.cells
                  have z0 := hres.frozen 0
                  have z1 := hres.frozen 1
                  have z2 := hres.frozen 2
                  have z3 := hres.frozen 3
                  have z4 := hres.frozen 4
                  have HEN : Hid (Mb (store5 w9 w.heap.size zeroM (.slice none 0 0)) w.heap.size zeroM (.slice none 0 0) ∧ Below w.heap.size w (store5 w9 w.heap.size zeroM (.slice none 0 0))) := ⟨hres.store zeroM _, store5_below (HBB.out _ B9) (Nat.le_refl _) zeroM _⟩
                  unfold zeroM at r0 r1 r2 r3 k0 k1 k2 k3
                  simp only at r0 r1 r2 r3 k0 k1 k2 k3
                  clear hres hnon
                  go_wp2
                  obtain ⟨WE, hWE⟩ : ∃ WE, WE = store5 w9 w.heap.size zeroM (.slice none 0 0) := ⟨_, rfl⟩
                  rw [← hWE] at HEN
                  have hWE2 : WE = (((((w9.setCell ⟨w.heap.size, 0, none⟩ (.int .i64 0)).setCell ⟨w.heap.size, 1, none⟩ (.int .i64 0)).setCell ⟨w.heap.size, 2, none⟩ (.int .i64 0)).setCell ⟨w.heap.size, 3, none⟩ (.int .i64 0)).setCell ⟨w.heap.size, 4, none⟩ (.slice none 0 0)) := hWE
                  rw [← hWE2]
                  clear hWE hWE2
                  obtain ⟨y0, y1, y2, y3, y4⟩ := HEN.out.1.cells
                  clear r0 r1 r2 r3 r4 z0 z1 z2 z3 z4 k0 k1 k2 k3 k4
                  unfold zeroM at y0 y1 y2 y3
                  simp only at y0 y1 y2 y3
                  (try simp only [Exit.inBlock, Exit.then])
                  refine bodyPost_ret (by simp [results, Tryd.results20, go_sem, y0, y1, y2, y3, y4]; try rfl) rfl ?_
                  exact HF2.out _ HEN.out.2
              · have HF2 : Hid (∀ w', Below w.heap.size w w' → _) := fun w' => HF.out 85 w' (by rw [HDN.out, HPS.out, if_pos hpb, if_pos (by simp)])
                clear hpl hplE HPS HPR HDN hmb hsg hms HTK hacc hlt hbel
                have hres := (HRS.out _ BX).1
                have hnon := (HRS.out _ BX).2
                obtain ⟨r0, r1, r2, r3, r4⟩ := hres.cells
                obtain ⟨k0, k1, k2, k3, k4⟩ := hnon.cells
                have z0 := hres.frozen 0
                have z1 := hres.frozen 1
                have z2 := hres.frozen 2
                have z3 := hres.frozen 3
                have z4 := hres.frozen 4
                have HEN : Hid (Mb (store5 wr w.heap.size zeroM (.slice none 0 0)) w.heap.size zeroM (.slice none 0 0) ∧ Below w.heap.size w (store5 wr w.heap.size zeroM (.slice none 0 0))) := ⟨hres.store zeroM _, store5_below (HBB.out _ BX) (Nat.le_refl _) zeroM _⟩
                unfold zeroM at r0 r1 r2 r3 k0 k1 k2 k3
                simp only at r0 r1 r2 r3 k0 k1 k2 k3
                clear hres hnon
                go_wp2
                obtain ⟨WE, hWE⟩ : ∃ WE, WE = store5 wr w.heap.size zeroM (.slice none 0 0) := ⟨_, rfl⟩
                rw [← hWE] at HEN
                have hWE2 : WE = (((((wr.setCell ⟨w.heap.size, 0, none⟩ (.int .i64 0)).setCell ⟨w.heap.size, 1, none⟩ (.int .i64 0)).setCell ⟨w.heap.size, 2, none⟩ (.int .i64 0)).setCell ⟨w.heap.size, 3, none⟩ (.int .i64 0)).setCell ⟨w.heap.size, 4, none⟩ (.slice none 0 0)) := hWE
                rw [← hWE2]
                clear hWE hWE2
                obtain ⟨y0, y1, y2, y3, y4⟩ := HEN.out.1.cells
                clear r0 r1 r2 r3 r4 z0 z1 z2 z3 z4 k0 k1 k2 k3 k4
                unfold zeroM at y0 y1 y2 y3
                simp only at y0 y1 y2 y3
                (try simp only [Exit.inBlock, Exit.then])
                refine bodyPost_ret (by simp [results, Tryd.results20, go_sem, y0, y1, y2, y3, y4]; try rfl) rfl ?_
                exact HF2.out _ HEN.out.2
        · rcases hst : stH body 5 with ⟨p5, f5⟩
          rw [hst] at hs5
          simp only at hs5
          have B2 := andThen B1 b2
          have hz : ¬ (f5 : Int) = 0 := by omega
          have hp9 : prs body = (zeroM, f5) := by
            have e5 : n5 body = (hvH body 4, stH body 5) := rfl
            have e6 : hvH body 4 = 0 := nx_zero body (stH body 4) 0 (by show (stH body 5).2 ≠ 0; rw [hst]; exact hs5)
            unfold prs
            rw [e5, hst, e6]
            simp [pl, hs5]
          have HF2 : Hid (∀ w', Below w.heap.size w w' → _) := fun w' => HF.out f5 w' (by rw [HDN.out, hp9, if_pos hs5])
          clear hp9 HDN b2 HBO hst hcell B1
          have hres := (HRS.out _ B2).1
          have hnon := (HRS.out _ B2).2
          obtain ⟨r0, r1, r2, r3, r4⟩ := hres.cells
          obtain ⟨k0, k1, k2, k3, k4⟩ := hnon.cells
          have z0 := hres.frozen 0
          have z1 := hres.frozen 1
          have z2 := hres.frozen 2
          have z3 := hres.frozen 3
          have z4 := hres.frozen 4
          have HEN : Hid (Mb (store5 w2 w.heap.size zeroM (.slice none 0 0)) w.heap.size zeroM (.slice none 0 0) ∧ Below w.heap.size w (store5 w2 w.heap.size zeroM (.slice none 0 0))) := ⟨hres.store zeroM _, store5_below (HBB.out _ B2) (Nat.le_refl _) zeroM _⟩
          unfold zeroM at r0 r1 r2 r3 k0 k1 k2 k3
          simp only at r0 r1 r2 r3 k0 k1 k2 k3
          clear hres hnon
          go_wp2
          obtain ⟨WE, hWE⟩ : ∃ WE, WE = store5 w2 w.heap.size zeroM (.slice none 0 0) := ⟨_, rfl⟩
          rw [← hWE] at HEN
          have hWE2 : WE = (((((w2.setCell ⟨w.heap.size, 0, none⟩ (.int .i64 0)).setCell ⟨w.heap.size, 1, none⟩ (.int .i64 0)).setCell ⟨w.heap.size, 2, none⟩ (.int .i64 0)).setCell ⟨w.heap.size, 3, none⟩ (.int .i64 0)).setCell ⟨w.heap.size, 4, none⟩ (.slice none 0 0)) := hWE
          rw [← hWE2]
          clear hWE hWE2
          obtain ⟨y0, y1, y2, y3, y4⟩ := HEN.out.1.cells
          clear r0 r1 r2 r3 r4 z0 z1 z2 z3 z4 k0 k1 k2 k3 k4
          unfold zeroM at y0 y1 y2 y3
          simp only at y0 y1 y2 y3
          (try simp only [Exit.inBlock, Exit.then])
          refine bodyPost_ret (by simp [results, Tryd.results20, go_sem, y0, y1, y2, y3, y4]; try rfl) rfl ?_
          exact HF2.out _ HEN.out.2
      · have h5 : ¬ (c0 : Int) = 77 := by omega
        have HF2 : Hid (∀ w', Below w.heap.size w w' → _) := fun w' => HF.out 85 w' (by rw [HDM.out, if_pos (.inr h4)])
        have hres := (HRS.out _ B1).1
        have hnon := (HRS.out _ B1).2
        obtain ⟨r0, r1, r2, r3, r4⟩ := hres.cells
        obtain ⟨k0, k1, k2, k3, k4⟩ := hnon.cells
        have z0 := hres.frozen 0
        have z1 := hres.frozen 1
        have z2 := hres.frozen 2
        have z3 := hres.frozen 3
        have z4 := hres.frozen 4
        have HEN : Hid (Mb (store5 w1 w.heap.size zeroM (.slice none 0 0)) w.heap.size zeroM (.slice none 0 0) ∧ Below w.heap.size w (store5 w1 w.heap.size zeroM (.slice none 0 0))) := ⟨hres.store zeroM _, store5_below (HBB.out _ B1) (Nat.le_refl _) zeroM _⟩
        unfold zeroM at r0 r1 r2 r3 k0 k1 k2 k3
        simp only at r0 r1 r2 r3 k0 k1 k2 k3
        clear hres hnon HDM HBO
        go_wp2
        obtain ⟨WE, hWE⟩ : ∃ WE, WE = store5 w1 w.heap.size zeroM (.slice none 0 0) := ⟨_, rfl⟩
        rw [← hWE] at HEN
        have hWE2 : WE = (((((w1.setCell ⟨w.heap.size, 0, none⟩ (.int .i64 0)).setCell ⟨w.heap.size, 1, none⟩ (.int .i64 0)).setCell ⟨w.heap.size, 2, none⟩ (.int .i64 0)).setCell ⟨w.heap.size, 3, none⟩ (.int .i64 0)).setCell ⟨w.heap.size, 4, none⟩ (.slice none 0 0)) := hWE
        rw [← hWE2]
        clear hWE hWE2
        obtain ⟨y0, y1, y2, y3, y4⟩ := HEN.out.1.cells
        clear r0 r1 r2 r3 r4 z0 z1 z2 z3 z4 k0 k1 k2 k3 k4
        unfold zeroM at y0 y1 y2 y3
        simp only at y0 y1 y2 y3
        (try simp only [Exit.inBlock, Exit.then])
        refine bodyPost_ret (by simp [results, Tryd.results20, go_sem, y0, y1, y2, y3, y4]; try rfl) rfl ?_
        exact HF2.out _ HEN.out.2
    · have HF2 : Hid (∀ w', Below w.heap.size w w' → _) := fun w' => HF.out 85 w' (by rw [HDM.out, if_pos (.inl h3)])
      have hres := (HRS.out _ B1).1
      have hnon := (HRS.out _ B1).2
      obtain ⟨r0, r1, r2, r3, r4⟩ := hres.cells
      obtain ⟨k0, k1, k2, k3, k4⟩ := hnon.cells
      have z0 := hres.frozen 0
      have z1 := hres.frozen 1
      have z2 := hres.frozen 2
      have z3 := hres.frozen 3
      have z4 := hres.frozen 4
      have HEN : Hid (Mb (store5 w1 w.heap.size zeroM (.slice none 0 0)) w.heap.size zeroM (.slice none 0 0) ∧ Below w.heap.size w (store5 w1 w.heap.size zeroM (.slice none 0 0))) := ⟨hres.store zeroM _, store5_below (HBB.out _ B1) (Nat.le_refl _) zeroM _⟩
      unfold zeroM at r0 r1 r2 r3 k0 k1 k2 k3
      simp only at r0 r1 r2 r3 k0 k1 k2 k3
      clear hres hnon HDM HBO
      go_wp2
      obtain ⟨WE, hWE⟩ : ∃ WE, WE = store5 w1 w.heap.size zeroM (.slice none 0 0) := ⟨_, rfl⟩
      rw [← hWE] at HEN
      have hWE2 : WE = (((((w1.setCell ⟨w.heap.size, 0, none⟩ (.int .i64 0)).setCell ⟨w.heap.size, 1, none⟩ (.int .i64 0)).setCell ⟨w.heap.size, 2, none⟩ (.int .i64 0)).setCell ⟨w.heap.size, 3, none⟩ (.int .i64 0)).setCell ⟨w.heap.size, 4, none⟩ (.slice none 0 0)) := hWE
      rw [← hWE2]
      clear hWE hWE2
      obtain ⟨y0, y1, y2, y3, y4⟩ := HEN.out.1.cells
      clear r0 r1 r2 r3 r4 z0 z1 z2 z3 z4 k0 k1 k2 k3 k4
      unfold zeroM at y0 y1 y2 y3
      simp only at y0 y1 y2 y3
      (try simp only [Exit.inBlock, Exit.then])
      refine bodyPost_ret (by simp [results, Tryd.results20, go_sem, y0, y1, y2, y3, y4]; try rfl) rfl ?_
      exact HF2.out _ HEN.out.2
  · have hz : ¬ (er : Int) = 0 := by omega
    have HF2 : Hid (∀ w', Below w.heap.size w w' → _) := fun w' => HF.out er w' (by
      unfold decM
      rw [hrf]
      simp only
      rw [if_pos he])
    obtain ⟨ab1, n1, cb1, e1⟩ := own_slice ho
    subst e1
    have hres := (HRS.out _ B1).1
    have hnon := (HRS.out _ B1).2
    obtain ⟨r0, r1, r2, r3, r4⟩ := hres.cells
    obtain ⟨k0, k1, k2, k3, k4⟩ := hnon.cells
    have z0 := hres.frozen 0
    have z1 := hres.frozen 1
    have z2 := hres.frozen 2
    have z3 := hres.frozen 3
    have z4 := hres.frozen 4
    have HEN : Hid (Mb (store5 w1 w.heap.size zeroM (.slice none 0 0)) w.heap.size zeroM (.slice none 0 0) ∧ Below w.heap.size w (store5 w1 w.heap.size zeroM (.slice none 0 0))) := ⟨hres.store zeroM _, store5_below (HBB.out _ B1) (Nat.le_refl _) zeroM _⟩
    unfold zeroM at r0 r1 r2 r3 k0 k1 k2 k3
    simp only at r0 r1 r2 r3 k0 k1 k2 k3
    clear hres hnon ho hrf
    go_wp2
    obtain ⟨WE, hWE⟩ : ∃ WE, WE = store5 w1 w.heap.size zeroM (.slice none 0 0) := ⟨_, rfl⟩
    rw [← hWE] at HEN
    have hWE2 : WE = (((((w1.setCell ⟨w.heap.size, 0, none⟩ (.int .i64 0)).setCell ⟨w.heap.size, 1, none⟩ (.int .i64 0)).setCell ⟨w.heap.size, 2, none⟩ (.int .i64 0)).setCell ⟨w.heap.size, 3, none⟩ (.int .i64 0)).setCell ⟨w.heap.size, 4, none⟩ (.slice none 0 0)) := hWE
    rw [← hWE2]
    clear hWE hWE2
    obtain ⟨y0, y1, y2, y3, y4⟩ := HEN.out.1.cells
    clear r0 r1 r2 r3 r4 z0 z1 z2 z3 z4 k0 k1 k2 k3 k4
    unfold zeroM at y0 y1 y2 y3
    simp only at y0 y1 y2 y3
    (try simp only [Exit.inBlock, Exit.then])
    refine bodyPost_ret (by simp [results, Tryd.results20, go_sem, y0, y1, y2, y3, y4]; try rfl) rfl ?_
    exact HF2.out _ HEN.out.2
end Go.Proofs.YtpikdngccgdhiaaDoor
