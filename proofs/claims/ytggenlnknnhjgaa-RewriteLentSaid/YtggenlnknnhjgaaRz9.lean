/-
  RewriteSplits: the walk.
-/
import Derived.Test.YtggenlnknnhjgaaRz8
namespace Go.Proofs.Ytggenlnknnhjgaa
open Go Go.RowKit Go.ChangeShapes
open Wb
open Cb
/-- what the law asks of its records -/
structure LSm (rs : List Rec) : Prop where
  each : ∀ r ∈ rs, r.x.fit ∧ r.l.length ≤ 5000000
  few : rs.length ≤ 1048576
theorem LSm.big {rs : List Rec} (h : LSm rs) : LBig rs := ⟨fun r hr => ⟨(h.each r hr).1, by have := (h.each r hr).2; omega⟩, h.few⟩
theorem ps_fst {ps : List (Rec × Value)} {l : List Rec} (h : ps.map Prod.fst = l) {P : Rec → Prop} (hl : ∀ r ∈ l, P r) : ∀ p ∈ ps, P p.1 := fun p hp => hl p.1 (h ▸ List.mem_map_of_mem hp)
theorem live_sub {rs : List Rec} : ∀ r ∈ Rz.live rs rs, r ∈ rs := fun _ h => (List.mem_filter.1 h).1
theorem dead_sub {rs : List Rec} : ∀ r ∈ Rz.dead rs rs, r ∈ rs := fun _ h => (List.mem_filter.1 h).1
theorem live_len (rs : List Rec) : (Rz.live rs rs).length ≤ rs.length := List.length_filter_le _ _
theorem dead_len (rs : List Rec) : (Rz.dead rs rs).length ≤ rs.length := List.length_filter_le _ _
/-- the marks behind a put -/
def PutPost (B : Nat) (wL _w : World) (g : Nat) (n : Nat) (m : Nat) (xs : List RL) (e : Ending) (w' : World) : Prop := e = .returned (.tuple #[]) ∧ ∃ C' V' l' f', ∃ lh fh, SX B wL w' C' g V' l' f' lh fh xs ∧ l'.length = n ∧ f'.length = m ∧ Below B wL w'
theorem mkput_sx {B g : Nat} {wL w : World} {C : Nat → Option Cl} {V : List Value} {l f : List En} {lh fh : List (Value × Nat)} {ys zs : List RL} {v : Value} {ps : List (Rec × Value)} (h : SX B wL w C g V l f lh fh (ys ++ (v, ps) :: zs)) (s : Int) (hn : ps.length ≤ 1048576) (hd : ∀ p ∈ ps, p.1.l.length ≤ 5000000) (hl : l.length ≤ 3145728) (hf : f.length ≤ 1000) {n : Nat} (hnn : n = l.length + ps.length) :
    Calls Try.prog 9 #[.pointer (some ⟨g, 0, none⟩), v, .int .i64 s] w (PutPost B wL w g n (f.length + 1) (ys ++ zs)) := by
  have hm : (v, ps) ∈ ys ++ (v, ps) :: zs := List.mem_append_right _ List.mem_cons_self
  refine (mkput_any B g C V l f lh fh v ps s w h.bk (h.rw _ hm) (by omega) hd (by omega) (by omega) (h.ou _ hm) h.lo).mono ?_
  rintro e w' ⟨rfl, C', V', l', hbk, hl', hst⟩
  have h9 := h.drop hst hbk
  exact ⟨rfl, C', V', _, _, _, _, h9, by rw [List.length_append, hl', hnn], by rw [List.length_append]; rfl, h9.be⟩
theorem mkgrow_sx {B g : Nat} {wL w : World} {C : Nat → Option Cl} {V : List Value} {l f : List En} {lh fh : List (Value × Nat)} {xs : List RL} (h : SX B wL w C g V l f lh fh xs) (hl : l.length ≤ 10000000) (hf : f.length ≤ 10000000) :
    Calls Try.prog 10 #[.pointer (some ⟨g, 0, none⟩)] w (PutPost B wL w g l.length f.length xs) := by
  refine (mkgrow_any B g C V l f lh fh w h.bk hl hf h.lo).mono ?_
  rintro e w' ⟨rfl, C', V', lh', fh', hbk, -, -, hst⟩
  have h9 := h.st hst hbk (fun _ _ _ _ e => e) (fun _ e => e.elim)
  exact ⟨rfl, C', V', _, _, _, _, h9, rfl, rfl, h9.be⟩
theorem mkhold_sx {B g : Nat} {wL w : World} {C : Nat → Option Cl} {V : List Value} {l f : List En} {lh fh : List (Value × Nat)} {xs : List RL} (h : SX B wL w C g V l f lh fh xs) (hl : l.length ≤ 10000000) (hf : f.length ≤ 10000000) :
    Calls Try.prog 11 #[.pointer (some ⟨g, 0, none⟩)] w fun e w' => e = .returned (.bool true) ∧ ∃ C' V' lh' fh', SX B wL w' C' g V' l f lh' fh' xs ∧ Below B wL w' := by
  refine (mkhold_any B g C V l f lh fh w h.bk hl hf h.lo).mono ?_
  rintro e w' ⟨rfl, C', V', lh', fh', hbk, -, -, hst⟩
  have h9 := h.st hst hbk (fun _ _ _ _ e => e) (fun _ e => e.elim)
  exact ⟨rfl, C', V', _, _, h9, h9.be⟩
set_option maxRecDepth 100000 in
set_option maxHeartbeats 16000000 in
theorem rewriteSplits_walk (v : Value) (rs : List Rec) (w : World) (h : RecsAt w v rs) (hg : LSm rs) :
    Calls Try.prog 3 #[v] w fun e w' => e = .returned (.bool true) ∧ Below w.heap.size w w' := by
  have hfew := hg.few
  have HG : Hid (LSm rs) := hg
  have HRS : Hid (∀ w', Below w.heap.size w w' → RecsAt w' v rs) := fun w' hb => h.kept hb
  obtain ⟨ao, cap, rfl, hm, _⟩ := h
  unfold maxLen at hm
  clear hg
  -- the first call: one record that ends
  have HS1 : Hid (Calls Try.prog 5 #[.slice (some ⟨w.heap.size + 1, 0, none⟩) 1 1] ((w.alloc (.cells #[.int .i64 1, .int .i64 7, .int .i64 1, .int .i64 0, .int .i64 0, .int .i64 0, .int .i64 0, .int .i64 0, .int .i64 0, .int .i64 0, .string ⟨#[]⟩, .slice none 0 0] 25)).alloc (.cells #[.int .i64 1, .int .i64 7, .int .i64 1, .int .i64 0, .int .i64 0, .int .i64 0, .int .i64 0, .int .i64 0, .int .i64 0, .int .i64 0, .string ⟨#[]⟩, .slice none 0 0] 25)) fun e w' => ∃ a1 a2, ∃ c1 c2 : Nat, e = .returned (.tuple #[.slice a1 0 c1, .slice a2 1 c2]) ∧ Below w.heap.size w w') := by
    refine (rwsplit_any _ [eR] _ ⟨_, _, rfl, by simp [maxLen], fun k r hr => ?_⟩ ⟨fun r hr => ?_, by decide⟩).mono ?_
    · have hk : k = 0 := by
        have := (List.getElem?_eq_some_iff.1 hr).1
        simp at this
        omega
      subst hk
      obtain rfl : eR = r := by simpa using hr
      exact ⟨_, 0, .slice none 0 0, rfl, new_range2 w _ #[.int .i64 1, .int .i64 7, .int .i64 1, .int .i64 0, .int .i64 0, .int .i64 0, .int .i64 0, .int .i64 0, .int .i64 0, .int .i64 0, .string ⟨#[]⟩, .slice none 0 0], Bs.nil _⟩
    · obtain rfl := List.mem_singleton.1 hr
      exact ⟨eR_fit, by decide⟩
    · rintro e w' h9
      obtain ⟨a1, a2, c1, c2, ps1, ps2, rfl, -, -, -, hb⟩ := sp_post h9
      rw [eR_live, eR_dead]
      exact ⟨a1, a2, c1, c2, rfl, (up (up0 _ _) _).trans (hb.mono (by rw [heap_one, heap_one]; omega))⟩
  have HE1 : Hid ((w.alloc (.cells #[.int .i64 1, .int .i64 7, .int .i64 1, .int .i64 0, .int .i64 0, .int .i64 0, .int .i64 0, .int .i64 0, .int .i64 0, .int .i64 0, .string ⟨#[]⟩, .slice none 0 0] 25)).rangeAt w.heap.size 0 [.int .i64 1, .int .i64 7, .int .i64 1, .int .i64 0, .int .i64 0, .int .i64 0, .int .i64 0, .int .i64 0, .int .i64 0, .int .i64 0, .string ⟨#[]⟩, .slice none 0 0]) := new_range w #[.int .i64 1, .int .i64 7, .int .i64 1, .int .i64 0, .int .i64 0, .int .i64 0, .int .i64 0, .int .i64 0, .int .i64 0, .int .i64 0, .string ⟨#[]⟩, .slice none 0 0]
  have HIR : Hid ((Try.prog.info? 25).map (·.size) = some 12) := infoRec
  go_enter Try.func3, Try.ntmps3
  go_wp2_with (refine wpList_load_mid rfl 25 _ rfl w.heap.size 0 rfl [.int .i64 1, .int .i64 7, .int .i64 1, .int .i64 0, .int .i64 0, .int .i64 0, .int .i64 0, .int .i64 0, .int .i64 0, .int .i64 0, .string ⟨#[]⟩, .slice none 0 0] _ HE1.out Try.underlying25 rfl HIR.out ?_)
  refine HS1.out.mono ?_
  rintro e w1 ⟨n1, n2, k1, k2, rfl, b1⟩
  have HB1 : Hid (Below w.heap.size w w1) := b1
  have HL1 : Hid (Calls Try.prog 6 #[.slice ao rs.length cap] w1 fun e w' => ∃ ag al, ∃ cg cl : Nat, ∃ ps qs, e = .returned (.tuple #[.slice ag rs.length cg, .slice al rs.length cl]) ∧ Laid w1.heap.size w' (.slice ag rs.length cg) (.slice al rs.length cl) ps qs ∧ ps.map Prod.fst = rs ∧ qs.map Prod.fst = rs.map (fun r => r.l ++ m91) ∧ Below w1.heap.size w1 w') := by
    refine (rwlaid_any _ rs w1 (HRS.out _ b1) HG.out.big (fun r hr => by have := (HG.out.each r hr).2; omega)).mono ?_
    rintro e w' ⟨m, u, ps, qs, rfl, hL, h1, h2, hb⟩
    obtain ⟨ag, cg, e1, -⟩ := hL.recs.shape
    have hp : ps.length = rs.length := by rw [← h1, List.length_map]
    have hq : qs.length = rs.length := by
      have := congrArg List.length h2
      rw [List.length_map, List.length_map] at this
      exact this
    obtain ⟨al, cl, e2, -⟩ := Mg.row_shape hL.rows.1
    rw [hp] at e1
    rw [hq] at e2
    subst e1 e2
    exact ⟨ag, al, cg, cl, ps, qs, rfl, hL, h1, h2, hb⟩
  clear b1 HS1 HE1
  go_wp2_with fail
  refine HL1.out.mono ?_
  rintro e wL ⟨ag, al, cg, cl, psg, qs, rfl, hL, hpg, hqs, bL⟩
  -- what stands from here on
  have HLR : Hid ((∀ W, Below wL.heap.size wL W → RecsAt W (.slice ag rs.length cg) rs) ∧ (∀ W, Below wL.heap.size wL W → Ps W (.slice al rs.length cl) (rs.map (fun r => r.l ++ m91))) ∧ (∀ W, Below wL.heap.size wL W → RecsAt W (.slice ao rs.length cap) rs) ∧ Below w.heap.size w wL ∧ ∀ W, Below wL.heap.size wL W → Below w.heap.size w W) := by
    have hb := andThen HB1.out bL
    refine ⟨fun W hW => ?_, fun W hW => ?_, fun W hW => HRS.out _ (andThen hb hW), hb, fun W hW => andThen hb hW⟩
    · have := (hL.recs.kept hW).recsAt
      rw [hpg] at this
      exact this
    · have := (hL.rows.kept hW).ps
      rw [hqs] at this
      exact this
  have HSP : Hid (∀ W, Below wL.heap.size wL W → Calls Try.prog 5 #[.slice ag rs.length cg] W (SpPost (Rz.live rs rs) (Rz.dead rs rs) W)) := fun W hW => (rwsplit_any _ rs W (HLR.out.1 W hW) HG.out.big).mono fun e w' h9 => sp_post h9
  have HRP : Hid (∀ W, Below wL.heap.size wL W → Calls Try.prog 7 #[.slice ao rs.length cap] W (SpPost (Rz.live rs rs) (Rz.dead rs rs) W)) := fun W hW => (r12split_any _ rs W (HLR.out.2.2.1 W hW) HG.out.big).mono fun e w' h9 => sp_post h9
  have HSG : Hid (∀ W, Below wL.heap.size wL W → Calls Try.prog 8 #[.slice ag rs.length cg, .slice ao rs.length cap] W fun e w' => e = .returned (.bool true) ∧ Below W.heap.size W w') := fun W hW => sameAll3_ok _ _ rs W (HLR.out.1 W hW) (HLR.out.2.2.1 W hW)
  obtain ⟨nl, hnl⟩ : ∃ nl, nl = Rz.live rs rs := ⟨_, rfl⟩
  obtain ⟨nd, hnd⟩ : ∃ nd, nd = Rz.dead rs rs := ⟨_, rfl⟩
  rw [← hnl, ← hnd] at HSP HRP
  have HN : Hid ((∀ r ∈ nl, r.l.length ≤ 5000000) ∧ (∀ r ∈ nd, r.l.length ≤ 5000000) ∧ nl.length ≤ 1048576 ∧ nd.length ≤ 1048576) := by
    rw [hnl, hnd]
    exact ⟨fun r hr => (HG.out.each r (live_sub r hr)).2, fun r hr => (HG.out.each r (dead_sub r hr)).2, Nat.le_trans (live_len rs) hfew, Nat.le_trans (dead_len rs) hfew⟩
  have HSP1 := HSP.out wL (Below.refl _ _)
  clear hL hpg hqs bL HB1 HRS HL1 hnl hnd
  go_wp2_with fail
  refine HSP1.mono ?_
  rintro e wC ⟨aa, ab, ca, cb, psa, psb, rfl, tw1, fa, fb, bC⟩
  have X1 := (XS.nil wL).two tw1 bC
  have HRP1 := HRP.out wC X1.be
  have HX1 : Hid (XS wL.heap.size wL wC [(.slice aa nl.length ca, psa), (.slice ab nd.length cb, psb)] ∧ psa.map Prod.fst = nl ∧ psb.map Prod.fst = nd) := ⟨X1, fa, fb⟩
  clear tw1 fa fb bC X1 HSP1
  go_wp2_with fail
  refine HRP1.mono ?_
  rintro e wD ⟨al2, ad, cl2, cd, psl, psd, rfl, tw2, fl, fd, bD⟩
  have X2 := HX1.out.1.two tw2 bD
  have HX2 : Hid (XS wL.heap.size wL wD [(.slice al2 nl.length cl2, psl), (.slice ad nd.length cd, psd), (.slice aa nl.length ca, psa), (.slice ab nd.length cb, psb)] ∧ psa.map Prod.fst = nl ∧ psb.map Prod.fst = nd ∧ psl.map Prod.fst = nl ∧ psd.map Prod.fst = nd) := ⟨X2, HX1.out.2.1, HX1.out.2.2, fl, fd⟩
  clear tw2 fl fd bD X2 HX1 HRP1 HRP
  have HC1 : Hid (Calls Try.prog 8 #[.slice aa nl.length ca, .slice al2 nl.length cl2] wD fun e w' => e = .returned (.bool true) ∧ Below wD.heap.size wD w') := by
    have h1 := (HX2.out.1.rw (.slice aa nl.length ca, psa) (by simp)).recsAt
    have h2 := (HX2.out.1.rw (.slice al2 nl.length cl2, psl) (by simp)).recsAt
    rw [HX2.out.2.1] at h1
    rw [HX2.out.2.2.2.1] at h2
    exact sameAll3_ok _ _ nl wD h1 h2
  have HC2 : Hid (∀ W, Below wD.heap.size wD W → Calls Try.prog 8 #[.slice ab nd.length cb, .slice ad nd.length cd] W fun e w' => e = .returned (.bool true) ∧ Below W.heap.size W w') := fun W hW => by
    have h1 := ((HX2.out.1.kept hW).rw (.slice ab nd.length cb, psb) (by simp)).recsAt
    have h2 := ((HX2.out.1.kept hW).rw (.slice ad nd.length cd, psd) (by simp)).recsAt
    rw [HX2.out.2.2.1] at h1
    rw [HX2.out.2.2.2.2] at h2
    exact sameAll3_ok _ _ nd W h1 h2
  go_wp2_with fail
  refine HC1.out.mono ?_
  rintro e w3 ⟨rfl, b3⟩
  have HB3 : Hid (Below wD.heap.size wD w3) := b3
  have HC2' := HC2.out w3 b3
  clear b3 HC1
  go_wp2_with fail
  refine HC2'.mono ?_
  rintro e w4 ⟨rfl, b4⟩
  have HB4 : Hid (Below wD.heap.size wD w4) := andThen HB3.out b4
  have HC3 := HSG.out w4 (HX2.out.1.be.trans (HB4.out.mono HX2.out.1.lo))
  clear b4 HC2' HC2 HB3
  go_wp2_with fail
  refine HC3.mono ?_
  rintro e w5 ⟨rfl, b5⟩
  have X5 := SX.start (HX2.out.1.kept (andThen HB4.out b5))
  have HX5 : Hid (SX wL.heap.size wL (w5.alloc (.cells #[.slice none 0 0, .slice none 0 0, .slice none 0 0, .slice none 0 0, .slice none 0 0, .slice none 0 0] 37)) (fun _ => none) w5.heap.size [.slice none 0 0, .slice none 0 0, .slice none 0 0, .slice none 0 0, .slice none 0 0, .slice none 0 0] [] [] [] [] [(.slice al2 nl.length cl2, psl), (.slice ad nd.length cd, psd), (.slice aa nl.length ca, psa), (.slice ab nd.length cb, psb)]) := X5
  have HF : Hid (psa.map Prod.fst = nl ∧ psb.map Prod.fst = nd ∧ psl.map Prod.fst = nl ∧ psd.map Prod.fst = nd ∧ psa.length = nl.length ∧ psb.length = nd.length) := ⟨HX2.out.2.1, HX2.out.2.2.1, HX2.out.2.2.2.1, HX2.out.2.2.2.2, by rw [← HX2.out.2.1, List.length_map], by rw [← HX2.out.2.2.1, List.length_map]⟩
  have HP1 : Hid (Calls Try.prog 9 #[.pointer (some ⟨w5.heap.size, 0, none⟩), .slice aa nl.length ca, .int .i64 (-7)] (w5.alloc (.cells #[.slice none 0 0, .slice none 0 0, .slice none 0 0, .slice none 0 0, .slice none 0 0, .slice none 0 0] 37)) (PutPost wL.heap.size wL (w5.alloc (.cells #[.slice none 0 0, .slice none 0 0, .slice none 0 0, .slice none 0 0, .slice none 0 0, .slice none 0 0] 37)) w5.heap.size nl.length 1 [(.slice al2 nl.length cl2, psl), (.slice ad nd.length cd, psd), (.slice ab nd.length cb, psb)])) := mkput_sx (ys := [(.slice al2 nl.length cl2, psl), (.slice ad nd.length cd, psd)]) HX5.out (-7) (by rw [HF.out.2.2.2.2.1]; exact HN.out.2.2.1) (ps_fst (P := fun r => r.l.length ≤ 5000000) HF.out.1 HN.out.1) (by decide) (by decide) (by rw [HF.out.2.2.2.2.1]; simp)
  clear b5 HC3 X5 HB4 HX2
  go_wp2_with fail
  refine HP1.out.mono ?_
  rintro e w6 ⟨rfl, C6, V6, l6, f6, lh6, fh6, X6, q6, r6, b6⟩
  obtain ⟨G, hG⟩ : ∃ G, G = w5.heap.size := ⟨_, rfl⟩
  rw [← hG] at X6 ⊢
  have HP2 : Hid (Calls Try.prog 9 #[.pointer (some ⟨G, 0, none⟩), .slice ab nd.length cb, .int .i64 (-8)] w6 (PutPost wL.heap.size wL w6 G (nl.length + nd.length) 2 [(.slice al2 nl.length cl2, psl), (.slice ad nd.length cd, psd)])) := by
    have h9 := mkput_sx (ys := [(.slice al2 nl.length cl2, psl), (.slice ad nd.length cd, psd)]) (zs := []) X6 (-8) (by rw [HF.out.2.2.2.2.2]; exact HN.out.2.2.2) (ps_fst (P := fun r => r.l.length ≤ 5000000) HF.out.2.1 HN.out.2.1) (by have := HN.out.2.2.1; omega) (by omega) (n := nl.length + nd.length) (by rw [q6, HF.out.2.2.2.2.2])
    rw [r6] at h9
    exact h9
  clear X6 q6 r6 b6 HP1 HX5 hG
  go_wp2_with fail
  refine HP2.out.mono ?_
  rintro e w7 ⟨rfl, C7, V7, l7, f7, lh7, fh7, X7, q7, r7, b7⟩
  have HP3 : Hid (Calls Try.prog 10 #[.pointer (some ⟨G, 0, none⟩)] w7 (PutPost wL.heap.size wL w7 G (nl.length + nd.length) 2 [(.slice al2 nl.length cl2, psl), (.slice ad nd.length cd, psd)])) := by
    have h9 := mkgrow_sx X7 (by have := HN.out.2.2; omega) (by omega)
    rw [q7, r7] at h9
    exact h9
  clear X7 q7 r7 b7 HP2
  go_wp2_with fail
  refine HP3.out.mono ?_
  rintro e w8 ⟨rfl, C8, V8, l8, f8, lh8, fh8, X8, q8, r8, b8⟩
  have HX8 : Hid (SX wL.heap.size wL w8 C8 G V8 l8 f8 lh8 fh8 [(.slice al2 nl.length cl2, psl), (.slice ad nd.length cd, psd)] ∧ l8.length = nl.length + nd.length ∧ f8.length = 2) := ⟨X8, q8, r8⟩
  have HSP2 := HSP.out w8 b8
  clear X8 q8 r8 b8 HP3
  go_wp2_with fail
  refine HSP2.mono ?_
  rintro e w9 ⟨af, ah, cf, ch, psf, psh, rfl, tw9, ff, fh9, b9⟩
  have X9 := HX8.out.1.two tw9 b9
  have HX9 : Hid (SX wL.heap.size wL w9 C8 G V8 l8 f8 lh8 fh8 [(.slice af nl.length cf, psf), (.slice ah nd.length ch, psh), (.slice al2 nl.length cl2, psl), (.slice ad nd.length cd, psd)] ∧ l8.length = nl.length + nd.length ∧ f8.length = 2 ∧ psf.map Prod.fst = nl ∧ psh.map Prod.fst = nd) := ⟨X9, HX8.out.2.1, HX8.out.2.2, ff, fh9⟩
  clear tw9 ff fh9 b9 X9 HX8 HSP2 HSP
  have HD1 : Hid (Calls Try.prog 8 #[.slice af nl.length cf, .slice al2 nl.length cl2] w9 fun e w' => e = .returned (.bool true) ∧ Below w9.heap.size w9 w') := by
    have h1 := (HX9.out.1.rw (.slice af nl.length cf, psf) (by simp)).recsAt
    have h2 := (HX9.out.1.rw (.slice al2 nl.length cl2, psl) (by simp)).recsAt
    rw [HX9.out.2.2.2.1] at h1
    rw [HF.out.2.2.1] at h2
    exact sameAll3_ok _ _ nl w9 h1 h2
  have HD2 : Hid (∀ W, Below w9.heap.size w9 W → Calls Try.prog 8 #[.slice ah nd.length ch, .slice ad nd.length cd] W fun e w' => e = .returned (.bool true) ∧ Below W.heap.size W w') := fun W hW => by
    have h1 := ((HX9.out.1.kept hW).rw (.slice ah nd.length ch, psh) (by simp)).recsAt
    have h2 := ((HX9.out.1.kept hW).rw (.slice ad nd.length cd, psd) (by simp)).recsAt
    rw [HX9.out.2.2.2.2] at h1
    rw [HF.out.2.2.2.1] at h2
    exact sameAll3_ok _ _ nd W h1 h2
  go_wp2_with fail
  refine HD1.out.mono ?_
  rintro e wa ⟨rfl, ba⟩
  have HBa : Hid (Below w9.heap.size w9 wa) := ba
  have HD2' := HD2.out wa ba
  clear ba HD1
  go_wp2_with fail
  refine HD2'.mono ?_
  rintro e wb ⟨rfl, bb⟩
  have HBb : Hid (Below w9.heap.size w9 wb) := andThen HBa.out bb
  have HD3 := HSG.out wb (HX9.out.1.kept HBb.out).be
  clear bb HD2' HD2 HBa
  go_wp2_with fail
  refine HD3.mono ?_
  rintro e wc ⟨rfl, bc⟩
  have HXc : Hid (SX wL.heap.size wL wc C8 G V8 l8 f8 lh8 fh8 [(.slice af nl.length cf, psf), (.slice ah nd.length ch, psh), (.slice al2 nl.length cl2, psl), (.slice ad nd.length cd, psd)]) := HX9.out.1.kept (andThen HBb.out bc)
  have HNb : Hid (l8.length ≤ 10000000 ∧ f8.length ≤ 10000000) := by
    have := HX9.out.2.1
    have := HX9.out.2.2.1
    have := HN.out.2.2
    exact ⟨by omega, by omega⟩
  have HH1 := mkhold_sx HXc.out HNb.out.1 HNb.out.2
  clear bc HD3 HBb HXc
  go_wp2_with fail
  refine HH1.mono ?_
  rintro e wd ⟨rfl, Cd, Vd, lhd, fhd, Xd, bd⟩
  have HQ1 : Hid (Calls Try.prog 9 #[.pointer (some ⟨G, 0, none⟩), .slice af nl.length cf, .int .i64 (-9)] wd (PutPost wL.heap.size wL wd G (nl.length + nd.length + nl.length) 3 [(.slice ah nd.length ch, psh), (.slice al2 nl.length cl2, psl), (.slice ad nd.length cd, psd)])) := by
    have hfl : psf.length = nl.length := by rw [← HX9.out.2.2.2.1, List.length_map]
    have h9 := mkput_sx (ys := []) Xd (-9) (by rw [hfl]; exact HN.out.2.2.1) (ps_fst (P := fun r => r.l.length ≤ 5000000) HX9.out.2.2.2.1 HN.out.1) (by have := HN.out.2.2; have := HX9.out.2.1; omega) (by have := HX9.out.2.2.1; omega) (n := nl.length + nd.length + nl.length) (by rw [HX9.out.2.1, hfl])
    rw [HX9.out.2.2.1] at h9
    exact h9
  clear Xd bd HH1
  go_wp2_with fail
  refine HQ1.out.mono ?_
  rintro e we ⟨rfl, Ce, Ve, le, fe, lhe, fhe, Xe, qe, re, be⟩
  have HQ2 : Hid (Calls Try.prog 9 #[.pointer (some ⟨G, 0, none⟩), .slice ah nd.length ch, .int .i64 (-10)] we (PutPost wL.heap.size wL we G (nl.length + nd.length + nl.length + nd.length) 4 [(.slice al2 nl.length cl2, psl), (.slice ad nd.length cd, psd)])) := by
    have hfl : psh.length = nd.length := by rw [← HX9.out.2.2.2.2, List.length_map]
    have h9 := mkput_sx (ys := []) Xe (-10) (by rw [hfl]; exact HN.out.2.2.2) (ps_fst (P := fun r => r.l.length ≤ 5000000) HX9.out.2.2.2.2 HN.out.2.1) (by have := HN.out.2.2; omega) (by omega) (n := nl.length + nd.length + nl.length + nd.length) (by rw [qe, hfl])
    rw [re] at h9
    exact h9
  clear Xe qe re be HQ1 HX9
  go_wp2_with fail
  refine HQ2.out.mono ?_
  rintro e wf ⟨rfl, Cf, Vf, lf, ff, lhf, fhf, Xf, qf, rf, bf⟩
  have HXf : Hid (SX wL.heap.size wL wf Cf G Vf lf ff lhf fhf [(.slice al2 nl.length cl2, psl), (.slice ad nd.length cd, psd)] ∧ lf.length ≤ 10000000 ∧ ff.length ≤ 10000000) := ⟨Xf, by have := HN.out.2.2; omega, by omega⟩
  clear Xf qf rf bf HQ2
  go_wp2_with fail
  go_loopw [15] (fun i wr => ∃ k : Nat, k ≤ rs.length ∧ i = .int .i64 (k : Int) ∧ wr = wf) (fun i _ => rs.length - (intOf i).toNat)
  case atStart => exact ⟨0, Nat.zero_le _, rfl, rfl⟩
  case round =>
    obtain ⟨k, hk, rfl, rfl⟩ := hrel
    by_cases hlt : k < rs.length
    · obtain ⟨r, hr⟩ : ∃ r, rs[k]? = some r := ⟨rs[k], List.getElem?_eq_getElem hlt⟩
      obtain ⟨al', cl', e', hmu, hcu⟩ := (HLR.out.2.1 wr HXf.out.1.be).shape
      rw [List.length_map] at e'
      simp only [Value.slice.injEq] at e'
      obtain ⟨rfl, _, rfl⟩ := e'
      obtain ⟨b1, off1, rfl, hcell1⟩ := hcu (List.ne_nil_of_length_pos (by rw [List.length_map]; omega))
      obtain ⟨v1, c1, h1⟩ := hcell1 k (by rw [List.length_map]; exact hlt)
      have er : (rs.map fun r => r.l ++ m91)[k]'(by rw [List.length_map]; exact hlt) = r.l ++ m91 := by
        rw [List.getElem_map, (List.getElem?_eq_some_iff.1 hr).2]
      rw [er] at h1
      obtain ⟨a7, c7, rfl, h7, h8, -, h9⟩ := h1.shape
      have hrl := (HG.out.each r (List.mem_of_getElem? hr)).2
      obtain ⟨b7, o7, rfl, hcs⟩ := h9 (by simp [m91])
      obtain ⟨n7, hn7⟩ : ∃ n, n = r.l.length := ⟨_, rfl⟩
      have hl7 : (r.l ++ m91).length = n7 + 3 := by rw [List.length_append, hn7]; rfl
      have hnn : n7 ≤ 5000000 := by rw [hn7]; exact hrl
      have g0 : wr.cell? ⟨b7, o7 + n7, none⟩ = some (.int .u8 91) := by
        have := hcs n7 (by omega)
        rw [this]
        simp [hn7, m91]
      have g1 : wr.cell? ⟨b7, o7 + (n7 + 1), none⟩ = some (.int .u8 92) := by
        have := hcs (n7 + 1) (by omega)
        rw [this]
        simp [hn7, m91]
      have g2 : wr.cell? ⟨b7, o7 + (n7 + 2), none⟩ = some (.int .u8 93) := by
        have := hcs (n7 + 2) (by omega)
        rw [this]
        simp [hn7, m91]
      rw [hl7] at c1
      clear hcs h9 h1 er hcell1 hcu hr hl7 hn7 hrl h7
      unfold maxLen at h8
      go_wp2_with fail
      go_roundw
      case rel => exact ⟨k + 1, by omega, by go_num, trivial⟩
      case measure => simp [intOf]; omega
    · have HH2 := mkhold_sx HXf.out.1 HXf.out.2.1 HXf.out.2.2
      go_wp2_with fail
      refine HH2.mono ?_
      rintro e wg ⟨rfl, Cg, Vg, lhg, fhg, Xg, bg⟩
      have HC9 := HSG.out wg bg
      have HBg : Hid (Below wL.heap.size wL wg) := bg
      clear Xg bg
      go_wp2_with fail
      refine HC9.mono ?_
      rintro e wh ⟨rfl, bh⟩
      have HBh : Hid (Below w.heap.size w wh) := HLR.out.2.2.2.2 wh (andThen HBg.out bh)
      clear bh
      go_wp2_with fail
      go_ret
      exact ⟨rfl, HBh.out⟩
end Go.Proofs.Ytggenlnknnhjgaa
