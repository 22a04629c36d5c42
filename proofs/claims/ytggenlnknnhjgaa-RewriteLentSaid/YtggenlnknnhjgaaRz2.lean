/-
  Package rewrite: part, Split; the document's Split.
-/
import Derived.Test.YtggenlnknnhjgaaRz1
namespace Go.Proofs.Ytggenlnknnhjgaa
open Go Go.RowKit Go.ChangeShapes
open Wb
/-- the blocks of a list of records -/
def Rq (v : Value) (ps : List (Rec × Value)) (q : Nat) : Prop := v.ownBlock = some q ∨ ∃ p ∈ ps, p.2.ownBlock = some q
theorem Rws.fr {B : Nat} {w w' : World} {v : Value} {ps : List (Rec × Value)} (h : Rws B w v ps) (hb : ∀ q, Rq v ps q → w'.heap[q]? = w.heap[q]?) : Rws B w' v ps := by
  have ho : ∀ p ∈ ps, Own B w' p.2 p.1.l := fun p hp => own_kept2 (h.own p hp) fun g hg => hb g (.inr ⟨p, hp, hg⟩)
  exact ⟨⟨Mg.row_block h.recs.1 fun q e => hb q (.inl e), fun p hp => ⟨(ho p hp).bs, (h.recs.2 p hp).2⟩⟩, ho, h.apart, h.row⟩
theorem Rws.lt {B : Nat} {w : World} {v : Value} {ps : List (Rec × Value)} (h : Rws B w v ps) {q : Nat} (hq : Rq v ps q) : B ≤ q ∧ q < w.heap.size := by
  rcases hq with e | ⟨p, hp, e⟩
  · exact World.ownsRow.lt h.recs.1 q e
  · exact World.ownsRow.lt (h.own p hp).row q e
theorem Rws.recsAt {B : Nat} {w : World} {v : Value} {ps : List (Rec × Value)} (h : Rws B w v ps) : RecsAt w v (ps.map Prod.fst) := h.recs.recsAt
theorem Rws.weak {B B' : Nat} {w : World} {v : Value} {ps : List (Rec × Value)} (h : Rws B w v ps) (hB : B' ≤ B) : Rws B' w v ps := by
  refine ⟨⟨?_, h.recs.2⟩, fun p hp => (h.own p hp).mono hB, h.apart, h.row⟩
  obtain ⟨h1, h2⟩ := h.recs.1
  refine ⟨h1, h2.imp id fun ⟨g, cap, cur, e, h3, h4⟩ => ⟨g, cap, cur, e, Nat.le_trans hB h3, h4⟩⟩
/-- two lists, apart -/
structure Two (B : Nat) (w : World) (v1 v2 : Value) (ps1 ps2 : List (Rec × Value)) : Prop where
  one : Rws B w v1 ps1
  two : Rws B w v2 ps2
  ap : ∀ q, Rq v1 ps1 q → ¬ Rq v2 ps2 q
section
variable {B n0 : Nat} {w w' : World} {v1 v2 v' : Value} {ps1 ps2 : List (Rec × Value)}
theorem Two.nil (B : Nat) (w : World) : Two B w (.slice none 0 0) (.slice none 0 0) [] [] := ⟨Rws.nil _ _, Rws.nil _ _, fun q h => by
  rcases h with e | ⟨p, hp, -⟩
  · cases e
  · cases hp⟩
theorem Two.swap (h : Two B w v1 v2 ps1 ps2) : Two B w v2 v1 ps2 ps1 := ⟨h.two, h.one, fun q h1 h2 => h.ap q h2 h1⟩
theorem Two.kept (h : Two B w v1 v2 ps1 ps2) (hb : Below w.heap.size w w') : Two B w' v1 v2 ps1 ps2 := ⟨h.one.kept hb, h.two.kept hb, h.ap⟩
theorem Two.more (h : Two B w v1 v2 ps1 ps2) (p : Rec × Value) (h1 : Outs B w' v' (ps1 ++ [p])) (h2 : w.grownBy w' v1.ownBlock) (h3 : v'.ownBlock = v1.ownBlock ∨ v'.ownBlock = some w.heap.size) (hp : Own n0 w p.2 p.1.l) (hB : B ≤ n0) (hn : ∀ q, Rq v1 ps1 q ∨ Rq v2 ps2 q → q < n0) : Two B w' v' v2 (ps1 ++ [p]) ps2 := by
  refine ⟨h.one.more p h1 h2 h3 hp hB (fun q hq g e => hn g (.inl (.inr ⟨q, hq, e⟩))) (fun g e => hn g (.inl (.inl e))), h.two.fr fun q hq => h2.block q (h.two.lt hq).2 fun e => h.ap q (.inl e.symm) hq, fun q hq hq2 => ?_⟩
  rcases hq with e | ⟨x, hx, e⟩
  · rcases h3 with e2 | e2
    · exact h.ap q (.inl (e2.symm.trans e)) hq2
    · have h9 := (h.two.lt hq2).2
      rw [e2] at e
      have := Option.some.inj e
      omega
  · rcases List.mem_append.1 hx with hx | hx
    · exact h.ap q (.inr ⟨x, hx, e⟩) hq2
    · rw [List.mem_singleton.1 hx] at e
      have h8 := (World.ownsRow.lt hp.row q e).1
      have h9 := hn q (.inr hq2)
      omega
end
/-- what the lists of a law are -/
structure LBig (rs : List Rec) : Prop where
  each : ∀ r ∈ rs, r.x.fit ∧ r.l.length ≤ 140737488355000
  few : rs.length ≤ 1048576
theorem filter_snoc (f : Rec → Bool) (l : List Rec) (r : Rec) : (l ++ [r]).filter f = l.filter f ++ (if f r then [r] else []) := by
  rw [List.filter_append]
  by_cases h : f r <;> simp [h]
set_option maxRecDepth 100000 in
set_option maxHeartbeats 8000000 in
theorem rwpart_any (v : Value) (rs : List Rec) (w : World) (b9 n9 : Nat) (S : Int → Bool) (h : RecsAt w v rs) (hg : LBig rs) (hS : MS w b9 n9 S) :
    Calls Try.prog 15 #[.map (some b9), v] w fun e w' => ∃ v1 v2 ps1 ps2, e = .returned (.tuple #[v1, v2]) ∧ Two w.heap.size w' v1 v2 ps1 ps2 ∧ ps1.map Prod.fst = rs.filter (fun r => !S r.x.s) ∧ ps2.map Prod.fst = rs.filter (fun r => S r.x.s) ∧ Below w.heap.size w w' := by
  have hin := infoR12
  have HIR : Hid ((Try.prog.info? 25).map (·.size) = some 12) := infoRec
  have HGE : Hid (∀ r ∈ rs, r.x.fit ∧ r.l.length ≤ 140737488355000) := hg.each
  have hfew := hg.few
  have HRS : Hid (∀ w', Below w.heap.size w w' → RecsAt w' v rs) := fun w' hb => h.kept hb
  have HSS : Hid (MS w b9 n9 S) := hS
  obtain ⟨ao, cap, rfl, hm, _⟩ := h
  unfold maxLen at hm
  clear hg hS
  go_enter Try.func15, Try.ntmps15
  go_wp2_with fail
  go_loopw [4, 5, 12] (fun o1 o2 i wr => ∃ (k : Nat) (ps1 ps2 : List (Rec × Value)), k ≤ rs.length ∧ i = .int .i64 (k : Int) ∧ Two w.heap.size wr o1 o2 ps1 ps2 ∧ ps1.map Prod.fst = (rs.take k).filter (fun r => !S r.x.s) ∧ ps2.map Prod.fst = (rs.take k).filter (fun r => S r.x.s) ∧ Below w.heap.size w wr) (fun _ _ i _ => rs.length - (intOf i).toNat)
  case atStart => exact ⟨0, [], [], Nat.zero_le _, rfl, Two.nil _ _, rfl, rfl, Below.refl _ _⟩
  case round =>
    obtain ⟨k, ps1, ps2, hk, rfl, htw, hm1, hm2, hbel⟩ := hrel
    by_cases hlt : k < rs.length
    · obtain ⟨r, hr⟩ : ∃ r, rs[k]? = some r := ⟨rs[k], List.getElem?_eq_getElem hlt⟩
      have hrw := HRS.out _ hbel
      obtain ⟨ao', cap', e', _, hcr⟩ := HRS.out _ hbel
      simp only [Value.slice.injEq] at e'
      obtain ⟨rfl, _, rfl⟩ := e'
      obtain ⟨b, off, d, rfl, hrg, hbs⟩ := hcr k r hr
      have hnf := HGE.out r (List.mem_of_getElem? hr)
      have hwf : (Lit.int .i64 r.x.s).wf = true := wf_i64 (hnf.1 2 (by decide) (by decide)).1 (hnf.1 2 (by decide) (by decide)).2
      have HTK : Hid (rs.take (k + 1) = rs.take k ++ [r]) := by show _ = _; rw [List.take_add_one, hr]; rfl
      have hl1 : ps1.length ≤ k := by
        have h1 := congrArg List.length hm1
        have h2 := List.length_filter_le (fun r => !S r.x.s) (rs.take k)
        rw [List.length_map] at h1
        rw [List.length_take] at h2
        omega
      have hl2 : ps2.length ≤ k := by
        have h1 := congrArg List.length hm2
        have h2 := List.length_filter_le (fun r => S r.x.s) (rs.take k)
        rw [List.length_map] at h1
        rw [List.length_take] at h2
        omega
      have HMP : Hid (ps1.map Prod.fst = (rs.take k).filter (fun r => !S r.x.s) ∧ ps2.map Prod.fst = (rs.take k).filter (fun r => S r.x.s)) := ⟨hm1, hm2⟩
      have HTW : Hid (Two w.heap.size wr u4 u5 ps1 ps2 ∧ Below w.heap.size w wr ∧ Bs wr d r.l ∧ r.l.length ≤ 140737488355000) := ⟨htw, hbel, hbs, hnf.2⟩
      obtain ⟨ar, cr, rfl, _⟩ := hbs.shape
      have HR0 : Hid (wr.rangeAt b (off + k * 12) [.int .i64 r.x.v, .int .i64 r.x.k, .int .i64 r.x.s, .int .i64 r.x.p, .int .i64 r.x.t, .int .i64 r.x.a, .int .i64 r.x.l, .int .i64 r.x.c, .int .i64 r.x.n, .int .i64 r.x.i, .string r.nm, .slice ar r.l.length cr]) := hrg
      have hmsW : MS (wr.alloc (.cells #[.int .i64 r.x.v, .int .i64 r.x.k, .int .i64 r.x.s, .int .i64 r.x.p, .int .i64 r.x.t, .int .i64 r.x.a, .int .i64 r.x.l, .int .i64 r.x.c, .int .i64 r.x.n, .int .i64 r.x.i, .string r.nm, .slice ar r.l.length cr] 25)) b9 n9 S := (HSS.out.kept (up hbel _))
      have hlk := hmsW.look hwf
      have HB0 : Hid (Below wr.heap.size wr ((wr.alloc (.cells #[.int .i64 r.x.v, .int .i64 r.x.k, .int .i64 r.x.s, .int .i64 r.x.p, .int .i64 r.x.t, .int .i64 r.x.a, .int .i64 r.x.l, .int .i64 r.x.c, .int .i64 r.x.n, .int .i64 r.x.i, .string r.nm, .slice ar r.l.length cr] 25)).alloc (.cells #[] 53))) := up (up0 _ _) _
      have HRX : Hid (((wr.alloc (.cells #[.int .i64 r.x.v, .int .i64 r.x.k, .int .i64 r.x.s, .int .i64 r.x.p, .int .i64 r.x.t, .int .i64 r.x.a, .int .i64 r.x.l, .int .i64 r.x.c, .int .i64 r.x.n, .int .i64 r.x.i, .string r.nm, .slice ar r.l.length cr] 25)).alloc (.cells #[] 53)).rangeAt wr.heap.size 0 [.int .i64 r.x.v, .int .i64 r.x.k, .int .i64 r.x.s, .int .i64 r.x.p, .int .i64 r.x.t, .int .i64 r.x.a, .int .i64 r.x.l, .int .i64 r.x.c, .int .i64 r.x.n, .int .i64 r.x.i, .string r.nm, .slice ar r.l.length cr]) := range_kept ((lb_new wr [.int .i64 r.x.v, .int .i64 r.x.k, .int .i64 r.x.s, .int .i64 r.x.p, .int .i64 r.x.t, .int .i64 r.x.a, .int .i64 r.x.l, .int .i64 r.x.c, .int .i64 r.x.n, .int .i64 r.x.i, .string r.nm, .slice ar r.l.length cr] 25).range) (up0 _ _)
      have HCL : Hid (Calls Try.prog 19 #[rv r.x r.nm (.slice ar r.l.length cr)] ((wr.alloc (.cells #[.int .i64 r.x.v, .int .i64 r.x.k, .int .i64 r.x.s, .int .i64 r.x.p, .int .i64 r.x.t, .int .i64 r.x.a, .int .i64 r.x.l, .int .i64 r.x.c, .int .i64 r.x.n, .int .i64 r.x.i, .string r.nm, .slice ar r.l.length cr] 25)).alloc (.cells #[] 53)) fun e w'' => ∃ a1, ∃ cp1 : Nat, e = .returned (rv r.x r.nm (.slice a1 r.l.length cp1)) ∧ Own wr.heap.size w'' (.slice a1 r.l.length cp1) r.l ∧ Below wr.heap.size wr w'') := (rclone_any r.x r.nm (.slice ar r.l.length cr) r.l _ (HTW.out.2.2.1.kept HB0.out) HTW.out.2.2.2).mono fun e w'' ⟨d', he, ho, hb''⟩ => by
        obtain ⟨a1, cp1, rfl, _⟩ := ho.bs.shape
        exact ⟨a1, cp1, he, ho.mono HB0.out.size, andThen HB0.out hb''⟩
      generalize hsv : S r.x.s = sv at hlk
      have HSV : Hid (S r.x.s = sv) := hsv
      clear hcr hrg hbs hnf HGE HRS hr hrw htw hbel hm1 hm2 hmsW hsv HSS hwf
      unfold rv at *
      cases sv
      · go_wp2_with (first | (refine wpList_load_mid rfl 25 _ rfl b (off + k * 12) rfl [.int .i64 r.x.v, .int .i64 r.x.k, .int .i64 r.x.s, .int .i64 r.x.p, .int .i64 r.x.t, .int .i64 r.x.a, .int .i64 r.x.l, .int .i64 r.x.c, .int .i64 r.x.n, .int .i64 r.x.i, .string r.nm, .slice ar r.l.length cr] _ HR0.out Try.underlying25 rfl HIR.out ?_) | (refine wpList_load_mid rfl 25 _ rfl wr.heap.size 0 rfl [.int .i64 r.x.v, .int .i64 r.x.k, .int .i64 r.x.s, .int .i64 r.x.p, .int .i64 r.x.t, .int .i64 r.x.a, .int .i64 r.x.l, .int .i64 r.x.c, .int .i64 r.x.n, .int .i64 r.x.i, .string r.nm, .slice ar r.l.length cr] _ HRX.out Try.underlying25 rfl HIR.out ?_))
        refine HCL.out.mono ?_
        rintro e w1 ⟨a1, cp1, rfl, ho1, b1⟩
        have HO1 : Hid (∀ o, Two w.heap.size (w1.alloc o) u4 u5 ps1 ps2 ∧ Own wr.heap.size (w1.alloc o) (.slice a1 r.l.length cp1) r.l ∧ Below w.heap.size w (w1.alloc o) ∧ w.heap.size ≤ (w1.alloc o).heap.size ∧ (w1.alloc o).heap.size = w1.heap.size + 1) := fun o => ⟨(HTW.out.1.kept b1).kept (up0 _ _), ho1.alloc _, up (andThen HTW.out.2.1 b1) _, (up (andThen HTW.out.2.1 b1) _).size, heap_one _ _⟩
        have HOB : Hid (∀ q, Rq u4 ps1 q ∨ Rq u5 ps2 q → q < wr.heap.size) := fun q hq => hq.elim (fun e => (HTW.out.1.one.lt e).2) (fun e => (HTW.out.1.two.lt e).2)
        have HOF : Hid (∀ g, g < wr.heap.size → Off g (.slice a1 r.l.length cp1) r.l) := fun g hg => off_own ho1 g hg
        have HR2 : Hid ((w1.alloc (.cells #[.int .i64 r.x.v, .int .i64 r.x.k, .int .i64 r.x.s, .int .i64 r.x.p, .int .i64 r.x.t, .int .i64 r.x.a, .int .i64 r.x.l, .int .i64 r.x.c, .int .i64 r.x.n, .int .i64 r.x.i, .string r.nm, .slice a1 r.l.length cp1] 25)).rangeAt w1.heap.size 0 [.int .i64 r.x.v, .int .i64 r.x.k, .int .i64 r.x.s, .int .i64 r.x.p, .int .i64 r.x.t, .int .i64 r.x.a, .int .i64 r.x.l, .int .i64 r.x.c, .int .i64 r.x.n, .int .i64 r.x.i, .string r.nm, .slice a1 r.l.length cp1]) := new_range w1 #[.int .i64 r.x.v, .int .i64 r.x.k, .int .i64 r.x.s, .int .i64 r.x.p, .int .i64 r.x.t, .int .i64 r.x.a, .int .i64 r.x.l, .int .i64 r.x.c, .int .i64 r.x.n, .int .i64 r.x.i, .string r.nm, .slice a1 r.l.length cp1]
        have hsz : w.heap.size ≤ wr.heap.size := HTW.out.2.1.size
        clear ho1 b1 HTW HR0 HCL HRX hlk HB0
        go_wp2_with (at_builtin; refine wpList_append_rec2 _ rfl (.tmp 29) (.tmp 32) 22 rfl w.heap.size hin Try.underlying22 _ ps1 (r, .slice a1 r.l.length cp1) rfl (HO1.out _).1.one.recs _ rfl (HR2.out) rfl (HO1.out _).2.1.bs (fun g hg => HOF.out g (HOB.out g (.inl (.inl hg)))) (by omega) (HO1.out _).2.2.2.1 ?_)
        intro v2 w2 hr2 hg2 he2
        have hT2 := (HO1.out _).1.more _ hr2 hg2 (by rw [(HO1.out _).2.2.2.2]; exact he2) (HO1.out _).2.1 hsz HOB.out
        have R2 : Hid (Two w.heap.size w2 v2 u5 (ps1 ++ [(r, .slice a1 r.l.length cp1)]) ps2 ∧ Below w.heap.size w w2) := ⟨hT2, (HO1.out _).2.2.1.trans (grown_below (HO1.out _).1.one.recs.1 hg2 (HO1.out _).2.2.2.1)⟩
        clear hr2 hg2 he2 HO1 HOB HOF HR2 hT2
        go_wp2_with fail
        go_roundw
        case rel =>
          refine ⟨k + 1, ps1 ++ [(r, .slice a1 r.l.length cp1)], ps2, by omega, by go_num, R2.out.1, ?_, ?_, R2.out.2⟩
          · rw [HTK.out, filter_snoc, HSV.out, ← HMP.out.1]
            simp
          · rw [HTK.out, filter_snoc, HSV.out, ← HMP.out.2]
            simp
        case measure => simp [intOf]; omega
      · go_wp2_with (first | (refine wpList_load_mid rfl 25 _ rfl b (off + k * 12) rfl [.int .i64 r.x.v, .int .i64 r.x.k, .int .i64 r.x.s, .int .i64 r.x.p, .int .i64 r.x.t, .int .i64 r.x.a, .int .i64 r.x.l, .int .i64 r.x.c, .int .i64 r.x.n, .int .i64 r.x.i, .string r.nm, .slice ar r.l.length cr] _ HR0.out Try.underlying25 rfl HIR.out ?_) | (refine wpList_load_mid rfl 25 _ rfl wr.heap.size 0 rfl [.int .i64 r.x.v, .int .i64 r.x.k, .int .i64 r.x.s, .int .i64 r.x.p, .int .i64 r.x.t, .int .i64 r.x.a, .int .i64 r.x.l, .int .i64 r.x.c, .int .i64 r.x.n, .int .i64 r.x.i, .string r.nm, .slice ar r.l.length cr] _ HRX.out Try.underlying25 rfl HIR.out ?_))
        refine HCL.out.mono ?_
        rintro e w1 ⟨a1, cp1, rfl, ho1, b1⟩
        have HO1 : Hid (∀ o, Two w.heap.size (w1.alloc o) u5 u4 ps2 ps1 ∧ Own wr.heap.size (w1.alloc o) (.slice a1 r.l.length cp1) r.l ∧ Below w.heap.size w (w1.alloc o) ∧ w.heap.size ≤ (w1.alloc o).heap.size ∧ (w1.alloc o).heap.size = w1.heap.size + 1) := fun o => ⟨(HTW.out.1.swap.kept b1).kept (up0 _ _), ho1.alloc _, up (andThen HTW.out.2.1 b1) _, (up (andThen HTW.out.2.1 b1) _).size, heap_one _ _⟩
        have HOB : Hid (∀ q, Rq u5 ps2 q ∨ Rq u4 ps1 q → q < wr.heap.size) := fun q hq => hq.elim (fun e => (HTW.out.1.swap.one.lt e).2) (fun e => (HTW.out.1.swap.two.lt e).2)
        have HOF : Hid (∀ g, g < wr.heap.size → Off g (.slice a1 r.l.length cp1) r.l) := fun g hg => off_own ho1 g hg
        have HR2 : Hid ((w1.alloc (.cells #[.int .i64 r.x.v, .int .i64 r.x.k, .int .i64 r.x.s, .int .i64 r.x.p, .int .i64 r.x.t, .int .i64 r.x.a, .int .i64 r.x.l, .int .i64 r.x.c, .int .i64 r.x.n, .int .i64 r.x.i, .string r.nm, .slice a1 r.l.length cp1] 25)).rangeAt w1.heap.size 0 [.int .i64 r.x.v, .int .i64 r.x.k, .int .i64 r.x.s, .int .i64 r.x.p, .int .i64 r.x.t, .int .i64 r.x.a, .int .i64 r.x.l, .int .i64 r.x.c, .int .i64 r.x.n, .int .i64 r.x.i, .string r.nm, .slice a1 r.l.length cp1]) := new_range w1 #[.int .i64 r.x.v, .int .i64 r.x.k, .int .i64 r.x.s, .int .i64 r.x.p, .int .i64 r.x.t, .int .i64 r.x.a, .int .i64 r.x.l, .int .i64 r.x.c, .int .i64 r.x.n, .int .i64 r.x.i, .string r.nm, .slice a1 r.l.length cp1]
        have hsz : w.heap.size ≤ wr.heap.size := HTW.out.2.1.size
        clear ho1 b1 HTW HR0 HCL HRX hlk HB0
        go_wp2_with (at_builtin; refine wpList_append_rec2 _ rfl (.tmp 24) (.tmp 27) 22 rfl w.heap.size hin Try.underlying22 _ ps2 (r, .slice a1 r.l.length cp1) rfl (HO1.out _).1.one.recs _ rfl (HR2.out) rfl (HO1.out _).2.1.bs (fun g hg => HOF.out g (HOB.out g (.inl (.inl hg)))) (by omega) (HO1.out _).2.2.2.1 ?_)
        intro v2 w2 hr2 hg2 he2
        have hT2 := (HO1.out _).1.more _ hr2 hg2 (by rw [(HO1.out _).2.2.2.2]; exact he2) (HO1.out _).2.1 hsz HOB.out
        have R2 : Hid (Two w.heap.size w2 u4 v2 ps1 (ps2 ++ [(r, .slice a1 r.l.length cp1)]) ∧ Below w.heap.size w w2) := ⟨hT2.swap, (HO1.out _).2.2.1.trans (grown_below (HO1.out _).1.one.recs.1 hg2 (HO1.out _).2.2.2.1)⟩
        clear hr2 hg2 he2 HO1 HOB HOF HR2 hT2
        go_wp2_with fail
        go_roundw
        case rel =>
          refine ⟨k + 1, ps1, ps2 ++ [(r, .slice a1 r.l.length cp1)], by omega, by go_num, R2.out.1, ?_, ?_, R2.out.2⟩
          · rw [HTK.out, filter_snoc, HSV.out, ← HMP.out.1]
            simp
          · rw [HTK.out, filter_snoc, HSV.out, ← HMP.out.2]
            simp
        case measure => simp [intOf]; omega
    · obtain rfl : k = rs.length := by omega
      rw [List.take_length] at hm1 hm2
      clear HRS HGE
      go_wp2_with fail
      go_ret2
      exact ⟨_, _, ps1, ps2, rfl, htw, hm1, hm2, hbel⟩
set_option maxRecDepth 100000 in
set_option maxHeartbeats 8000000 in
theorem rwsplit_any (v : Value) (rs : List Rec) (w : World) (h : RecsAt w v rs) (hg : LBig rs) :
    Calls Try.prog 5 #[v] w fun e w' => ∃ v1 v2 ps1 ps2, e = .returned (.tuple #[v1, v2]) ∧ Two w.heap.size w' v1 v2 ps1 ps2 ∧ ps1.map Prod.fst = Rz.live rs rs ∧ ps2.map Prod.fst = Rz.dead rs rs ∧ Below w.heap.size w w' := by
  have HRS : Hid (∀ w', Below w.heap.size w w' → RecsAt w' v rs) := fun w' hb => h.kept hb
  have HG : Hid (LBig rs) := hg
  have HE : Hid (Calls Try.prog 14 #[v] w fun e w' => ∃ b n, e = .returned (.map (some b)) ∧ MS w' b n (Rz.gone rs) ∧ w.heap.size ≤ b ∧ Below w.heap.size w w') := rwended_any v rs w h (fun r hr => (hg.each r hr).1) (by have := hg.few; omega)
  clear hg
  obtain ⟨ao, cap, rfl, hm, _⟩ := h
  go_enter Try.func5, Try.ntmps5
  go_wp2_with fail
  refine HE.out.mono ?_
  rintro e w1 ⟨b, n, rfl, hms, -, b1⟩
  have HP : Hid (Calls Try.prog 15 #[.map (some b), .slice ao rs.length cap] w1 fun e w' => ∃ v1 v2 ps1 ps2, e = .returned (.tuple #[v1, v2]) ∧ Two w1.heap.size w' v1 v2 ps1 ps2 ∧ ps1.map Prod.fst = rs.filter (fun r => !Rz.gone rs r.x.s) ∧ ps2.map Prod.fst = rs.filter (fun r => Rz.gone rs r.x.s) ∧ Below w1.heap.size w1 w') := rwpart_any _ rs w1 b n _ (HRS.out _ b1) HG.out hms
  have HB1 : Hid (Below w.heap.size w w1) := b1
  clear hms b1
  go_wp2_with fail
  refine HP.out.mono ?_
  rintro e w2 ⟨v1, v2, ps1, ps2, rfl, htw, hm1, hm2, b2⟩
  have HT : Hid (Two w1.heap.size w2 v1 v2 ps1 ps2) := htw
  have HB2 : Hid (Below w.heap.size w w2) := andThen HB1.out b2
  clear htw b2
  go_wp2_with fail
  go_ret2
  refine ⟨_, _, ps1, ps2, rfl, ⟨?_, ?_, HT.out.ap⟩, hm1, hm2, HB2.out⟩
  · exact HT.out.one.weak HB1.out.size
  · exact HT.out.two.weak HB1.out.size
set_option maxRecDepth 100000 in
set_option maxHeartbeats 8000000 in
theorem r12ends_any (v : Value) (rs : List Rec) (s : Int) (w : World) (h : RecsAt w v rs) (hfew : rs.length ≤ 1048576) :
    Calls Try.prog 16 #[v, .int .i64 s] w fun e w' => e = .returned (.bool (Rz.gone rs s)) ∧ w' = w := by
  have HRS : Hid (RecsAt w v rs) := h
  obtain ⟨ao, cap, rfl, hm, _⟩ := h
  unfold maxLen at hm
  go_enter Try.func16, Try.ntmps16
  go_wp2_with fail
  go_loopw [5] (fun i wr => ∃ k : Nat, k ≤ rs.length ∧ i = .int .i64 (k : Int) ∧ Rz.gone (rs.take k) s = false ∧ wr = w) (fun i _ => rs.length - (intOf i).toNat)
  case atStart => exact ⟨0, Nat.zero_le _, rfl, rfl, rfl⟩
  case round =>
    obtain ⟨k, hk, rfl, hgn, rfl⟩ := hrel
    by_cases hlt : k < rs.length
    · obtain ⟨r, hr⟩ : ∃ r, rs[k]? = some r := ⟨rs[k], List.getElem?_eq_getElem hlt⟩
      obtain ⟨ao', cap', e', _, hcr⟩ := HRS.out
      simp only [Value.slice.injEq] at e'
      obtain ⟨rfl, _, rfl⟩ := e'
      obtain ⟨b, off, d, rfl, hrg, hbs⟩ := hcr k r hr
      have HTK : Hid (rs.take (k + 1) = rs.take k ++ [r]) := by show _ = _; rw [List.take_add_one, hr]; rfl
      have c1 : wr.cell? ⟨b, off + k * 12 + 1, none⟩ = some (.int .i64 r.x.k) := hrg 1 _ rfl
      have c2 : wr.cell? ⟨b, off + k * 12 + 2, none⟩ = some (.int .i64 r.x.s) := hrg 2 _ rfl
      have HG : Hid (Rz.gone (rs.take k) s = false) := hgn
      have HR : Hid (r ∈ rs) := List.mem_of_getElem? hr
      clear hcr hrg hbs hr hgn HRS
      by_cases hs : r.x.s = s
      · have t1 : (r.x.s == s) = true := by simpa using hs
        by_cases h7 : r.x.k = 7
        · have t2 : (r.x.k == 7) = true := by simpa using h7
          have HE : Hid (Rz.gone rs s = true) := List.any_eq_true.2 ⟨r, HR.out, by simp [hs, h7]⟩
          clear hs h7
          go_wp2_with fail
          go_ret
          exact ⟨by rw [HE.out]; rfl, rfl⟩
        · have t2 : (r.x.k == 7) = false := by simpa using h7
          have HE : Hid (Rz.gone (rs.take (k + 1)) s = false) := by
            show _ = _
            rw [HTK.out, Rz.gone_snoc, HG.out]
            simp [h7]
          clear hs h7
          go_wp2_with fail
          go_roundw
          case rel => exact ⟨k + 1, by omega, by go_num, HE.out, trivial⟩
          case measure => simp [intOf]; omega
      · have t1 : (r.x.s == s) = false := by simpa using hs
        have HE : Hid (Rz.gone (rs.take (k + 1)) s = false) := by
          show _ = _
          rw [HTK.out, Rz.gone_snoc, HG.out]
          simp [hs]
        clear hs
        go_wp2_with fail
        go_roundw
        case rel => exact ⟨k + 1, by omega, by go_num, HE.out, trivial⟩
        case measure => simp [intOf]; omega
    · obtain rfl : k = rs.length := by omega
      rw [List.take_length] at hgn
      have HG : Hid (Rz.gone rs s = false) := hgn
      clear hgn
      go_wp2_with fail
      go_ret
      exact ⟨by rw [HG.out]; rfl, rfl⟩
set_option maxRecDepth 100000 in
set_option maxHeartbeats 8000000 in
theorem r12split_any (v : Value) (rs : List Rec) (w : World) (h : RecsAt w v rs) (hg : LBig rs) :
    Calls Try.prog 7 #[v] w fun e w' => ∃ v1 v2 ps1 ps2, e = .returned (.tuple #[v1, v2]) ∧ Two w.heap.size w' v1 v2 ps1 ps2 ∧ ps1.map Prod.fst = Rz.live rs rs ∧ ps2.map Prod.fst = Rz.dead rs rs ∧ Below w.heap.size w w' := by
  have hin := infoR12
  have HIR : Hid ((Try.prog.info? 25).map (·.size) = some 12) := infoRec
  have HGE : Hid (∀ r ∈ rs, r.x.fit ∧ r.l.length ≤ 140737488355000) := hg.each
  have hfew := hg.few
  have HRS : Hid (∀ w', Below w.heap.size w w' → RecsAt w' v rs) := fun w' hb => h.kept hb
  have HEN : Hid (∀ (W : World) (s : Int), RecsAt W v rs → Calls Try.prog 16 #[v, .int .i64 s] W fun e w1 => e = .returned (.bool (Rz.gone rs s)) ∧ w1 = W) := fun W s hW => r12ends_any v rs s W hW hg.few
  obtain ⟨ao, cap, rfl, hm, _⟩ := h
  unfold maxLen at hm
  clear hg
  go_enter Try.func7, Try.ntmps7
  go_wp2_with fail
  go_loopw [4, 5, 6] (fun o1 o2 i wr => ∃ (k : Nat) (ps1 ps2 : List (Rec × Value)), k ≤ rs.length ∧ i = .int .i64 (k : Int) ∧ Two w.heap.size wr o1 o2 ps1 ps2 ∧ ps1.map Prod.fst = (rs.take k).filter (fun r => !Rz.gone rs r.x.s) ∧ ps2.map Prod.fst = (rs.take k).filter (fun r => Rz.gone rs r.x.s) ∧ Below w.heap.size w wr) (fun _ _ i _ => rs.length - (intOf i).toNat)
  case atStart => exact ⟨0, [], [], Nat.zero_le _, rfl, Two.nil _ _, rfl, rfl, Below.refl _ _⟩
  case round =>
    obtain ⟨k, ps1, ps2, hk, rfl, htw, hm1, hm2, hbel⟩ := hrel
    by_cases hlt : k < rs.length
    · obtain ⟨r, hr⟩ : ∃ r, rs[k]? = some r := ⟨rs[k], List.getElem?_eq_getElem hlt⟩
      have hrw := HRS.out _ hbel
      obtain ⟨ao', cap', e', _, hcr⟩ := HRS.out _ hbel
      simp only [Value.slice.injEq] at e'
      obtain ⟨rfl, _, rfl⟩ := e'
      obtain ⟨b, off, d, rfl, hrg, hbs⟩ := hcr k r hr
      have hnf := HGE.out r (List.mem_of_getElem? hr)
      have hwf : (Lit.int .i64 r.x.s).wf = true := wf_i64 (hnf.1 2 (by decide) (by decide)).1 (hnf.1 2 (by decide) (by decide)).2
      have HTK : Hid (rs.take (k + 1) = rs.take k ++ [r]) := by show _ = _; rw [List.take_add_one, hr]; rfl
      have hl1 : ps1.length ≤ k := by
        have h1 := congrArg List.length hm1
        have h2 := List.length_filter_le (fun r => !Rz.gone rs r.x.s) (rs.take k)
        rw [List.length_map] at h1
        rw [List.length_take] at h2
        omega
      have hl2 : ps2.length ≤ k := by
        have h1 := congrArg List.length hm2
        have h2 := List.length_filter_le (fun r => Rz.gone rs r.x.s) (rs.take k)
        rw [List.length_map] at h1
        rw [List.length_take] at h2
        omega
      have HMP : Hid (ps1.map Prod.fst = (rs.take k).filter (fun r => !Rz.gone rs r.x.s) ∧ ps2.map Prod.fst = (rs.take k).filter (fun r => Rz.gone rs r.x.s)) := ⟨hm1, hm2⟩
      have HTW : Hid (Two w.heap.size wr u4 u5 ps1 ps2 ∧ Below w.heap.size w wr ∧ Bs wr d r.l ∧ r.l.length ≤ 140737488355000) := ⟨htw, hbel, hbs, hnf.2⟩
      obtain ⟨ar, cr, rfl, _⟩ := hbs.shape
      have HR0 : Hid (wr.rangeAt b (off + k * 12) [.int .i64 r.x.v, .int .i64 r.x.k, .int .i64 r.x.s, .int .i64 r.x.p, .int .i64 r.x.t, .int .i64 r.x.a, .int .i64 r.x.l, .int .i64 r.x.c, .int .i64 r.x.n, .int .i64 r.x.i, .string r.nm, .slice ar r.l.length cr]) := hrg
      have HCL : Hid (Calls Try.prog 17 #[rv r.x r.nm (.slice ar r.l.length cr)] wr fun e w'' => ∃ a1, ∃ cp1 : Nat, e = .returned (rv r.x r.nm (.slice a1 r.l.length cp1)) ∧ Own wr.heap.size w'' (.slice a1 r.l.length cp1) r.l ∧ Below wr.heap.size wr w'') := (refclone_any r.x r.nm (.slice ar r.l.length cr) r.l _ HTW.out.2.2.1 HTW.out.2.2.2).mono fun e w'' ⟨d', he, ho, hb''⟩ => by
        obtain ⟨a1, cp1, rfl, _⟩ := ho.bs.shape
        exact ⟨a1, cp1, he, ho, hb''⟩
      have HE1 := HEN.out wr r.x.s hrw
      have HE2 : Hid (Calls Try.prog 16 #[.slice (some { block := b, off := off }) rs.length cap, .int .i64 r.x.s] wr fun e w1 => e = .returned (.bool (Rz.gone rs r.x.s)) ∧ w1 = wr) := HE1
      generalize hsv : Rz.gone rs r.x.s = sv at HE2
      have HSV : Hid (Rz.gone rs r.x.s = sv) := hsv
      have hfs : wr.cell? ⟨b, off + k * 12 + 2, none⟩ = some (.int .i64 r.x.s) := hrg 2 _ rfl
      clear hcr hrg hbs hnf HGE HRS hr hrw htw hbel hm1 hm2 hsv hwf HE1 HEN
      unfold rv at *
      go_wp2_with fail
      refine HE2.out.mono ?_
      rintro e w9 ⟨rfl, rfl⟩
      go_wp2_with (refine wpList_load_mid rfl 25 _ rfl b (off + k * 12) rfl [.int .i64 r.x.v, .int .i64 r.x.k, .int .i64 r.x.s, .int .i64 r.x.p, .int .i64 r.x.t, .int .i64 r.x.a, .int .i64 r.x.l, .int .i64 r.x.c, .int .i64 r.x.n, .int .i64 r.x.i, .string r.nm, .slice ar r.l.length cr] _ HR0.out Try.underlying25 rfl HIR.out ?_)
      refine HCL.out.mono ?_
      rintro e w1 ⟨a1, cp1, rfl, ho1, b1⟩
      have HRX : Hid (∀ _ : Unit, ((w1.alloc (.cells #[.int .i64 r.x.v, .int .i64 r.x.k, .int .i64 r.x.s, .int .i64 r.x.p, .int .i64 r.x.t, .int .i64 r.x.a, .int .i64 r.x.l, .int .i64 r.x.c, .int .i64 r.x.n, .int .i64 r.x.i, .string r.nm, .slice a1 r.l.length cp1] 25)).rangeAt w1.heap.size 0 [.int .i64 r.x.v, .int .i64 r.x.k, .int .i64 r.x.s, .int .i64 r.x.p, .int .i64 r.x.t, .int .i64 r.x.a, .int .i64 r.x.l, .int .i64 r.x.c, .int .i64 r.x.n, .int .i64 r.x.i, .string r.nm, .slice a1 r.l.length cp1])) := fun _ : Unit => new_range w1 #[.int .i64 r.x.v, .int .i64 r.x.k, .int .i64 r.x.s, .int .i64 r.x.p, .int .i64 r.x.t, .int .i64 r.x.a, .int .i64 r.x.l, .int .i64 r.x.c, .int .i64 r.x.n, .int .i64 r.x.i, .string r.nm, .slice a1 r.l.length cp1]
      cases sv
      · have HO1 : Hid (∀ o o', Two w.heap.size ((w1.alloc o).alloc o') u4 u5 ps1 ps2 ∧ Own w9.heap.size ((w1.alloc o).alloc o') (.slice a1 r.l.length cp1) r.l ∧ Below w.heap.size w ((w1.alloc o).alloc o') ∧ w.heap.size ≤ ((w1.alloc o).alloc o').heap.size ∧ ((w1.alloc o).alloc o').heap.size = w1.heap.size + 1 + 1) := fun o o' => ⟨((HTW.out.1.kept b1).kept (up0 _ _)).kept (up0 _ _), (ho1.alloc _).alloc _, up (up (andThen HTW.out.2.1 b1) _) _, (up (up (andThen HTW.out.2.1 b1) _) _).size, by rw [heap_one, heap_one]⟩
        have HOB : Hid (∀ q, Rq u4 ps1 q ∨ Rq u5 ps2 q → q < w9.heap.size) := fun q hq => hq.elim (fun e => (HTW.out.1.one.lt e).2) (fun e => (HTW.out.1.two.lt e).2)
        have HOF : Hid (∀ g, g < w9.heap.size → Off g (.slice a1 r.l.length cp1) r.l) := fun g hg => off_own ho1 g hg
        have HR3 : Hid (∀ o, ((w1.alloc o).alloc (.cells #[.int .i64 r.x.v, .int .i64 r.x.k, .int .i64 r.x.s, .int .i64 r.x.p, .int .i64 r.x.t, .int .i64 r.x.a, .int .i64 r.x.l, .int .i64 r.x.c, .int .i64 r.x.n, .int .i64 r.x.i, .string r.nm, .slice a1 r.l.length cp1] 25)).rangeAt (w1.heap.size + 1) 0 [.int .i64 r.x.v, .int .i64 r.x.k, .int .i64 r.x.s, .int .i64 r.x.p, .int .i64 r.x.t, .int .i64 r.x.a, .int .i64 r.x.l, .int .i64 r.x.c, .int .i64 r.x.n, .int .i64 r.x.i, .string r.nm, .slice a1 r.l.length cp1]) := fun o => new_range2 w1 o #[.int .i64 r.x.v, .int .i64 r.x.k, .int .i64 r.x.s, .int .i64 r.x.p, .int .i64 r.x.t, .int .i64 r.x.a, .int .i64 r.x.l, .int .i64 r.x.c, .int .i64 r.x.n, .int .i64 r.x.i, .string r.nm, .slice a1 r.l.length cp1]
        have hsz : w.heap.size ≤ w9.heap.size := HTW.out.2.1.size
        clear ho1 b1 HTW HR0 HCL HE2
        go_wp2_with (first | (refine wpList_load_mid rfl 25 _ rfl w1.heap.size 0 rfl [.int .i64 r.x.v, .int .i64 r.x.k, .int .i64 r.x.s, .int .i64 r.x.p, .int .i64 r.x.t, .int .i64 r.x.a, .int .i64 r.x.l, .int .i64 r.x.c, .int .i64 r.x.n, .int .i64 r.x.i, .string r.nm, .slice a1 r.l.length cp1] _ (HRX.out ()) Try.underlying25 rfl HIR.out ?_) | (at_builtin; refine wpList_append_rec2 _ rfl (.tmp 32) (.tmp 34) 22 rfl w.heap.size hin Try.underlying22 _ ps1 (r, .slice a1 r.l.length cp1) rfl (HO1.out _ _).1.one.recs _ rfl (HR3.out _) rfl (HO1.out _ _).2.1.bs (fun g hg => HOF.out g (HOB.out g (.inl (.inl hg)))) (by omega) (HO1.out _ _).2.2.2.1 ?_))
        intro v2 w2 hr2 hg2 he2
        have hT2 := (HO1.out _ _).1.more _ hr2 hg2 (by rw [(HO1.out _ _).2.2.2.2]; exact he2) (HO1.out _ _).2.1 hsz HOB.out
        have R2 : Hid (Two w.heap.size w2 v2 u5 (ps1 ++ [(r, .slice a1 r.l.length cp1)]) ps2 ∧ Below w.heap.size w w2) := ⟨hT2, (HO1.out _ _).2.2.1.trans (grown_below (HO1.out _ _).1.one.recs.1 hg2 (HO1.out _ _).2.2.2.1)⟩
        clear hr2 hg2 he2 HO1 HOB HOF HR3 hT2 HRX
        go_wp2_with fail
        go_roundw
        case rel =>
          refine ⟨k + 1, ps1 ++ [(r, .slice a1 r.l.length cp1)], ps2, by omega, by go_num, R2.out.1, ?_, ?_, R2.out.2⟩
          · rw [HTK.out, filter_snoc, HSV.out, ← HMP.out.1]
            simp
          · rw [HTK.out, filter_snoc, HSV.out, ← HMP.out.2]
            simp
        case measure => simp [intOf]; omega
      · have HO1 : Hid (∀ o o', Two w.heap.size ((w1.alloc o).alloc o') u5 u4 ps2 ps1 ∧ Own w9.heap.size ((w1.alloc o).alloc o') (.slice a1 r.l.length cp1) r.l ∧ Below w.heap.size w ((w1.alloc o).alloc o') ∧ w.heap.size ≤ ((w1.alloc o).alloc o').heap.size ∧ ((w1.alloc o).alloc o').heap.size = w1.heap.size + 1 + 1) := fun o o' => ⟨((HTW.out.1.swap.kept b1).kept (up0 _ _)).kept (up0 _ _), (ho1.alloc _).alloc _, up (up (andThen HTW.out.2.1 b1) _) _, (up (up (andThen HTW.out.2.1 b1) _) _).size, by rw [heap_one, heap_one]⟩
        have HOB : Hid (∀ q, Rq u5 ps2 q ∨ Rq u4 ps1 q → q < w9.heap.size) := fun q hq => hq.elim (fun e => (HTW.out.1.swap.one.lt e).2) (fun e => (HTW.out.1.swap.two.lt e).2)
        have HOF : Hid (∀ g, g < w9.heap.size → Off g (.slice a1 r.l.length cp1) r.l) := fun g hg => off_own ho1 g hg
        have HR3 : Hid (∀ o, ((w1.alloc o).alloc (.cells #[.int .i64 r.x.v, .int .i64 r.x.k, .int .i64 r.x.s, .int .i64 r.x.p, .int .i64 r.x.t, .int .i64 r.x.a, .int .i64 r.x.l, .int .i64 r.x.c, .int .i64 r.x.n, .int .i64 r.x.i, .string r.nm, .slice a1 r.l.length cp1] 25)).rangeAt (w1.heap.size + 1) 0 [.int .i64 r.x.v, .int .i64 r.x.k, .int .i64 r.x.s, .int .i64 r.x.p, .int .i64 r.x.t, .int .i64 r.x.a, .int .i64 r.x.l, .int .i64 r.x.c, .int .i64 r.x.n, .int .i64 r.x.i, .string r.nm, .slice a1 r.l.length cp1]) := fun o => new_range2 w1 o #[.int .i64 r.x.v, .int .i64 r.x.k, .int .i64 r.x.s, .int .i64 r.x.p, .int .i64 r.x.t, .int .i64 r.x.a, .int .i64 r.x.l, .int .i64 r.x.c, .int .i64 r.x.n, .int .i64 r.x.i, .string r.nm, .slice a1 r.l.length cp1]
        have hsz : w.heap.size ≤ w9.heap.size := HTW.out.2.1.size
        clear ho1 b1 HTW HR0 HCL HE2
        go_wp2_with (first | (refine wpList_load_mid rfl 25 _ rfl w1.heap.size 0 rfl [.int .i64 r.x.v, .int .i64 r.x.k, .int .i64 r.x.s, .int .i64 r.x.p, .int .i64 r.x.t, .int .i64 r.x.a, .int .i64 r.x.l, .int .i64 r.x.c, .int .i64 r.x.n, .int .i64 r.x.i, .string r.nm, .slice a1 r.l.length cp1] _ (HRX.out ()) Try.underlying25 rfl HIR.out ?_) | (at_builtin; refine wpList_append_rec2 _ rfl (.tmp 28) (.tmp 30) 22 rfl w.heap.size hin Try.underlying22 _ ps2 (r, .slice a1 r.l.length cp1) rfl (HO1.out _ _).1.one.recs _ rfl (HR3.out _) rfl (HO1.out _ _).2.1.bs (fun g hg => HOF.out g (HOB.out g (.inl (.inl hg)))) (by omega) (HO1.out _ _).2.2.2.1 ?_))
        intro v2 w2 hr2 hg2 he2
        have hT2 := (HO1.out _ _).1.more _ hr2 hg2 (by rw [(HO1.out _ _).2.2.2.2]; exact he2) (HO1.out _ _).2.1 hsz HOB.out
        have R2 : Hid (Two w.heap.size w2 u4 v2 ps1 (ps2 ++ [(r, .slice a1 r.l.length cp1)]) ∧ Below w.heap.size w w2) := ⟨hT2.swap, (HO1.out _ _).2.2.1.trans (grown_below (HO1.out _ _).1.one.recs.1 hg2 (HO1.out _ _).2.2.2.1)⟩
        clear hr2 hg2 he2 HO1 HOB HOF HR3 hT2 HRX
        go_wp2_with fail
        go_roundw
        case rel =>
          refine ⟨k + 1, ps1, ps2 ++ [(r, .slice a1 r.l.length cp1)], by omega, by go_num, R2.out.1, ?_, ?_, R2.out.2⟩
          · rw [HTK.out, filter_snoc, HSV.out, ← HMP.out.1]
            simp
          · rw [HTK.out, filter_snoc, HSV.out, ← HMP.out.2]
            simp
        case measure => simp [intOf]; omega
    · obtain rfl : k = rs.length := by omega
      rw [List.take_length] at hm1 hm2
      clear HRS HGE
      go_wp2_with fail
      go_ret2
      exact ⟨_, _, ps1, ps2, rfl, htw, hm1, hm2, hbel⟩
end Go.Proofs.Ytggenlnknnhjgaa
