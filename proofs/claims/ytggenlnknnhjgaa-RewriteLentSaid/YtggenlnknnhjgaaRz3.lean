/-
  Package rewrite's laws: laid.
-/
import Derived.Test.YtggenlnknnhjgaaRz2
namespace Go.Proofs.Ytggenlnknnhjgaa
open Go Go.RowKit Go.ChangeShapes
open Wb
def m91 : List Nat := [91, 92, 93]
theorem bs_pre {w : World} {b off n cap : Nat} {l m : List Nat} (h : Bs w (.slice (some ⟨b, off, none⟩) n cap) (l ++ m)) : Bs w (.slice (some ⟨b, off, none⟩) l.length cap) l := by
  obtain ⟨ao, cap', e, h1, h2, h3, h4⟩ := h.shape
  simp only [Value.slice.injEq] at e
  obtain ⟨rfl, _, rfl⟩ := e
  rw [List.length_append] at h1
  refine ⟨⟨some ⟨b, off, none⟩, cap, rfl, by omega, h2, fun e => (by cases e), fun hne => ⟨b, off, rfl, fun j hj => ?_⟩⟩, fun x hx => h.good x (List.mem_append_left _ hx)⟩
  obtain ⟨b', off', e', hc⟩ := h4 (fun e => hne (List.append_eq_nil_iff.1 e).1)
  simp only [Option.some.injEq, Addr.mk.injEq, and_true] at e'
  obtain ⟨rfl, rfl⟩ := e'
  have := hc j (by rw [List.length_append]; omega)
  rw [List.getElem_append_left hj] at this
  exact this
set_option maxRecDepth 100000 in
set_option maxHeartbeats 8000000 in
theorem rwlaid_any (v : Value) (rs : List Rec) (w : World) (h : RecsAt w v rs) (hg : LBig rs) (hb3 : ∀ r ∈ rs, r.l.length ≤ 140737488300000) :
    Calls Try.prog 6 #[v] w fun e w' => ∃ m u ps qs, e = .returned (.tuple #[m, u]) ∧ Laid w.heap.size w' m u ps qs ∧ ps.map Prod.fst = rs ∧ qs.map Prod.fst = rs.map (fun r => r.l ++ m91) ∧ Below w.heap.size w w' := by
  have hin := infoR12
  have hib := infoBS
  have hin5 := info5
  have HIR : Hid ((Try.prog.info? 25).map (·.size) = some 12) := infoRec
  have HGE : Hid (∀ r ∈ rs, r.l.length ≤ 140737488300000) := hb3
  have hfew := hg.few
  have HRS : Hid (∀ w', Below w.heap.size w w' → RecsAt w' v rs) := fun w' hb => h.kept hb
  obtain ⟨ao, cap, rfl, hm, _⟩ := h
  unfold maxLen at hm
  clear hg hb3
  go_enter Try.func6, Try.ntmps6
  go_wp2_with fail
  go_loopw [4, 5, 6] (fun m u i wr => ∃ (k : Nat) (ps : List (Rec × Value)) (qs : List (List Nat × Value)), k ≤ rs.length ∧ i = .int .i64 (k : Int) ∧ Laid w.heap.size wr m u ps qs ∧ ps.map Prod.fst = rs.take k ∧ qs.map Prod.fst = (rs.take k).map (fun r => r.l ++ m91) ∧ Below w.heap.size w wr) (fun _ _ i _ => rs.length - (intOf i).toNat)
  case atStart => exact ⟨0, [], [], Nat.zero_le _, rfl, Laid.nil _ _, rfl, rfl, Below.refl _ _⟩
  case round =>
    obtain ⟨k, ps, qs, hk, rfl, hown, hmap, hmaq, hbel⟩ := hrel
    by_cases hlt : k < rs.length
    · obtain ⟨r, hr⟩ : ∃ r, rs[k]? = some r := ⟨rs[k], List.getElem?_eq_getElem hlt⟩
      obtain ⟨ao', cap', e', _, hcr⟩ := HRS.out _ hbel
      simp only [Value.slice.injEq] at e'
      obtain ⟨rfl, _, rfl⟩ := e'
      obtain ⟨b, off, d, rfl, hrg, hbs⟩ := hcr k r hr
      have hnf := HGE.out r (List.mem_of_getElem? hr)
      have HTK : Hid (rs.take (k + 1) = rs.take k ++ [r]) := by show _ = _; rw [List.take_add_one, hr]; rfl
      have HMP : Hid (ps.map Prod.fst = rs.take k ∧ qs.map Prod.fst = (rs.take k).map (fun r => r.l ++ m91)) := ⟨hmap, hmaq⟩
      have hpl : ps.length = k := by
        have := congrArg List.length hmap
        simpa [Nat.min_eq_left hk] using this
      have hql : qs.length = k := by
        have := congrArg List.length hmaq
        simpa [Nat.min_eq_left hk] using this
      obtain ⟨ar, cr, rfl, _⟩ := hbs.shape
      have HR0 : Hid (∀ W, Below wr.heap.size wr W → W.rangeAt b (off + k * 12) [.int .i64 r.x.v, .int .i64 r.x.k, .int .i64 r.x.s, .int .i64 r.x.p, .int .i64 r.x.t, .int .i64 r.x.a, .int .i64 r.x.l, .int .i64 r.x.c, .int .i64 r.x.n, .int .i64 r.x.i, .string r.nm, .slice ar r.l.length cr]) := fun W hW => range_kept (D := [.int .i64 r.x.v, .int .i64 r.x.k, .int .i64 r.x.s, .int .i64 r.x.p, .int .i64 r.x.t, .int .i64 r.x.a, .int .i64 r.x.l, .int .i64 r.x.c, .int .i64 r.x.n, .int .i64 r.x.i, .string r.nm, .slice ar r.l.length cr]) hrg hW
      have y11 : wr.cell? ⟨b, off + k * 12 + 11, none⟩ = some (.slice ar r.l.length cr) := hrg 11 _ rfl
      have HOW : Hid (Laid w.heap.size wr u4 u5 ps qs ∧ Below w.heap.size w wr ∧ Bs wr (.slice ar r.l.length cr) r.l ∧ r.l.length ≤ 140737488300000) := ⟨hown, hbel, hbs, hnf⟩
      have HGB : Hid (∀ g, u4.ownBlock = some g → g < wr.heap.size) := fun g hg => (World.ownsRow.lt hown.recs.1 g hg).2
      have HGU : Hid (∀ g, u5.ownBlock = some g → g < wr.heap.size) := fun g hg => (World.ownsRow.lt hown.rows.1 g hg).2
      have hwb : w.heap.size ≤ wr.heap.size := hbel.size
      clear hcr hrg hbs hown hbel hnf HGE HRS hmap hmaq hr
      go_wp2_with (at_builtin; refine wpList_append _ rfl (.tmp 22) (.tmp 27) 23 rfl wr.heap.size hin5 Try.underlying23 _ [] rfl (Own.nil _ _) _ r.l rfl HOW.out.2.2.1 (by have := HOW.out.2.2.2; simp; omega) (Nat.le_refl _) ?_)
      intro v2 w2 o2 b2 _
      have ⟨a2, c2, m2, e2⟩ : ∃ a2, ∃ c2 m2 : Nat, v2 = .slice a2 m2 c2 := by obtain ⟨a2, c2, e, -⟩ := o2.bs.shape; exact ⟨a2, c2, _, e⟩
      subst e2
      have H2 : Hid (∀ o, Own wr.heap.size (w2.alloc o) (.slice a2 m2 c2) r.l ∧ Below wr.heap.size wr (w2.alloc o) ∧ wr.heap.size ≤ (w2.alloc o).heap.size) := fun o => ⟨o2.alloc _, up b2 _, (up b2 _).size⟩
      have H2M : Hid (Bs (w2.alloc (.cells #[.int .u8 91, .int .u8 92, .int .u8 93] 5)) (.slice (some ⟨w2.heap.size, 0, none⟩) 3 3) m91) := (Own.lit (B := w2.heap.size) w2 m91 (by intro x hx; simp [m91] at hx; omega) (Nat.le_refl _) (by simp [m91, maxLen]) _ rfl).bs
      clear o2 b2 y11
      go_wp2_with (at_builtin; refine wpList_append _ rfl (.tmp 29) (.tmp 30) 23 rfl wr.heap.size hin5 Try.underlying23 _ r.l rfl (H2.out _).1 _ m91 rfl H2M.out (by have := HOW.out.2.2.2; simp [m91]; omega) (H2.out _).2.2 ?_)
      intro v4 w4 o4 b4' _
      obtain ⟨b4, c4, rfl, hb4, hc4⟩ : ∃ b4 c4, v4 = .slice (some ⟨b4, 0, none⟩) (r.l.length + 3) c4 ∧ wr.heap.size ≤ b4 ∧ r.l.length + 3 ≤ c4 := by
        rcases o4.row.2 with ⟨e, h0⟩ | ⟨g9, c9, cur9, e, h1, h2, h3, -⟩
        · simp [m91] at h0
        · refine ⟨g9, c9, by rw [e]; simp [m91], h1, ?_⟩
          simp [m91] at h3
          omega
      have B4 : Below wr.heap.size wr w4 := (H2.out _).2.1.trans b4'
      have hr4 : w4.rangeAt b (off + k * 12) [.int .i64 r.x.v, .int .i64 r.x.k, .int .i64 r.x.s, .int .i64 r.x.p, .int .i64 r.x.t, .int .i64 r.x.a, .int .i64 r.x.l, .int .i64 r.x.c, .int .i64 r.x.n, .int .i64 r.x.i, .string r.nm, .slice ar r.l.length cr] := HR0.out w4 B4
      have hsl : ((r.l.length : Int) ≤ (c4 : Int)) = True := by simp only [eq_iff_iff, iff_true]; omega
      have HO4 : Hid (Own wr.heap.size w4 (.slice (some ⟨b4, 0, none⟩) (r.l.length + 3) c4) (r.l ++ m91) ∧ Below wr.heap.size wr w4) := ⟨o4, B4⟩
      clear o4 b4' hb4 hc4 B4 H2 H2M
      go_upto_region 12 with (refine wpList_load_mid rfl 25 _ rfl b (off + k * 12) rfl [.int .i64 r.x.v, .int .i64 r.x.k, .int .i64 r.x.s, .int .i64 r.x.p, .int .i64 r.x.t, .int .i64 r.x.a, .int .i64 r.x.l, .int .i64 r.x.c, .int .i64 r.x.n, .int .i64 r.x.i, .string r.nm, .slice ar r.l.length cr] _ hr4 Try.underlying25 rfl HIR.out ?_)
      obtain ⟨W, hW⟩ : ∃ W, W = w4.alloc (.cells #[.int .i64 r.x.v, .int .i64 r.x.k, .int .i64 r.x.s, .int .i64 r.x.p, .int .i64 r.x.t, .int .i64 r.x.a, .int .i64 r.x.l, .int .i64 r.x.c, .int .i64 r.x.n, .int .i64 r.x.i, .string r.nm, .slice (some ⟨b4, 0, none⟩) r.l.length c4] 25) := ⟨_, rfl⟩
      rw [← hW]
      have HK : Hid (W.rangeAt w4.heap.size 0 [.int .i64 r.x.v, .int .i64 r.x.k, .int .i64 r.x.s, .int .i64 r.x.p, .int .i64 r.x.t, .int .i64 r.x.a, .int .i64 r.x.l, .int .i64 r.x.c, .int .i64 r.x.n, .int .i64 r.x.i, .string r.nm, .slice (some ⟨b4, 0, none⟩) r.l.length c4] ∧ Below wr.heap.size wr W ∧ Bs W (.slice (some ⟨b4, 0, none⟩) r.l.length c4) r.l ∧ Bs W (.slice (some ⟨b4, 0, none⟩) (r.l.length + 3) c4) (r.l ++ m91) ∧ (∀ g, g < wr.heap.size → Off g (.slice (some ⟨b4, 0, none⟩) r.l.length c4) r.l) ∧ (∀ g, g < wr.heap.size → Off g (.slice (some ⟨b4, 0, none⟩) (r.l.length + 3) c4) (r.l ++ m91))) := by
        have hB := up HO4.out.2 (.cells #[.int .i64 r.x.v, .int .i64 r.x.k, .int .i64 r.x.s, .int .i64 r.x.p, .int .i64 r.x.t, .int .i64 r.x.a, .int .i64 r.x.l, .int .i64 r.x.c, .int .i64 r.x.n, .int .i64 r.x.i, .string r.nm, .slice (some ⟨b4, 0, none⟩) r.l.length c4] 25)
        have ho := HO4.out.1.alloc (.cells #[.int .i64 r.x.v, .int .i64 r.x.k, .int .i64 r.x.s, .int .i64 r.x.p, .int .i64 r.x.t, .int .i64 r.x.a, .int .i64 r.x.l, .int .i64 r.x.c, .int .i64 r.x.n, .int .i64 r.x.i, .string r.nm, .slice (some ⟨b4, 0, none⟩) r.l.length c4] 25)
        rw [← hW] at hB ho
        have hof : ∀ g, g < wr.heap.size → Off g (.slice (some ⟨b4, 0, none⟩) (r.l.length + 3) c4) (r.l ++ m91) := fun g hg => off_own ho g hg
        refine ⟨?_, hB, bs_pre ho.bs, ho.bs, fun g hg _ b off n cap e => ?_, hof⟩
        · rw [hW]
          exact (lb_new w4 [.int .i64 r.x.v, .int .i64 r.x.k, .int .i64 r.x.s, .int .i64 r.x.p, .int .i64 r.x.t, .int .i64 r.x.a, .int .i64 r.x.l, .int .i64 r.x.c, .int .i64 r.x.n, .int .i64 r.x.i, .string r.nm, .slice (some ⟨b4, 0, none⟩) r.l.length c4] 25).range
        · simp only [Value.slice.injEq, Option.some.injEq, Addr.mk.injEq] at e
          have := hof g hg (by simp [m91]) b4 0 _ c4 rfl
          omega
      clear hW hr4 HR0 hsl HO4
      have HR1 : Hid (W.rangeAt w4.heap.size 0 [.int .i64 r.x.v, .int .i64 r.x.k, .int .i64 r.x.s, .int .i64 r.x.p, .int .i64 r.x.t, .int .i64 r.x.a, .int .i64 r.x.l, .int .i64 r.x.c, .int .i64 r.x.n, .int .i64 r.x.i, .string r.nm, .slice (some ⟨b4, 0, none⟩) r.l.length c4]) := HK.out.1
      have HLA : Hid (∀ o, Laid w.heap.size (W.alloc o) u4 u5 ps qs ∧ Bs (W.alloc o) (.slice (some ⟨b4, 0, none⟩) r.l.length c4) r.l ∧ Bs (W.alloc o) (.slice (some ⟨b4, 0, none⟩) (r.l.length + 3) c4) (r.l ++ m91) ∧ Below w.heap.size w (W.alloc o) ∧ w.heap.size ≤ (W.alloc o).heap.size) := fun o => ⟨(HOW.out.1.kept HK.out.2.1).kept (up0 _ _), HK.out.2.2.1.alloc _, HK.out.2.2.2.1.alloc _, up (andThen HOW.out.2.1 HK.out.2.1) _, (up (andThen HOW.out.2.1 HK.out.2.1) _).size⟩
      have HOF : Hid ((∀ g, g < wr.heap.size → Off g (.slice (some ⟨b4, 0, none⟩) r.l.length c4) r.l) ∧ ∀ g, g < wr.heap.size → Off g (.slice (some ⟨b4, 0, none⟩) (r.l.length + 3) c4) (r.l ++ m91)) := HK.out.2.2.2.2
      have HR2 : Hid ((W.alloc (.cells #[.int .i64 r.x.v, .int .i64 r.x.k, .int .i64 r.x.s, .int .i64 r.x.p, .int .i64 r.x.t, .int .i64 r.x.a, .int .i64 r.x.l, .int .i64 r.x.c, .int .i64 r.x.n, .int .i64 r.x.i, .string r.nm, .slice (some ⟨b4, 0, none⟩) r.l.length c4] 25)).rangeAt W.heap.size 0 [.int .i64 r.x.v, .int .i64 r.x.k, .int .i64 r.x.s, .int .i64 r.x.p, .int .i64 r.x.t, .int .i64 r.x.a, .int .i64 r.x.l, .int .i64 r.x.c, .int .i64 r.x.n, .int .i64 r.x.i, .string r.nm, .slice (some ⟨b4, 0, none⟩) r.l.length c4]) := new_range W #[.int .i64 r.x.v, .int .i64 r.x.k, .int .i64 r.x.s, .int .i64 r.x.p, .int .i64 r.x.t, .int .i64 r.x.a, .int .i64 r.x.l, .int .i64 r.x.c, .int .i64 r.x.n, .int .i64 r.x.i, .string r.nm, .slice (some ⟨b4, 0, none⟩) r.l.length c4]
      clear HOW HK
      go_upto_region 13 with (first | (refine wpList_load_mid rfl 25 _ rfl w4.heap.size 0 rfl [.int .i64 r.x.v, .int .i64 r.x.k, .int .i64 r.x.s, .int .i64 r.x.p, .int .i64 r.x.t, .int .i64 r.x.a, .int .i64 r.x.l, .int .i64 r.x.c, .int .i64 r.x.n, .int .i64 r.x.i, .string r.nm, .slice (some ⟨b4, 0, none⟩) r.l.length c4] _ HR1.out Try.underlying25 rfl HIR.out ?_) | (at_builtin; refine wpList_append_rec2 _ rfl (.tmp 40) (.tmp 42) 22 rfl w.heap.size hin Try.underlying22 _ ps (r, .slice (some ⟨b4, 0, none⟩) r.l.length c4) rfl (HLA.out _).1.recs _ rfl HR2.out rfl (HLA.out _).2.1 (fun g hg => HOF.out.1 g (HGB.out g hg)) (by omega) (HLA.out _).2.2.2.2 ?_))
      intro v2 w2 hr2 hg2 he2
      have he2' : v2.ownBlock = u4.ownBlock ∨ v2.ownBlock = some ((W.alloc (.cells #[.int .i64 r.x.v, .int .i64 r.x.k, .int .i64 r.x.s, .int .i64 r.x.p, .int .i64 r.x.t, .int .i64 r.x.a, .int .i64 r.x.l, .int .i64 r.x.c, .int .i64 r.x.n, .int .i64 r.x.i, .string r.nm, .slice (some ⟨b4, 0, none⟩) r.l.length c4] 25)).heap.size) := by rw [heap_one]; exact he2
      have hL2 : Laid w.heap.size w2 v2 u5 (ps ++ [(r, .slice (some ⟨b4, 0, none⟩) r.l.length c4)]) qs := (HLA.out _).1.more _ hr2 hg2 he2' (fun g hg => HOF.out.1 g (HGU.out g hg)) (fun g hg => HOF.out.1 g (by omega))
      have hd2 : Bs w2 (.slice (some ⟨b4, 0, none⟩) (r.l.length + 3) c4) (r.l ++ m91) := bs_grown (HLA.out _).2.2.1 hg2 (fun g hg => HOF.out.2 g (HGB.out g hg))
      have HL2 : Hid (∀ o, Laid w.heap.size (w2.alloc o) v2 u5 (ps ++ [(r, .slice (some ⟨b4, 0, none⟩) r.l.length c4)]) qs ∧ Bs (w2.alloc o) (.slice (some ⟨b4, 0, none⟩) (r.l.length + 3) c4) (r.l ++ m91) ∧ Below w.heap.size w (w2.alloc o) ∧ w.heap.size ≤ (w2.alloc o).heap.size) := fun o => by
        have hb := (HLA.out _).2.2.2.1.trans (grown_below (HLA.out _).1.recs.1 hg2 (HLA.out _).2.2.2.2)
        exact ⟨hL2.kept (up0 _ _), hd2.alloc _, up hb _, (up hb _).size⟩
      have HO2 : Hid (∀ g, v2.ownBlock = some g → Off g (.slice (some ⟨b4, 0, none⟩) (r.l.length + 3) c4) (r.l ++ m91)) := fun g hg => by
        rcases he2' with e | e
        · exact HOF.out.2 g (HGB.out g (e ▸ hg))
        · rw [e] at hg
          exact off_of (HLA.out _).2.2.1 g (Nat.le_of_eq (Option.some.inj hg))
      have HC2 : Hid (∀ w' : World, (w'.alloc (.cells #[.slice (some ⟨b4, 0, none⟩) (r.l.length + 3) c4] 23)).cell? ⟨w'.heap.size, 0, none⟩ = some (.slice (some ⟨b4, 0, none⟩) (r.l.length + 3) c4)) := fun w' => by rw [World.cell?_alloc_new]; rfl
      clear hr2 hg2 he2 he2' hL2 hd2 HLA HR2 HGB HR1
      go_wp2_with (at_builtin; refine wpList_append_bs2 _ rfl (.tmp 44) (.tmp 46) 28 rfl w.heap.size hib Try.underlying28 _ qs ((r.l ++ m91), .slice (some ⟨b4, 0, none⟩) (r.l.length + 3) c4) rfl (HL2.out _).1.rows _ rfl (HC2.out _) rfl (HL2.out _).2.1 (fun g hg => HOF.out.2 g (HGU.out g hg)) (by omega) (HL2.out _).2.2.2 ?_)
      intro v3 w3 hr3 hg3 he3
      have R3 : Hid (Laid w.heap.size w3 v2 v3 (ps ++ [(r, .slice (some ⟨b4, 0, none⟩) r.l.length c4)]) (qs ++ [((r.l ++ m91), .slice (some ⟨b4, 0, none⟩) (r.l.length + 3) c4)]) ∧ Below w.heap.size w w3) := ⟨(HL2.out _).1.row _ hr3 hg3 (by rw [heap_one]; exact he3) HO2.out (fun g hg => HOF.out.2 g (by omega)), (HL2.out _).2.2.1.trans (grown_below (HL2.out _).1.rows.1 hg3 (HL2.out _).2.2.2)⟩
      clear hr3 hg3 he3 HL2 HO2 HOF HGU HC2
      go_wp2_with fail
      go_roundw
      case rel => exact ⟨k + 1, ps ++ [(r, .slice (some ⟨b4, 0, none⟩) r.l.length c4)], qs ++ [((r.l ++ m91), .slice (some ⟨b4, 0, none⟩) (r.l.length + 3) c4)], by omega, by go_num, R3.out.1, by rw [HTK.out, List.map_append, HMP.out.1]; rfl, by rw [HTK.out, List.map_append, List.map_append, HMP.out.2]; rfl, R3.out.2⟩
      case measure => simp [intOf]; omega
    · obtain rfl : k = rs.length := by omega
      rw [List.take_length] at hmap hmaq
      clear HRS HGE
      go_wp2_with fail
      go_ret2
      exact ⟨_, _, ps, qs, rfl, hown, hmap, hmaq, hbel⟩
end Go.Proofs.Ytggenlnknnhjgaa
