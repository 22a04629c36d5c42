/-
  LiftAgain: CloneAll, SameAll of the reference.
-/
import Derived.Test.YtggenlnknnhjgaaLa1
import Derived.Test.YtggenlnknnhjgaaLu6
import Derived.Test.YtggenlnknnhjgaaLe3
namespace Go.Proofs.Ytggenlnknnhjgaa
open Go Go.RowKit
open Wb

set_option maxRecDepth 100000 in
set_option maxHeartbeats 4000000 in
theorem cloneAll_any (v : Value) (rs : List Rec) (w : World) (h : RecsAt w v rs) (hg : LGood rs) :
    Calls Try.prog 12 #[v] w fun e w' => ∃ v' ps, e = .returned v' ∧ Rws w.heap.size w' v' ps ∧ ps.map Prod.fst = rs ∧ Below w.heap.size w w' := by
  have hin := infoR12
  have HIR : Hid ((Try.prog.info? 25).map (·.size) = some 12) := infoRec
  have HGE : Hid (∀ r ∈ rs, r.nm.size ≤ 1048576 ∧ r.x.fit ∧ r.l.length ≤ 1048576) := hg.each
  have hfew := hg.few
  have HRS : Hid (∀ w', Below w.heap.size w w' → RecsAt w' v rs) := fun w' hb => h.kept hb
  obtain ⟨ao, cap, rfl, hm, _⟩ := h
  unfold maxLen at hm
  clear hg
  go_enter Try.func12, Try.ntmps12
  go_wp2
  go_loopw [3, 4] (fun o i wr => ∃ (k : Nat) (ps : List (Rec × Value)), k ≤ rs.length ∧ i = .int .i64 (k : Int) ∧ Rws w.heap.size wr o ps ∧ ps.map Prod.fst = rs.take k ∧ Below w.heap.size w wr) (fun _ i _ => rs.length - (intOf i).toNat)
  case atStart => exact ⟨0, [], Nat.zero_le _, rfl, Rws.nil _ _, rfl, Below.refl _ _⟩
  case round =>
    obtain ⟨k, ps, hk, rfl, hown, hmap, hbel⟩ := hrel
    by_cases hlt : k < rs.length
    · obtain ⟨r, hr⟩ : ∃ r, rs[k]? = some r := ⟨rs[k], List.getElem?_eq_getElem hlt⟩
      obtain ⟨ao', cap', e', _, hcr⟩ := HRS.out _ hbel
      simp only [Value.slice.injEq] at e'
      obtain ⟨rfl, _, rfl⟩ := e'
      obtain ⟨b, off, d, rfl, hrg, hbs⟩ := hcr k r hr
      have hnf := HGE.out r (List.mem_of_getElem? hr)
      have HTK : Hid (rs.take (k + 1) = rs.take k ++ [r]) := by show _ = _; rw [List.take_add_one, hr]; rfl
      have HMP : Hid (ps.map Prod.fst = rs.take k) := hmap
      have hpl : ps.length = k := by
        have := congrArg List.length hmap
        simpa [Nat.min_eq_left hk] using this
      have HCL : Hid (Calls Try.prog 17 #[rv r.x r.nm d] wr fun e w'' => ∃ ao', ∃ cap' : Nat, e = .returned (rv r.x r.nm (.slice ao' r.l.length cap')) ∧ Own wr.heap.size w'' (.slice ao' r.l.length cap') r.l ∧ Below wr.heap.size wr w'') := (refclone_any r.x r.nm d r.l wr hbs (by omega)).mono fun e w'' ⟨d', he, ho, hb''⟩ => by
        obtain ⟨ao', cap', rfl, _⟩ := ho.bs.shape
        exact ⟨ao', cap', he, ho, hb''⟩
      obtain ⟨ar, cr, rfl, _⟩ := hbs.shape
      have HR0 : Hid (wr.rangeAt b (off + k * 12) [.int .i64 r.x.v, .int .i64 r.x.k, .int .i64 r.x.s, .int .i64 r.x.p, .int .i64 r.x.t, .int .i64 r.x.a, .int .i64 r.x.l, .int .i64 r.x.c, .int .i64 r.x.n, .int .i64 r.x.i, .string r.nm, .slice ar r.l.length cr]) := hrg
      have HOW : Hid (Rws w.heap.size wr u3 ps ∧ Below w.heap.size w wr) := ⟨hown, hbel⟩
      clear hcr hrg hbs hown hbel hnf HGE HRS hmap hr
      unfold rv at *
      go_wp2_with (refine wpList_load_mid rfl 25 _ rfl b (off + k * 12) rfl [.int .i64 r.x.v, .int .i64 r.x.k, .int .i64 r.x.s, .int .i64 r.x.p, .int .i64 r.x.t, .int .i64 r.x.a, .int .i64 r.x.l, .int .i64 r.x.c, .int .i64 r.x.n, .int .i64 r.x.i, .string r.nm, .slice ar r.l.length cr] _ HR0.out Try.underlying25 rfl HIR.out ?_)
      refine HCL.out.mono ?_
      rintro e w1 ⟨a1, cp1, rfl, ho1, b1⟩
      have hsz : w.heap.size ≤ wr.heap.size := HOW.out.2.size
      have HO1 : Hid (∀ o o', Rws w.heap.size ((w1.alloc o).alloc o') u3 ps ∧ Own wr.heap.size ((w1.alloc o).alloc o') (.slice a1 r.l.length cp1) r.l ∧ Below w.heap.size w ((w1.alloc o).alloc o') ∧ w.heap.size ≤ ((w1.alloc o).alloc o').heap.size ∧ ((w1.alloc o).alloc o').heap.size = w1.heap.size + 1 + 1) := fun o o' => ⟨((HOW.out.1.kept b1).kept (up0 _ _)).kept (up0 _ _), (ho1.alloc _).alloc _, up (up (andThen HOW.out.2 b1) _) _, (up (up (andThen HOW.out.2 b1) _) _).size, by rw [heap_one, heap_one]⟩
      have HOB : Hid ((∀ g, u3.ownBlock = some g → g < wr.heap.size) ∧ ∀ q ∈ ps, ∀ g, q.2.ownBlock = some g → g < wr.heap.size) := ⟨fun g hg => (World.ownsRow.lt HOW.out.1.recs.1 g hg).2, fun q hq g hg => (World.ownsRow.lt (HOW.out.1.own q hq).row g hg).2⟩
      have HOF : Hid (∀ g, g < wr.heap.size → Off g (.slice a1 r.l.length cp1) r.l) := fun g hg => off_own ho1 g hg
      have HR2 : Hid ((w1.alloc (.cells #[.int .i64 r.x.v, .int .i64 r.x.k, .int .i64 r.x.s, .int .i64 r.x.p, .int .i64 r.x.t, .int .i64 r.x.a, .int .i64 r.x.l, .int .i64 r.x.c, .int .i64 r.x.n, .int .i64 r.x.i, .string r.nm, .slice a1 r.l.length cp1] 25)).rangeAt w1.heap.size 0 [.int .i64 r.x.v, .int .i64 r.x.k, .int .i64 r.x.s, .int .i64 r.x.p, .int .i64 r.x.t, .int .i64 r.x.a, .int .i64 r.x.l, .int .i64 r.x.c, .int .i64 r.x.n, .int .i64 r.x.i, .string r.nm, .slice a1 r.l.length cp1]) := new_range w1 #[.int .i64 r.x.v, .int .i64 r.x.k, .int .i64 r.x.s, .int .i64 r.x.p, .int .i64 r.x.t, .int .i64 r.x.a, .int .i64 r.x.l, .int .i64 r.x.c, .int .i64 r.x.n, .int .i64 r.x.i, .string r.nm, .slice a1 r.l.length cp1]
      have HR3 : Hid (∀ o, ((w1.alloc o).alloc (.cells #[.int .i64 r.x.v, .int .i64 r.x.k, .int .i64 r.x.s, .int .i64 r.x.p, .int .i64 r.x.t, .int .i64 r.x.a, .int .i64 r.x.l, .int .i64 r.x.c, .int .i64 r.x.n, .int .i64 r.x.i, .string r.nm, .slice a1 r.l.length cp1] 25)).rangeAt (w1.heap.size + 1) 0 [.int .i64 r.x.v, .int .i64 r.x.k, .int .i64 r.x.s, .int .i64 r.x.p, .int .i64 r.x.t, .int .i64 r.x.a, .int .i64 r.x.l, .int .i64 r.x.c, .int .i64 r.x.n, .int .i64 r.x.i, .string r.nm, .slice a1 r.l.length cp1]) := fun o => new_range2 w1 o #[.int .i64 r.x.v, .int .i64 r.x.k, .int .i64 r.x.s, .int .i64 r.x.p, .int .i64 r.x.t, .int .i64 r.x.a, .int .i64 r.x.l, .int .i64 r.x.c, .int .i64 r.x.n, .int .i64 r.x.i, .string r.nm, .slice a1 r.l.length cp1]
      clear ho1 b1 HOW HR0 HCL
      go_wp2_with (first
        | (refine wpList_load_mid rfl 25 _ rfl w1.heap.size 0 rfl [.int .i64 r.x.v, .int .i64 r.x.k, .int .i64 r.x.s, .int .i64 r.x.p, .int .i64 r.x.t, .int .i64 r.x.a, .int .i64 r.x.l, .int .i64 r.x.c, .int .i64 r.x.n, .int .i64 r.x.i, .string r.nm, .slice a1 r.l.length cp1] _ HR2.out Try.underlying25 rfl HIR.out ?_)
        | (at_builtin; refine wpList_append_rec2 _ rfl (.tmp 17) (.tmp 19) 22 rfl w.heap.size hin Try.underlying22 _ ps (r, .slice a1 r.l.length cp1) rfl (HO1.out _ _).1.recs _ rfl (HR3.out _) rfl (HO1.out _ _).2.1.bs (fun g hg => HOF.out g (HOB.out.1 g hg)) (by omega) (HO1.out _ _).2.2.2.1 ?_))
      intro v2 w2 hr2 hg2 he2
      have R2 : Hid (Rws w.heap.size w2 v2 (ps ++ [(r, .slice a1 r.l.length cp1)]) ∧ Below w.heap.size w w2) := ⟨(HO1.out _ _).1.more _ hr2 hg2 (by rw [(HO1.out _ _).2.2.2.2]; exact he2) (HO1.out _ _).2.1 hsz HOB.out.2 HOB.out.1, (HO1.out _ _).2.2.1.trans (grown_below (HO1.out _ _).1.recs.1 hg2 (HO1.out _ _).2.2.2.1)⟩
      clear hr2 hg2 he2 HO1 HOB HOF HR2 HR3
      go_wp2
      go_roundw
      case rel => exact ⟨k + 1, ps ++ [(r, .slice a1 r.l.length cp1)], by omega, by go_num, R2.out.1, by rw [HTK.out, List.map_append, HMP.out]; rfl, R2.out.2⟩
      case measure => simp [intOf]; omega
    · obtain rfl : k = rs.length := by omega
      rw [List.take_length] at hmap
      clear HRS HGE
      go_wp2
      go_ret
      exact ⟨_, ps, rfl, hown, hmap, hbel⟩
set_option maxRecDepth 100000 in
set_option maxHeartbeats 4000000 in
theorem sameAll3_ok (va vb : Value) (rs : List Rec) (w : World) (ha : RecsAt w va rs) (hb : RecsAt w vb rs) :
    Calls Try.prog 8 #[va, vb] w fun e w' => e = .returned (.bool true) ∧ Below w.heap.size w w' := by
  have HRA : Hid (∀ w', Below w.heap.size w w' → RecsAt w' va rs) := fun w' hb => ha.kept hb
  have HRB : Hid (∀ w', Below w.heap.size w w' → RecsAt w' vb rs) := fun w' hb' => hb.kept hb'
  obtain ⟨aoa, capa, rfl, hma, _⟩ := ha
  obtain ⟨aob, capb, rfl, hmb, _⟩ := hb
  unfold maxLen at hma hmb
  have d0 : ((rs.length : Int) != (rs.length : Int)) = false := by simp
  go_enter Try.func8, Try.ntmps8
  go_wp2
  go_loopw [5] (fun i wr => ∃ k : Nat, k ≤ rs.length ∧ i = .int .i64 k ∧ Below w.heap.size w wr) (fun i _ => rs.length - (intOf i).toNat)
  case atStart => exact ⟨0, Nat.zero_le _, rfl, Below.refl _ _⟩
  case round =>
    obtain ⟨k, hk, rfl, hbel⟩ := hrel
    by_cases hlt : k < rs.length
    · obtain ⟨r, hr⟩ : ∃ r, rs[k]? = some r := ⟨rs[k], List.getElem?_eq_getElem hlt⟩
      obtain ⟨ao', cap', e', _, hcr⟩ := HRA.out _ (Below.refl _ _)
      simp only [Value.slice.injEq] at e'
      obtain ⟨rfl, _, rfl⟩ := e'
      obtain ⟨b1, off1, d1, rfl, hrg1, hbs1⟩ := hcr k r hr
      obtain ⟨ao', cap', e', _, hcr2⟩ := HRB.out _ (Below.refl _ _)
      simp only [Value.slice.injEq] at e'
      obtain ⟨rfl, _, rfl⟩ := e'
      obtain ⟨b2, off2, d2, rfl, hrg2, hbs2⟩ := hcr2 k r hr
      obtain ⟨a1, p1, rfl, _⟩ := hbs1.shape
      obtain ⟨a2, p2, rfl, _⟩ := hbs2.shape
      have HB : Hid (∀ w', Below w.heap.size w w' → (w'.cell? ⟨b1, off1 + k * 12, none⟩ = some (.int .i64 r.x.v) ∧ w'.cell? ⟨b1, off1 + k * 12 + 1, none⟩ = some (.int .i64 r.x.k) ∧ w'.cell? ⟨b1, off1 + k * 12 + 2, none⟩ = some (.int .i64 r.x.s) ∧ w'.cell? ⟨b1, off1 + k * 12 + 3, none⟩ = some (.int .i64 r.x.p) ∧ w'.cell? ⟨b1, off1 + k * 12 + 4, none⟩ = some (.int .i64 r.x.t) ∧ w'.cell? ⟨b1, off1 + k * 12 + 5, none⟩ = some (.int .i64 r.x.a) ∧ w'.cell? ⟨b1, off1 + k * 12 + 6, none⟩ = some (.int .i64 r.x.l) ∧ w'.cell? ⟨b1, off1 + k * 12 + 7, none⟩ = some (.int .i64 r.x.c) ∧ w'.cell? ⟨b1, off1 + k * 12 + 8, none⟩ = some (.int .i64 r.x.n) ∧ w'.cell? ⟨b1, off1 + k * 12 + 9, none⟩ = some (.int .i64 r.x.i) ∧ w'.cell? ⟨b1, off1 + k * 12 + 10, none⟩ = some (.string r.nm) ∧ w'.cell? ⟨b1, off1 + k * 12 + 11, none⟩ = some (.slice a1 r.l.length p1)) ∧ (w'.cell? ⟨b2, off2 + k * 12, none⟩ = some (.int .i64 r.x.v) ∧ w'.cell? ⟨b2, off2 + k * 12 + 1, none⟩ = some (.int .i64 r.x.k) ∧ w'.cell? ⟨b2, off2 + k * 12 + 2, none⟩ = some (.int .i64 r.x.s) ∧ w'.cell? ⟨b2, off2 + k * 12 + 3, none⟩ = some (.int .i64 r.x.p) ∧ w'.cell? ⟨b2, off2 + k * 12 + 4, none⟩ = some (.int .i64 r.x.t) ∧ w'.cell? ⟨b2, off2 + k * 12 + 5, none⟩ = some (.int .i64 r.x.a) ∧ w'.cell? ⟨b2, off2 + k * 12 + 6, none⟩ = some (.int .i64 r.x.l) ∧ w'.cell? ⟨b2, off2 + k * 12 + 7, none⟩ = some (.int .i64 r.x.c) ∧ w'.cell? ⟨b2, off2 + k * 12 + 8, none⟩ = some (.int .i64 r.x.n) ∧ w'.cell? ⟨b2, off2 + k * 12 + 9, none⟩ = some (.int .i64 r.x.i) ∧ w'.cell? ⟨b2, off2 + k * 12 + 10, none⟩ = some (.string r.nm) ∧ w'.cell? ⟨b2, off2 + k * 12 + 11, none⟩ = some (.slice a2 r.l.length p2))) := fun w' hb => ⟨range_cells (Lft.rng_alloc hrg1 hb), range_cells (Lft.rng_alloc hrg2 hb)⟩
      have HSA : Hid (∀ w', Below w.heap.size w w' → Calls Try.prog 18 #[.agg #[.int .i64 r.x.v, .int .i64 r.x.k, .int .i64 r.x.s, .int .i64 r.x.p, .int .i64 r.x.t, .int .i64 r.x.a, .int .i64 r.x.l, .int .i64 r.x.c, .int .i64 r.x.n, .int .i64 r.x.i, .string r.nm, .slice a1 r.l.length p1], .agg #[.int .i64 r.x.v, .int .i64 r.x.k, .int .i64 r.x.s, .int .i64 r.x.p, .int .i64 r.x.t, .int .i64 r.x.a, .int .i64 r.x.l, .int .i64 r.x.c, .int .i64 r.x.n, .int .i64 r.x.i, .string r.nm, .slice a2 r.l.length p2]] w' fun e w'' => e = .returned (.bool true) ∧ Below w'.heap.size w' w'') := fun w' hb => (refsame_any r.x r.x r.nm r.nm _ _ r.l r.l w' (hbs1.kept hb) (hbs2.kept hb)).mono fun e w'' ⟨he, hk'⟩ => ⟨by rw [he, recEq_self], hk'⟩
      have HQ := HB.out wr hbel
      clear hcr hcr2 hrg1 hrg2 hbs1 hbs2 HRA HRB hr
      go_wp2
      go_region_held (fun w' => (w'.cell? ⟨b1, off1 + k * 12, none⟩ = some (.int .i64 r.x.v) ∧ w'.cell? ⟨b1, off1 + k * 12 + 1, none⟩ = some (.int .i64 r.x.k) ∧ w'.cell? ⟨b1, off1 + k * 12 + 2, none⟩ = some (.int .i64 r.x.s) ∧ w'.cell? ⟨b1, off1 + k * 12 + 3, none⟩ = some (.int .i64 r.x.p) ∧ w'.cell? ⟨b1, off1 + k * 12 + 4, none⟩ = some (.int .i64 r.x.t) ∧ w'.cell? ⟨b1, off1 + k * 12 + 5, none⟩ = some (.int .i64 r.x.a) ∧ w'.cell? ⟨b1, off1 + k * 12 + 6, none⟩ = some (.int .i64 r.x.l) ∧ w'.cell? ⟨b1, off1 + k * 12 + 7, none⟩ = some (.int .i64 r.x.c) ∧ w'.cell? ⟨b1, off1 + k * 12 + 8, none⟩ = some (.int .i64 r.x.n) ∧ w'.cell? ⟨b1, off1 + k * 12 + 9, none⟩ = some (.int .i64 r.x.i) ∧ w'.cell? ⟨b1, off1 + k * 12 + 10, none⟩ = some (.string r.nm) ∧ w'.cell? ⟨b1, off1 + k * 12 + 11, none⟩ = some (.slice a1 r.l.length p1)) ∧ (w'.cell? ⟨b2, off2 + k * 12, none⟩ = some (.int .i64 r.x.v) ∧ w'.cell? ⟨b2, off2 + k * 12 + 1, none⟩ = some (.int .i64 r.x.k) ∧ w'.cell? ⟨b2, off2 + k * 12 + 2, none⟩ = some (.int .i64 r.x.s) ∧ w'.cell? ⟨b2, off2 + k * 12 + 3, none⟩ = some (.int .i64 r.x.p) ∧ w'.cell? ⟨b2, off2 + k * 12 + 4, none⟩ = some (.int .i64 r.x.t) ∧ w'.cell? ⟨b2, off2 + k * 12 + 5, none⟩ = some (.int .i64 r.x.a) ∧ w'.cell? ⟨b2, off2 + k * 12 + 6, none⟩ = some (.int .i64 r.x.l) ∧ w'.cell? ⟨b2, off2 + k * 12 + 7, none⟩ = some (.int .i64 r.x.c) ∧ w'.cell? ⟨b2, off2 + k * 12 + 8, none⟩ = some (.int .i64 r.x.n) ∧ w'.cell? ⟨b2, off2 + k * 12 + 9, none⟩ = some (.int .i64 r.x.i) ∧ w'.cell? ⟨b2, off2 + k * 12 + 10, none⟩ = some (.string r.nm) ∧ w'.cell? ⟨b2, off2 + k * 12 + 11, none⟩ = some (.slice a2 r.l.length p2))) (first | go_keep | (exact HB.out _ (andThen (Below.drew hbel) hb')))
        (first | (go_at_call 18; refine (HSA.out _ (Below.drew hbel)).mono ?_; rintro e w' ⟨rfl, hb'⟩))
      have hb2 : Below w.heap.size w w' := andThen (Below.drew hbel) hb'
      clear hb' hbel HB HSA HQ
      go_wp2
      go_roundw
      case rel => exact ⟨k + 1, by omega, by go_num, hb2⟩
      case measure => simp [intOf]; omega
    · go_wp2
      go_ret
      exact ⟨rfl, hbel⟩
end Go.Proofs.Ytggenlnknnhjgaa
