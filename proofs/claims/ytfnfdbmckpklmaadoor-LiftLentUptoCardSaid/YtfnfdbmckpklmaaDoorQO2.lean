import Derived.Test.YtfnfdbmckpklmaaDoorQO1
import Derived.Test.YtfnfdbmckpklmaaDoorQA1
import Derived.Test.YtfnfdbmckpklmaaDoorQE1
/-
  Up, Down, UpAll hand out memory of their own.
-/
namespace Go.Proofs.YtfnfdbmckpklmaaDoor
open Go Go.RowKit
open Wb

set_option maxRecDepth 100000 in
set_option maxHeartbeats 4000000 in
theorem up_e1O (to : Int) (r : Rec) (d : Value) (w : World) (h : Bs w d r.l) (hT : ETabs w) (hnm : r.nm.size ≤ 140737488355000) (hc : lckE to r ≠ 0) :
    Calls Tryd.prog 55 #[rv r.x r.nm d, .int .i64 to] w fun e w' => ∃ ao, ∃ cap : Nat, e = .returned (.tuple #[rv (upP to r).2.x (upP to r).2.nm (.slice ao (upP to r).2.l.length cap), .int .i64 (upP to r).1]) ∧ Own w.heap.size w' (.slice ao (upP to r).2.l.length cap) (upP to r).2.l ∧ Below w.heap.size w w' := by
  have HIR : Hid ((Tryd.prog.info? 24).map (·.size) = some 12) := infoRec
  have HX : Hid (∀ o1 o2, ((w.alloc o1).alloc o2).heap[w.heap.size]? = some o1 ∧ ((w.alloc o1).alloc o2).heap[w.heap.size + 1]? = some o2 ∧ Below w.heap.size w ((w.alloc o1).alloc o2)) := fun o1 o2 => heap2 w o1 o2
  have HCK : Hid (∀ w', Below w.heap.size w w' → Calls Tryd.prog 75 #[rv r.x r.nm d, .int .i64 to] w' fun e w'' => e = .returned (.int .i64 (lckE to r)) ∧ Below w'.heap.size w' w'') := fun w' hb' => lcheckE_any to r d w' (h.kept hb') (hT.kept hb').tabs hnm
  have HE : Hid (upP to r = (lckE to r, zRec)) := by show _ = _; unfold upP; rw [if_pos hc]
  have d1 : (lckE to r != 0) = true := by rw [bne_iff_ne]; exact hc
  rw [HE.out]
  obtain ⟨ao, cap, rfl, _⟩ := h.shape
  clear h hT hc HE
  generalize lckE to r = z at *
  simp only [zRec, zeroNums]
  unfold rv at *
  go_enter Tryd.func55, Tryd.ntmps55
  go_wp2_with fail
  refine (HCK.out _ (HX.out _ _).2.2).mono ?_
  rintro e w1 ⟨rfl, b1⟩
  have hbx : Box w1 w.heap.size r.x r.nm (.slice ao r.l.length cap) := Box.kept (HX.out _ _).1 b1
  have hz : Box w1 (w.heap.size + 1) zeroNums ⟨#[]⟩ (.slice none 0 0) := Box.kept (HX.out _ _).2.1 b1
  have B1 := andThen (HX.out _ _).2.2 b1
  clear b1 HX HCK
  obtain ⟨z0, z1, z2, z3, z4, z5, z6, z7, z8, z9, z10, z11⟩ := hz.cells
  have f0 := hz.free' 0
  have f1 := hz.free' 1
  have f2 := hz.free' 2
  have f3 := hz.free' 3
  have f4 := hz.free' 4
  have f5 := hz.free' 5
  have f6 := hz.free' 6
  have f7 := hz.free' 7
  have f8 := hz.free' 8
  have f9 := hz.free' 9
  have f10 := hz.free' 10
  have f11 := hz.free' 11
  have HTH : Hid (w1.there (w.heap.size + 1) 0 12) := hz.there
  have HBF : Hid (Below w.heap.size w (w1.setCells (w.heap.size + 1) 0 [.int .i64 0, .int .i64 0, .int .i64 0, .int .i64 0, .int .i64 0, .int .i64 0, .int .i64 0, .int .i64 0, .int .i64 0, .int .i64 0, .string ⟨#[]⟩, .slice none 0 0])) := below_cells (by omega) _ 0 _ B1
  clear hbx hz B1
  go_wp2
  have HRG := World.rangeAt_setCells_same w1 (w.heap.size + 1) 0 [.int .i64 0, .int .i64 0, .int .i64 0, .int .i64 0, .int .i64 0, .int .i64 0, .int .i64 0, .int .i64 0, .int .i64 0, .int .i64 0, .string ⟨#[]⟩, .slice none 0 0] HTH.out
  refine bodyPost_ret (results_cell_slot (p := 4) (s := 5) (ty := 24) rfl _ _ (w.heap.size + 1) [.int .i64 0, .int .i64 0, .int .i64 0, .int .i64 0, .int .i64 0, .int .i64 0, .int .i64 0, .int .i64 0, .int .i64 0, .int .i64 0, .string ⟨#[]⟩, .slice none 0 0] _ rfl HRG Tryd.underlying24 rfl HIR.out) rfl ?_
  exact ⟨none, 0, rfl, Own.nil _ _, HBF.out⟩
set_option maxRecDepth 100000 in
set_option maxHeartbeats 4000000 in
theorem up_e2O (to : Int) (r : Rec) (d : Value) (w : World) (h : Bs w d r.l) (hT : ETabs w) (hnm : r.nm.size ≤ 140737488355000) (hc : lckE to r = 0) (hv : to < r.x.v) :
    Calls Tryd.prog 55 #[rv r.x r.nm d, .int .i64 to] w fun e w' => ∃ ao, ∃ cap : Nat, e = .returned (.tuple #[rv (upP to r).2.x (upP to r).2.nm (.slice ao (upP to r).2.l.length cap), .int .i64 (upP to r).1]) ∧ Own w.heap.size w' (.slice ao (upP to r).2.l.length cap) (upP to r).2.l ∧ Below w.heap.size w w' := by
  have HIR : Hid ((Tryd.prog.info? 24).map (·.size) = some 12) := infoRec
  have HX : Hid (∀ o1 o2, ((w.alloc o1).alloc o2).heap[w.heap.size]? = some o1 ∧ ((w.alloc o1).alloc o2).heap[w.heap.size + 1]? = some o2 ∧ Below w.heap.size w ((w.alloc o1).alloc o2)) := fun o1 o2 => heap2 w o1 o2
  have HCK : Hid (∀ w', Below w.heap.size w w' → Calls Tryd.prog 75 #[rv r.x r.nm d, .int .i64 to] w' fun e w'' => e = .returned (.int .i64 (lckE to r)) ∧ Below w'.heap.size w' w'') := fun w' hb' => lcheckE_any to r d w' (h.kept hb') (hT.kept hb').tabs hnm
  have HE : Hid (upP to r = (41, zRec)) := by show _ = _; unfold upP; rw [if_neg (by simpa using hc), if_pos hv]
  rw [HE.out]
  rw [hc] at HCK
  obtain ⟨ao, cap, rfl, _⟩ := h.shape
  clear h hT hc HE
  simp only [zRec, zeroNums]
  unfold rv at *
  go_enter Tryd.func55, Tryd.ntmps55
  go_wp2_with fail
  refine (HCK.out _ (HX.out _ _).2.2).mono ?_
  rintro e w1 ⟨rfl, b1⟩
  have hbx : Box w1 w.heap.size r.x r.nm (.slice ao r.l.length cap) := Box.kept (HX.out _ _).1 b1
  have hz : Box w1 (w.heap.size + 1) zeroNums ⟨#[]⟩ (.slice none 0 0) := Box.kept (HX.out _ _).2.1 b1
  have B1 := andThen (HX.out _ _).2.2 b1
  clear b1 HX HCK
  have cv := hbx.cells.1
  obtain ⟨z0, z1, z2, z3, z4, z5, z6, z7, z8, z9, z10, z11⟩ := hz.cells
  have f0 := hz.free' 0
  have f1 := hz.free' 1
  have f2 := hz.free' 2
  have f3 := hz.free' 3
  have f4 := hz.free' 4
  have f5 := hz.free' 5
  have f6 := hz.free' 6
  have f7 := hz.free' 7
  have f8 := hz.free' 8
  have f9 := hz.free' 9
  have f10 := hz.free' 10
  have f11 := hz.free' 11
  have HTH : Hid (w1.there (w.heap.size + 1) 0 12) := hz.there
  have HBF : Hid (Below w.heap.size w (w1.setCells (w.heap.size + 1) 0 [.int .i64 0, .int .i64 0, .int .i64 0, .int .i64 0, .int .i64 0, .int .i64 0, .int .i64 0, .int .i64 0, .int .i64 0, .int .i64 0, .string ⟨#[]⟩, .slice none 0 0])) := below_cells (by omega) _ 0 _ B1
  clear hbx hz B1
  go_wp2
  have HRG := World.rangeAt_setCells_same w1 (w.heap.size + 1) 0 [.int .i64 0, .int .i64 0, .int .i64 0, .int .i64 0, .int .i64 0, .int .i64 0, .int .i64 0, .int .i64 0, .int .i64 0, .int .i64 0, .string ⟨#[]⟩, .slice none 0 0] HTH.out
  refine bodyPost_ret (results_cell_slot (p := 4) (s := 5) (ty := 24) rfl _ _ (w.heap.size + 1) [.int .i64 0, .int .i64 0, .int .i64 0, .int .i64 0, .int .i64 0, .int .i64 0, .int .i64 0, .int .i64 0, .int .i64 0, .int .i64 0, .string ⟨#[]⟩, .slice none 0 0] _ rfl HRG Tryd.underlying24 rfl HIR.out) rfl ?_
  exact ⟨none, 0, rfl, Own.nil _ _, HBF.out⟩
theorem up_O (to : Int) (r : Rec) (d : Value) (w : World) (h : Bs w d r.l) (hT : ETabs w) (hnm : r.nm.size ≤ 140737488355000) (hf : r.x.fit) :
    Calls Tryd.prog 55 #[rv r.x r.nm d, .int .i64 to] w fun e w' => OwnT w w' (upP to r) e := by
  by_cases hc : lckE to r = 0
  · by_cases hv : to < r.x.v
    · exact up_e2O to r d w h hT hnm hc hv
    · exact (up_okO to r d w h hT hnm (small_of r hf (chk_of_lck hc)) hc hv).mono fun e w' ⟨a, c, e1, _, e3, e4⟩ => ⟨a, c, e1, e3, e4⟩
  · exact up_e1O to r d w h hT hnm hc
/-- what UpAll answers: all in rows of their own -/
def UaPostO (to : Int) (rs : List Rec) (w : World) (e : Ending) (w' : World) : Prop := Below w.heap.size w w' ∧
  ((∃ ps v', (∀ r ∈ rs, (upP to r).1 = 0) ∧ e = .returned (.tuple #[v', .int .i64 0, .int .i64 0]) ∧ Rws w.heap.size w' v' ps ∧ ps.map Prod.fst = rs.map fun r => (upP to r).2) ∨
   ∃ k r, rs[k]? = some r ∧ (∀ q ∈ rs.take k, (upP to q).1 = 0) ∧ (upP to r).1 ≠ 0 ∧ e = .returned (.tuple #[.slice none 0 0, .int .i64 (k : Int), .int .i64 (upP to r).1]))
set_option maxRecDepth 100000 in
set_option maxHeartbeats 4000000 in
theorem upall_O (to : Int) (hto : 1 ≤ to ∧ to ≤ 3) (v : Value) (rs : List Rec) (w : World) (h : RecsAt w v rs) (hg : OGood rs) (hT : ETabs w) :
    Calls Tryd.prog 27 #[.int .i64 to, v] w fun e w' => UaPostO to rs w e w' := by
  have hin := infoR12
  have HIR : Hid ((Tryd.prog.info? 24).map (·.size) = some 12) := infoRec
  have HT : Hid (∀ w', Below w.heap.size w w' → ETabs w') := fun w' hb => hT.kept hb
  have HGE : Hid (∀ r ∈ rs, r.nm.size ≤ 140737488355000 ∧ r.x.fit) := fun r hr => ⟨(hg.each r hr).1, (hg.each r hr).2.1⟩
  have hfew := hg.few
  have HRS : Hid (∀ w', Below w.heap.size w w' → RecsAt w' v rs) := fun w' hb => h.kept hb
  obtain ⟨ao, cap, rfl, hm, _⟩ := h
  unfold maxLen at hm
  have dv : (decide (1 ≤ to) && decide (to ≤ 3)) = true := by simp [hto.1, hto.2]
  clear hT hg hto
  go_enter Tryd.func27, Tryd.ntmps27
  go_wp2_with fail
  refine (Lft.isV_any to _).mono ?_
  rintro e w0 ⟨rfl, rfl⟩
  rw [dv]
  clear dv
  go_wp2
  go_loopw [7, 17] (fun o i wr => ∃ (k : Nat) (ps : List (Rec × Value)), k ≤ rs.length ∧ i = .int .i64 (k : Int) ∧ (∀ q ∈ rs.take k, (upP to q).1 = 0) ∧ Rws w0.heap.size wr o ps ∧ (ps.map Prod.fst = (rs.take k).map fun r => (upP to r).2) ∧ Below w0.heap.size w0 wr) (fun _ i _ => rs.length - (intOf i).toNat)
  case atStart => exact ⟨0, [], Nat.zero_le _, rfl, (fun q hq => by simp at hq), Rws.nil _ _, rfl, Below.refl _ _⟩
  case round =>
    obtain ⟨k, ps, hk, rfl, hgood, hown, hmap, hbel⟩ := hrel
    by_cases hlt : k < rs.length
    · obtain ⟨r, hr⟩ : ∃ r, rs[k]? = some r := ⟨rs[k], List.getElem?_eq_getElem hlt⟩
      obtain ⟨ao', cap', e', _, hcr⟩ := HRS.out _ hbel
      simp only [Value.slice.injEq] at e'
      obtain ⟨rfl, _, rfl⟩ := e'
      obtain ⟨b, off, d, rfl, hrg, hbs⟩ := hcr k r hr
      have hrm : r ∈ rs := List.mem_of_getElem? hr
      have hnf := HGE.out r hrm
      have HTK : Hid (rs.take (k + 1) = rs.take k ++ [r]) := by show _ = _; rw [List.take_add_one, hr]; rfl
      have HGD : Hid (∀ q ∈ rs.take k, (upP to q).1 = 0) := hgood
      have HMP : Hid (ps.map Prod.fst = (rs.take k).map fun r => (upP to r).2) := hmap
      have hpl : ps.length = k := by
        have := congrArg List.length hmap
        simpa [Nat.min_eq_left hk] using this
      have HRR : Hid (rs[k]? = some r) := hr
      clear hcr hrm hgood hmap hr
      have HUP : Hid (∀ w', Below w0.heap.size w0 w' → Bs w' d r.l → (upP to r).1 = 0 → Calls Tryd.prog 55 #[rv r.x r.nm d, .int .i64 to] w' fun e w'' => ∃ ao, ∃ cap : Nat, e = .returned (.tuple #[rv (upP to r).2.x (upP to r).2.nm (.slice ao (upP to r).2.l.length cap), .int .i64 0]) ∧ Bs w'' (.slice ao (upP to r).2.l.length cap) (upP to r).2.l ∧ Own w'.heap.size w'' (.slice ao (upP to r).2.l.length cap) (upP to r).2.l ∧ Below w'.heap.size w' w'') := fun w' hb hbs' h0 => (up_O to r d w' hbs' (HT.out _ hb) hnf.1 hnf.2).mono fun e w'' ⟨a5, c5, e1, e2, e3⟩ => ⟨a5, c5, by rw [h0] at e1; exact e1, e2.bs, e2, e3⟩
      have HUB : Hid (∀ w', Below w0.heap.size w0 w' → Bs w' d r.l → Calls Tryd.prog 55 #[rv r.x r.nm d, .int .i64 to] w' fun e w'' => ∃ ao, ∃ cap : Nat, e = .returned (.tuple #[rv (upP to r).2.x (upP to r).2.nm (.slice ao (upP to r).2.l.length cap), .int .i64 (upP to r).1]) ∧ Bs w'' (.slice ao (upP to r).2.l.length cap) (upP to r).2.l ∧ Below w'.heap.size w' w'') := fun w' hb hbs' => (up_O to r d w' hbs' (HT.out _ hb) hnf.1 hnf.2).mono fun _ _ ⟨a9, c9, e1, o1, b1⟩ => ⟨a9, c9, e1, o1.bs, b1⟩
      obtain ⟨ar, cr, rfl, _⟩ := hbs.shape
      have HR0 : Hid (wr.rangeAt b (off + k * 12) [.int .i64 r.x.v, .int .i64 r.x.k, .int .i64 r.x.s, .int .i64 r.x.p, .int .i64 r.x.t, .int .i64 r.x.a, .int .i64 r.x.l, .int .i64 r.x.c, .int .i64 r.x.n, .int .i64 r.x.i, .string r.nm, .slice ar r.l.length cr]) := hrg
      have HR1 : Hid ((wr.alloc (.cells #[.int .i64 r.x.v, .int .i64 r.x.k, .int .i64 r.x.s, .int .i64 r.x.p, .int .i64 r.x.t, .int .i64 r.x.a, .int .i64 r.x.l, .int .i64 r.x.c, .int .i64 r.x.n, .int .i64 r.x.i, .string r.nm, .slice ar r.l.length cr] 24)).rangeAt wr.heap.size 0 [.int .i64 r.x.v, .int .i64 r.x.k, .int .i64 r.x.s, .int .i64 r.x.p, .int .i64 r.x.t, .int .i64 r.x.a, .int .i64 r.x.l, .int .i64 r.x.c, .int .i64 r.x.n, .int .i64 r.x.i, .string r.nm, .slice ar r.l.length cr]) := new_range wr #[.int .i64 r.x.v, .int .i64 r.x.k, .int .i64 r.x.s, .int .i64 r.x.p, .int .i64 r.x.t, .int .i64 r.x.a, .int .i64 r.x.l, .int .i64 r.x.c, .int .i64 r.x.n, .int .i64 r.x.i, .string r.nm, .slice ar r.l.length cr]
      have HW1 : Hid (Below w0.heap.size w0 (wr.alloc (.cells #[.int .i64 r.x.v, .int .i64 r.x.k, .int .i64 r.x.s, .int .i64 r.x.p, .int .i64 r.x.t, .int .i64 r.x.a, .int .i64 r.x.l, .int .i64 r.x.c, .int .i64 r.x.n, .int .i64 r.x.i, .string r.nm, .slice ar r.l.length cr] 24)) ∧ Bs (wr.alloc (.cells #[.int .i64 r.x.v, .int .i64 r.x.k, .int .i64 r.x.s, .int .i64 r.x.p, .int .i64 r.x.t, .int .i64 r.x.a, .int .i64 r.x.l, .int .i64 r.x.c, .int .i64 r.x.n, .int .i64 r.x.i, .string r.nm, .slice ar r.l.length cr] 24)) (.slice ar r.l.length cr) r.l ∧ Rws w0.heap.size (wr.alloc (.cells #[.int .i64 r.x.v, .int .i64 r.x.k, .int .i64 r.x.s, .int .i64 r.x.p, .int .i64 r.x.t, .int .i64 r.x.a, .int .i64 r.x.l, .int .i64 r.x.c, .int .i64 r.x.n, .int .i64 r.x.i, .string r.nm, .slice ar r.l.length cr] 24)) u7 ps) := ⟨up hbel _, hbs.alloc _, hown.kept (up0 _ _)⟩
      have hob : ∀ g, u7.ownBlock = some g → g < (wr.alloc (.cells #[.int .i64 r.x.v, .int .i64 r.x.k, .int .i64 r.x.s, .int .i64 r.x.p, .int .i64 r.x.t, .int .i64 r.x.a, .int .i64 r.x.l, .int .i64 r.x.c, .int .i64 r.x.n, .int .i64 r.x.i, .string r.nm, .slice ar r.l.length cr] 24)).heap.size := fun g hg => by
        have h1 := (World.ownsRow.lt hown.recs.1 g hg).2
        have h2 : (wr.alloc (.cells #[.int .i64 r.x.v, .int .i64 r.x.k, .int .i64 r.x.s, .int .i64 r.x.p, .int .i64 r.x.t, .int .i64 r.x.a, .int .i64 r.x.l, .int .i64 r.x.c, .int .i64 r.x.n, .int .i64 r.x.i, .string r.nm, .slice ar r.l.length cr] 24)).heap.size = wr.heap.size + 1 := by
          show (wr.heap.push _).size = _
          rw [Array.size_push]
        omega
      have HOB : Hid (∀ g, u7.ownBlock = some g → g < (wr.alloc (.cells #[.int .i64 r.x.v, .int .i64 r.x.k, .int .i64 r.x.s, .int .i64 r.x.p, .int .i64 r.x.t, .int .i64 r.x.a, .int .i64 r.x.l, .int .i64 r.x.c, .int .i64 r.x.n, .int .i64 r.x.i, .string r.nm, .slice ar r.l.length cr] 24)).heap.size) := hob
      have HOQ : Hid ((∀ q ∈ ps, ∀ g, q.2.ownBlock = some g → g < (wr.alloc (.cells #[.int .i64 r.x.v, .int .i64 r.x.k, .int .i64 r.x.s, .int .i64 r.x.p, .int .i64 r.x.t, .int .i64 r.x.a, .int .i64 r.x.l, .int .i64 r.x.c, .int .i64 r.x.n, .int .i64 r.x.i, .string r.nm, .slice ar r.l.length cr] 24)).heap.size) ∧ w0.heap.size ≤ (wr.alloc (.cells #[.int .i64 r.x.v, .int .i64 r.x.k, .int .i64 r.x.s, .int .i64 r.x.p, .int .i64 r.x.t, .int .i64 r.x.a, .int .i64 r.x.l, .int .i64 r.x.c, .int .i64 r.x.n, .int .i64 r.x.i, .string r.nm, .slice ar r.l.length cr] 24)).heap.size) := ⟨fun q hq g hg => by
        have h1 := (World.ownsRow.lt (hown.own q hq).row g hg).2
        rw [heap_one]
        omega, by rw [heap_one]; have := hbel.size; omega⟩
      clear hob hrg hbs hown hbel hnf HGE HRS HT
      unfold rv at *
      by_cases h0 : (upP to r).1 = 0
      · have H0 : Hid ((upP to r).1 = 0) := h0
        clear h0 HUB
        obtain ⟨Q, hQ⟩ : ∃ Q, (upP to r).2 = Q := ⟨_, rfl⟩
        have HQ : Hid ((upP to r).2 = Q) := hQ
        rw [hQ] at HUP
        clear hQ
        go_wp2_with (first
          | (refine wpList_load_mid rfl 24 _ rfl b (off + k * 12) rfl [.int .i64 r.x.v, .int .i64 r.x.k, .int .i64 r.x.s, .int .i64 r.x.p, .int .i64 r.x.t, .int .i64 r.x.a, .int .i64 r.x.l, .int .i64 r.x.c, .int .i64 r.x.n, .int .i64 r.x.i, .string r.nm, .slice ar r.l.length cr] _ HR0.out Tryd.underlying24 rfl HIR.out ?_)
          | (refine wpList_load_mid rfl 24 _ rfl wr.heap.size 0 rfl [.int .i64 r.x.v, .int .i64 r.x.k, .int .i64 r.x.s, .int .i64 r.x.p, .int .i64 r.x.t, .int .i64 r.x.a, .int .i64 r.x.l, .int .i64 r.x.c, .int .i64 r.x.n, .int .i64 r.x.i, .string r.nm, .slice ar r.l.length cr] _ HR1.out Tryd.underlying24 rfl HIR.out ?_))
        refine (HUP.out _ HW1.out.1 HW1.out.2.1 H0.out).mono ?_
        rintro e w1 ⟨a1, cp1, rfl, hq1, hf1, b1⟩
        have HO1 : Hid (∀ o o', Rws w0.heap.size ((w1.alloc o).alloc o') u7 ps ∧ Own (wr.alloc (.cells #[.int .i64 r.x.v, .int .i64 r.x.k, .int .i64 r.x.s, .int .i64 r.x.p, .int .i64 r.x.t, .int .i64 r.x.a, .int .i64 r.x.l, .int .i64 r.x.c, .int .i64 r.x.n, .int .i64 r.x.i, .string r.nm, .slice ar r.l.length cr] 24)).heap.size ((w1.alloc o).alloc o') (.slice a1 Q.l.length cp1) Q.l ∧ Below w0.heap.size w0 ((w1.alloc o).alloc o') ∧ w0.heap.size ≤ ((w1.alloc o).alloc o').heap.size ∧ ((w1.alloc o).alloc o').heap.size = w1.heap.size + 1 + 1) := fun o o' => ⟨((HW1.out.2.2.kept b1).kept (up0 _ _)).kept (up0 _ _), (hf1.alloc _).alloc _, up (up (andThen HW1.out.1 b1) _) _, (up (up (andThen HW1.out.1 b1) _) _).size, by rw [heap_one, heap_one]⟩
        have HOF : Hid (∀ g, u7.ownBlock = some g → Off g (.slice a1 Q.l.length cp1) Q.l) := fun g hg => off_own hf1 g (HOB.out g hg)
        have HR2 : Hid ((w1.alloc (.cells #[.int .i64 Q.x.v, .int .i64 Q.x.k, .int .i64 Q.x.s, .int .i64 Q.x.p, .int .i64 Q.x.t, .int .i64 Q.x.a, .int .i64 Q.x.l, .int .i64 Q.x.c, .int .i64 Q.x.n, .int .i64 Q.x.i, .string Q.nm, .slice a1 Q.l.length cp1] 24)).rangeAt w1.heap.size 0 [.int .i64 Q.x.v, .int .i64 Q.x.k, .int .i64 Q.x.s, .int .i64 Q.x.p, .int .i64 Q.x.t, .int .i64 Q.x.a, .int .i64 Q.x.l, .int .i64 Q.x.c, .int .i64 Q.x.n, .int .i64 Q.x.i, .string Q.nm, .slice a1 Q.l.length cp1]) := new_range w1 #[.int .i64 Q.x.v, .int .i64 Q.x.k, .int .i64 Q.x.s, .int .i64 Q.x.p, .int .i64 Q.x.t, .int .i64 Q.x.a, .int .i64 Q.x.l, .int .i64 Q.x.c, .int .i64 Q.x.n, .int .i64 Q.x.i, .string Q.nm, .slice a1 Q.l.length cp1]
        have HR3 : Hid (∀ o, ((w1.alloc o).alloc (.cells #[.int .i64 Q.x.v, .int .i64 Q.x.k, .int .i64 Q.x.s, .int .i64 Q.x.p, .int .i64 Q.x.t, .int .i64 Q.x.a, .int .i64 Q.x.l, .int .i64 Q.x.c, .int .i64 Q.x.n, .int .i64 Q.x.i, .string Q.nm, .slice a1 Q.l.length cp1] 24)).rangeAt (w1.heap.size + 1) 0 [.int .i64 Q.x.v, .int .i64 Q.x.k, .int .i64 Q.x.s, .int .i64 Q.x.p, .int .i64 Q.x.t, .int .i64 Q.x.a, .int .i64 Q.x.l, .int .i64 Q.x.c, .int .i64 Q.x.n, .int .i64 Q.x.i, .string Q.nm, .slice a1 Q.l.length cp1]) := fun o => new_range2 w1 o #[.int .i64 Q.x.v, .int .i64 Q.x.k, .int .i64 Q.x.s, .int .i64 Q.x.p, .int .i64 Q.x.t, .int .i64 Q.x.a, .int .i64 Q.x.l, .int .i64 Q.x.c, .int .i64 Q.x.n, .int .i64 Q.x.i, .string Q.nm, .slice a1 Q.l.length cp1]
        clear hq1 hf1 b1 HW1 HR0 HR1 HUP
        go_wp2_with (first
          | (refine wpList_load_mid rfl 24 _ rfl w1.heap.size 0 rfl [.int .i64 Q.x.v, .int .i64 Q.x.k, .int .i64 Q.x.s, .int .i64 Q.x.p, .int .i64 Q.x.t, .int .i64 Q.x.a, .int .i64 Q.x.l, .int .i64 Q.x.c, .int .i64 Q.x.n, .int .i64 Q.x.i, .string Q.nm, .slice a1 Q.l.length cp1] _ HR2.out Tryd.underlying24 rfl HIR.out ?_)
          | (at_builtin; refine wpList_append_rec2 _ rfl (.tmp 32) (.tmp 34) 28 rfl w0.heap.size hin Tryd.underlying28 _ ps (Q, .slice a1 Q.l.length cp1) rfl (HO1.out _ _).1.recs _ rfl (HR3.out _) rfl (HO1.out _ _).2.1.bs HOF.out (by omega) (HO1.out _ _).2.2.2.1 ?_))
        intro v2 w2 hr2 hg2 he2
        have R2 : Hid (Rws w0.heap.size w2 v2 (ps ++ [(Q, .slice a1 Q.l.length cp1)]) ∧ Below w0.heap.size w0 w2) := ⟨(HO1.out _ _).1.more _ hr2 hg2 (by rw [(HO1.out _ _).2.2.2.2]; exact he2) (HO1.out _ _).2.1 HOQ.out.2 HOQ.out.1 HOB.out, (HO1.out _ _).2.2.1.trans (grown_below (HO1.out _ _).1.recs.1 hg2 (HO1.out _ _).2.2.2.1)⟩
        clear hr2 hg2 he2 HO1 HOF HOB HOQ HR2 HR3
        go_wp2
        go_roundw
        case rel => exact ⟨k + 1, ps ++ [(Q, .slice a1 Q.l.length cp1)], by omega, by go_num, (fun q hq => by
          rw [HTK.out] at hq
          rcases List.mem_append.1 hq with hq | hq
          · exact HGD.out q hq
          · obtain rfl := List.mem_singleton.1 hq
            exact H0.out), R2.out.1, by rw [HTK.out, List.map_append, List.map_append, HMP.out, List.map_cons, List.map_cons, HQ.out]; rfl, R2.out.2⟩
        case measure => simp [intOf]; omega
      · have H0 : Hid ((upP to r).1 ≠ 0) := h0
        have d0 : ((upP to r).1 != 0) = true := by rw [bne_iff_ne]; exact h0
        have HEQ : Hid (∀ z, (upP to r).1 = z → UaPostO to rs w0 (.returned (.tuple #[.slice none 0 0, .int .i64 (k : Int), .int .i64 z])) wr → True) := fun _ _ _ => trivial
        clear h0 HUP HEQ
        obtain ⟨z, hz⟩ : ∃ z, (upP to r).1 = z := ⟨_, rfl⟩
        have HZ : Hid ((upP to r).1 = z) := hz
        rw [hz] at HUB d0
        clear hz
        generalize (upP to r).2 = Q at HUB
        go_wp2_with (first
          | (refine wpList_load_mid rfl 24 _ rfl b (off + k * 12) rfl [.int .i64 r.x.v, .int .i64 r.x.k, .int .i64 r.x.s, .int .i64 r.x.p, .int .i64 r.x.t, .int .i64 r.x.a, .int .i64 r.x.l, .int .i64 r.x.c, .int .i64 r.x.n, .int .i64 r.x.i, .string r.nm, .slice ar r.l.length cr] _ HR0.out Tryd.underlying24 rfl HIR.out ?_)
          | (refine wpList_load_mid rfl 24 _ rfl wr.heap.size 0 rfl [.int .i64 r.x.v, .int .i64 r.x.k, .int .i64 r.x.s, .int .i64 r.x.p, .int .i64 r.x.t, .int .i64 r.x.a, .int .i64 r.x.l, .int .i64 r.x.c, .int .i64 r.x.n, .int .i64 r.x.i, .string r.nm, .slice ar r.l.length cr] _ HR1.out Tryd.underlying24 rfl HIR.out ?_))
        refine (HUB.out _ HW1.out.1 HW1.out.2.1).mono ?_
        rintro e w1 ⟨a1, cp1, rfl, _, b1⟩
        have HB1 : Hid (∀ o, Below w0.heap.size w0 (w1.alloc o)) := fun o => up (andThen HW1.out.1 b1) o
        clear b1 HW1 HR0 HR1 HUB HOB HOQ
        go_wp2
        go_returns
        exact ⟨HB1.out _, .inr ⟨k, r, HRR.out, HGD.out, H0.out, by rw [HZ.out]; rfl⟩⟩
    · obtain rfl : k = rs.length := by omega
      have HGD : Hid (∀ q ∈ rs, (upP to q).1 = 0) := by
        rw [List.take_length] at hgood
        exact hgood
      have HMP : Hid (ps.map Prod.fst = rs.map fun r => (upP to r).2) := by
        rw [List.take_length] at hmap
        exact hmap
      clear hgood hmap HRS HT HGE
      go_wp2
      go_returns
      exact ⟨hbel, .inl ⟨ps, _, HGD.out, rfl, hown, HMP.out⟩⟩
end Go.Proofs.YtfnfdbmckpklmaaDoor
