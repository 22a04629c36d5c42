import Derived.Laws.AppendOwnNone
import Derived.Maps.AppendAt
import Derived.WalkSpells
import Derived.WalkLawsBesides
import Derived.Deep.RegionHeld
import Derived.Test.YtfnfdbmckpklmaaDoorQL3
import Derived.Test.YtfnfdbmckpklmaaDoorQR3
/-
  LiftEach: Up hands out memory of its own; a list of records in a row of its own.
-/
namespace Go.Proofs.YtfnfdbmckpklmaaDoor
open Go Go.RowKit
open Wb

theorem off_own {B : Nat} {w : World} {d : Value} {l : List Nat} (h : Own B w d l) (g : Nat) (hg : g < B) : Off g d l := fun hne b off n cap e => by
  rcases h.shape with ⟨_, h0⟩ | ⟨g', cap', e2, hB, _⟩
  · exact absurd h0 hne
  · rw [e2] at e
    simp only [Value.slice.injEq, Option.some.injEq, Addr.mk.injEq] at e
    omega
theorem upP_zero {to : Int} {r : Rec} (h : (upP to r).1 = 0) : lckE to r = 0 ∧ ¬ to < r.x.v := by
  unfold upP at h
  by_cases h1 : lckE to r = 0
  · rw [if_neg (by simpa using h1)] at h
    by_cases h2 : to < r.x.v
    · rw [if_pos h2] at h
      exact absurd h (by decide)
    · exact ⟨h1, h2⟩
  · rw [if_pos h1] at h
    exact absurd h h1
set_option maxRecDepth 100000 in
set_option maxHeartbeats 4000000 in
theorem up_okF (to : Int) (r : Rec) (d : Value) (w : World) (h : Bs w d r.l) (hT : LTabs w) (hnm : r.nm.size ≤ 1048576) (hs : r.small) (hc : lckE to r = 0) (hv : ¬ to < r.x.v) :
    Calls Tryd.prog 55 #[rv r.x r.nm d, .int .i64 to] w fun e w' => ∃ ao, ∃ cap : Nat, e = .returned (.tuple #[rv (upP to r).2.x (upP to r).2.nm (.slice ao (upP to r).2.l.length cap), .int .i64 (upP to r).1]) ∧ Bs w' (.slice ao (upP to r).2.l.length cap) (upP to r).2.l ∧ (∀ g, g < w.heap.size → Off g (.slice ao (upP to r).2.l.length cap) (upP to r).2.l) ∧ Below w.heap.size w w' := by
  have HIR : Hid ((Tryd.prog.info? 24).map (·.size) = some 12) := infoRec
  have HX : Hid (∀ o1 o2, ((w.alloc o1).alloc o2).heap[w.heap.size]? = some o1 ∧ ((w.alloc o1).alloc o2).heap[w.heap.size + 1]? = some o2 ∧ Below w.heap.size w ((w.alloc o1).alloc o2)) := fun o1 o2 => heap2 w o1 o2
  have HCK : Hid (∀ w', Below w.heap.size w w' → Calls Tryd.prog 75 #[rv r.x r.nm d, .int .i64 to] w' fun e w'' => e = .returned (.int .i64 (lckE to r)) ∧ Below w'.heap.size w' w'') := fun w' hb' => lcheck_any to r d w' (h.kept hb') (hT.kept hb').tabs hnm
  have HE : Hid (upP to r = (0, carP to r)) := by show _ = _; unfold upP; rw [if_neg (by simpa using hc), if_neg hv]
  rw [HE.out]
  rw [hc] at HCK
  have HCA : Hid (∀ w', Below w.heap.size w w' → Calls Tryd.prog 76 #[rv r.x r.nm d, .int .i64 to] w' fun e w'' => ∃ ao, ∃ cap : Nat, e = .returned (rv (carP to r).x (carP to r).nm (.slice ao (carP to r).l.length cap)) ∧ Bs w'' (.slice ao (carP to r).l.length cap) (carP to r).l ∧ Below w'.heap.size w' w'') := fun w' hb' => carry_any to r d w' (h.kept hb') hs (hT.kept hb').ways
  have HSM : Hid (carP to r).small := carL_small _ _ hs
  obtain ⟨ao, cap, rfl, _⟩ := h.shape
  clear h hT hc HE
  generalize carP to r = Q at *
  have HCL : Hid (∀ w' ao' (cap' : Nat), Bs w' (.slice ao' Q.l.length cap') Q.l → Calls Tryd.prog 13 #[rv Q.x Q.nm (.slice ao' Q.l.length cap')] w' fun e w'' => ∃ ao2, ∃ cap2 : Nat, e = .returned (rv Q.x Q.nm (.slice ao2 Q.l.length cap2)) ∧ Own w'.heap.size w'' (.slice ao2 Q.l.length cap2) Q.l ∧ Below w'.heap.size w' w'') := fun w' ao' cap' hb => (rclone_any Q.x Q.nm _ Q.l w' hb (by have := HSM.out.2; omega)).mono fun e w'' ⟨d', he, ho, hb''⟩ => by
    obtain ⟨ao2, cap2, rfl, _⟩ := ho.bs.shape
    exact ⟨ao2, cap2, he, ho, hb''⟩
  unfold rv at *
  go_enter Tryd.func55, Tryd.ntmps55
  go_wp2_with fail
  refine (HCK.out _ (HX.out _ _).2.2).mono ?_
  rintro e w1 ⟨rfl, b1⟩
  have hbx : Box w1 w.heap.size r.x r.nm (.slice ao r.l.length cap) := Box.kept (HX.out _ _).1 b1
  have hz : Box w1 (w.heap.size + 1) zeroNums ⟨#[]⟩ (.slice none 0 0) := Box.kept (HX.out _ _).2.1 b1
  have B1 := andThen (HX.out _ _).2.2 b1
  clear b1 HX HCK
  obtain ⟨c0, c1, c2, c3, c4, c5, c6, c7, c8, c9, c10, c11⟩ := hbx.cells
  go_wp2_with fail
  refine (HCA.out _ B1).mono ?_
  rintro e w2 ⟨ao2, cap2, rfl, hb2, b2⟩
  have hz2 := hz.kept b2
  have B2 := andThen B1 b2
  clear c0 c1 c2 c3 c4 c5 c6 c7 c8 c9 c10 c11 hbx hz b2 HCA
  go_wp2_with fail
  refine (HCL.out _ _ _ hb2).mono ?_
  rintro e w3 ⟨ao3, cap3, rfl, ho3, b3⟩
  have hz3 := hz2.kept b3
  have B3 := andThen B2 b3
  have hlt : w.heap.size + 1 < w2.heap.size := hz2.lt
  obtain ⟨z0, z1, z2, z3, z4, z5, z6, z7, z8, z9, z10, z11⟩ := hz3.cells
  have f0 := hz3.free' 0
  have f1 := hz3.free' 1
  have f2 := hz3.free' 2
  have f3 := hz3.free' 3
  have f4 := hz3.free' 4
  have f5 := hz3.free' 5
  have f6 := hz3.free' 6
  have f7 := hz3.free' 7
  have f8 := hz3.free' 8
  have f9 := hz3.free' 9
  have f10 := hz3.free' 10
  have f11 := hz3.free' 11
  have HTH : Hid (w3.there (w.heap.size + 1) 0 12) := hz3.there
  have HBF : Hid (Below w.heap.size w (w3.setCells (w.heap.size + 1) 0 [.int .i64 Q.x.v, .int .i64 Q.x.k, .int .i64 Q.x.s, .int .i64 Q.x.p, .int .i64 Q.x.t, .int .i64 Q.x.a, .int .i64 Q.x.l, .int .i64 Q.x.c, .int .i64 Q.x.n, .int .i64 Q.x.i, .string Q.nm, .slice ao3 Q.l.length cap3]) ∧ Bs (w3.setCells (w.heap.size + 1) 0 [.int .i64 Q.x.v, .int .i64 Q.x.k, .int .i64 Q.x.s, .int .i64 Q.x.p, .int .i64 Q.x.t, .int .i64 Q.x.a, .int .i64 Q.x.l, .int .i64 Q.x.c, .int .i64 Q.x.n, .int .i64 Q.x.i, .string Q.nm, .slice ao3 Q.l.length cap3]) (.slice ao3 Q.l.length cap3) Q.l) := ⟨below_cells (by omega) _ 0 _ B3, (Own.cells ho3 _ _ _ hlt).bs⟩
  have HOF : Hid (∀ g, g < w.heap.size → Off g (.slice ao3 Q.l.length cap3) Q.l) := fun g hg => off_own ho3 g (by omega)
  clear hz2 hz3 b3 hb2 ho3 B1 B2 B3 HCL
  go_wp2
  have HRG := World.rangeAt_setCells_same w3 (w.heap.size + 1) 0 [.int .i64 Q.x.v, .int .i64 Q.x.k, .int .i64 Q.x.s, .int .i64 Q.x.p, .int .i64 Q.x.t, .int .i64 Q.x.a, .int .i64 Q.x.l, .int .i64 Q.x.c, .int .i64 Q.x.n, .int .i64 Q.x.i, .string Q.nm, .slice ao3 Q.l.length cap3] HTH.out
  refine bodyPost_ret (results_cell_slot (p := 4) (s := 5) (ty := 24) rfl _ _ (w.heap.size + 1) [.int .i64 Q.x.v, .int .i64 Q.x.k, .int .i64 Q.x.s, .int .i64 Q.x.p, .int .i64 Q.x.t, .int .i64 Q.x.a, .int .i64 Q.x.l, .int .i64 Q.x.c, .int .i64 Q.x.n, .int .i64 Q.x.i, .string Q.nm, .slice ao3 Q.l.length cap3] _ rfl HRG Tryd.underlying24 rfl HIR.out) rfl ?_
  exact ⟨ao3, cap3, rfl, HBF.out.2, HOF.out, HBF.out.1⟩
theorem up_F (to : Int) (r : Rec) (d : Value) (w : World) (h : Bs w d r.l) (hT : LTabs w) (hnm : r.nm.size ≤ 1048576) (hf : r.x.fit) (h0 : (upP to r).1 = 0) :
    Calls Tryd.prog 55 #[rv r.x r.nm d, .int .i64 to] w fun e w' => ∃ ao, ∃ cap : Nat, e = .returned (.tuple #[rv (upP to r).2.x (upP to r).2.nm (.slice ao (upP to r).2.l.length cap), .int .i64 0]) ∧ Bs w' (.slice ao (upP to r).2.l.length cap) (upP to r).2.l ∧ (∀ g, g < w.heap.size → Off g (.slice ao (upP to r).2.l.length cap) (upP to r).2.l) ∧ Below w.heap.size w w' := by
  obtain ⟨hc, hv⟩ := upP_zero h0
  have := up_okF to r d w h hT hnm (small_of r hf (chk_of_lck hc)) hc hv
  rwa [h0] at this

/-- the cells of a record -/
def rcl (p : Rec × Value) : List Value := [.int .i64 p.1.x.v, .int .i64 p.1.x.k, .int .i64 p.1.x.s, .int .i64 p.1.x.p, .int .i64 p.1.x.t, .int .i64 p.1.x.a, .int .i64 p.1.x.l, .int .i64 p.1.x.c, .int .i64 p.1.x.n, .int .i64 p.1.x.i, .string p.1.nm, p.2]
theorem rcls_len : ∀ ps : List (Rec × Value), (ps.flatMap rcl).length = ps.length * 12
  | [] => rfl
  | p :: ps => by
    rw [List.flatMap_cons, List.length_append, rcls_len ps, List.length_cons]
    show 12 + ps.length * 12 = (ps.length + 1) * 12
    omega
theorem rcls_get : ∀ (ps : List (Rec × Value)) (k : Nat) (h : k < ps.length) (j : Nat), j < 12 → (ps.flatMap rcl)[k * 12 + j]? = (rcl ps[k])[j]?
  | q :: qs, 0, _, j, hj => by
    rw [List.flatMap_cons, List.getElem?_append_left (by show 0 * 12 + j < 12; omega)]
    simp
  | q :: qs, k + 1, h, j, hj => by
    rw [List.flatMap_cons, List.getElem?_append_right (by show 12 ≤ _; omega)]
    have := rcls_get qs k (by simpa using h) j hj
    rw [show (k + 1) * 12 + j - (rcl q).length = k * 12 + j by show (k + 1) * 12 + j - 12 = _; omega]
    simpa using this
/-- records in a row of its own -/
def Outs (B : Nat) (w : World) (v : Value) (ps : List (Rec × Value)) : Prop := w.ownsRow B 24 12 v ps.length (ps.flatMap rcl) ∧ ∀ p ∈ ps, Bs w p.2 p.1.l ∧ ∀ g, v.ownBlock = some g → Off g p.2 p.1.l
theorem Outs.nil (B : Nat) (w : World) : Outs B w (.slice none 0 0) [] := ⟨World.ownsRow_nil _ _ _ _, fun _ h => by cases h⟩
theorem ownsRec_kept {B : Nat} {w w' : World} {v : Value} {n : Nat} {cs : List Value} (h : w.ownsRow B 24 12 v n cs) (hb : Below w.heap.size w w') : w'.ownsRow B 24 12 v n cs := by
  refine ⟨h.1, ?_⟩
  rcases h.2 with h1 | ⟨g, cap, cur, rfl, h1, hg, rest⟩
  · exact .inl h1
  · exact .inr ⟨g, cap, cur, rfl, h1, (hb.block g (Array.getElem?_eq_some_iff.1 hg).1).trans hg, rest⟩
theorem Outs.kept {B : Nat} {w w' : World} {v : Value} {ps : List (Rec × Value)} (h : Outs B w v ps) (hb : Below w.heap.size w w') : Outs B w' v ps := ⟨ownsRec_kept h.1 hb, fun p hp => ⟨(h.2 p hp).1.kept hb, (h.2 p hp).2⟩⟩
theorem Outs.shape {B : Nat} {w : World} {v : Value} {ps : List (Rec × Value)} (h : Outs B w v ps) : ∃ ao cap, v = .slice ao ps.length cap ∧ cap ≤ maxLen ∧ (∀ k, k < ps.length → ∃ g, ao = some ⟨g, 0, none⟩) ∧
    ∀ g, ao = some ⟨g, 0, none⟩ → ∀ k (hk : k < ps.length), w.rangeAt g (k * 12) (rcl ps[k]) := by
  have h0 := h.1
  rcases h.1.2 with ⟨rfl, h1⟩ | ⟨g, cap, cur, rfl, hb, hg, h1, h2, h3, h4⟩
  · exact ⟨none, 0, by rw [h1], by simp [maxLen], fun k hk => by omega, fun g e => by cases e⟩
  · refine ⟨some ⟨g, 0, none⟩, cap, rfl, h2, fun k _ => ⟨g, rfl⟩, fun g' e k hk j u hu => ?_⟩
    obtain rfl : g = g' := by simpa using e
    have hj : j < 12 := (List.getElem?_eq_some_iff.1 hu).1
    have hl := rcls_len ps
    rw [← hu, ← rcls_get ps k hk j hj]
    exact World.ownsRow.cellAt h0 (k * 12 + j) (by rw [Nat.mul_comm]; omega)
/-- bytes elsewhere stay -/
theorem bs_grown {w w' : World} {d : Value} {l : List Nat} {row : Option Nat} (h : Bs w d l) (hg : w.grownBy w' row) (ho : ∀ g, row = some g → Off g d l) : Bs w' d l := by
  obtain ⟨ao, cap, rfl, h1, h2, h3, h4⟩ := h.shape
  refine ⟨⟨ao, cap, rfl, h1, h2, h3, fun hne => ?_⟩, h.good⟩
  obtain ⟨b, off, rfl, hc⟩ := h4 hne
  refine ⟨b, off, rfl, fun j hj => ?_⟩
  have hcj := hc j hj
  rw [← hcj]
  refine World.cell?_of_block (w := w) (hg.block b (World.block_lt_of_cell? w _ hcj) (fun e => ?_))
  exact ho b e.symm hne b off _ _ rfl rfl
theorem infoR12 : (Tryd.prog.info? 24).map (fun i => (i.zero, i.size, i.bytes)) = some (some (.agg #[.int .i64 0, .int .i64 0, .int .i64 0, .int .i64 0, .int .i64 0, .int .i64 0, .int .i64 0, .int .i64 0, .int .i64 0, .int .i64 0, .string ⟨#[]⟩, .slice none 0 0]), 12, 120) := by kernel_rfl
/-- append(v, x) of one record -/
theorem wpList_append_rec {P : Program} (w : World) {ops : Array Oper} {rest : List Oper} {o : Oper} {a : Act} {Q : Exit → Act → World → Prop} (hgd : o.guard = none) (s x : Operand) (t : TypeId)
    (ho : o.op = .call { callee := .builtin .append, args := #[s, x], argTypes := #[t, t] })
    (B : Nat) (hinfo : (P.info? 24).map (fun i => (i.zero, i.size, i.bytes)) = some (some (.agg #[.int .i64 0, .int .i64 0, .int .i64 0, .int .i64 0, .int .i64 0, .int .i64 0, .int .i64 0, .int .i64 0, .int .i64 0, .int .i64 0, .string ⟨#[]⟩, .slice none 0 0]), 12, 120)) (ht : P.underlying t = some (.slice 24))
    (v : Value) (ps : List (Rec × Value)) (q : Rec × Value) (hv : a.eval s = v) (h : Outs B w v ps) (g : Nat) (hx : a.eval x = .slice (some ⟨g, 0, none⟩) 1 1)
    (hc : w.rangeAt g 0 (rcl q)) (hq : q.2.oneCell' = true) (hq2 : Bs w q.2 q.1.l) (hqo : ∀ g, v.ownBlock = some g → Off g q.2 q.1.l)
    (hmax : (ps.length + 1) * 120 ≤ 140737488355328) (hB : B ≤ w.heap.size)
    (hK : ∀ v' w', Outs B w' v' (ps ++ [q]) → Below B w w' → w.grownBy w' v.ownBlock → wpList P ops Q rest (a.put o.dst v') w') : wpList P ops Q (o :: rest) a w := by
  obtain ⟨i0, hi, hz0, hz1, hz2⟩ := Lft.info_parts3 hinfo
  refine wpList_append_own_at w hgd s x t ho B 24 i0 _ 12 120 ht hi hz0 hz1 hz2 rfl (by decide) v ps.length (ps.flatMap rcl) hv h.1 ⟨g, 0, none⟩ 1 1 (rcl q) hx rfl ?_ ?_ (by unfold maxLen; omega) (by omega) hB ?_
  · intro j u hj
    have := hc j u hj
    rw [Addr.add_lit]
    exact this
  · intro u hu
    simp only [rcl, List.mem_cons, List.not_mem_nil, or_false] at hu
    rcases hu with rfl | rfl | rfl | rfl | rfl | rfl | rfl | rfl | rfl | rfl | rfl | rfl
    all_goals first | rfl | exact hq
  · intro v' w' h2 h3 _ h5
    have hown : w'.ownsRow B 24 12 v' (ps ++ [q]).length ((ps ++ [q]).flatMap rcl) := by
      rw [List.length_append, List.flatMap_append]
      simpa using h2
    have hof : ∀ p : Rec × Value, Bs w p.2 p.1.l → (∀ g, v.ownBlock = some g → Off g p.2 p.1.l) → Bs w' p.2 p.1.l ∧ ∀ g, v'.ownBlock = some g → Off g p.2 p.1.l := fun p hb ho => ⟨bs_grown hb h3 ho, fun g hg => by
      rcases h5 with e | e
      · exact ho g (e ▸ hg)
      · rw [e] at hg
        exact off_of hb g (Nat.le_of_eq (Option.some.inj hg))⟩
    refine hK v' w' ⟨hown, fun p hp => ?_⟩ ((Below.refl B w).grown h3 hB (fun k hk => (World.ownsRow.lt h.1 k hk).1)) h3
    rcases List.mem_append.1 hp with hp | hp
    · exact hof p (h.2 p hp).1 (h.2 p hp).2
    · obtain rfl := List.mem_singleton.1 hp
      exact hof _ hq2 hqo
end Go.Proofs.YtfnfdbmckpklmaaDoor

/-
  LiftEach: UpAll.
-/
namespace Go.Proofs.YtfnfdbmckpklmaaDoor
open Go Go.RowKit
open Wb

/-- a list of records that was handed in -/
def RecsAt (w : World) (v : Value) (rs : List Rec) : Prop := ∃ ao cap, v = .slice ao rs.length cap ∧ rs.length ≤ maxLen ∧ ∀ k r, rs[k]? = some r → ∃ b off d, ao = some ⟨b, off, none⟩ ∧ w.rangeAt b (off + k * 12) (rcl (r, d)) ∧ Bs w d r.l
theorem RecsAt.kept {w w' : World} {v : Value} {rs : List Rec} (h : RecsAt w v rs) (hb : Below w.heap.size w w') : RecsAt w' v rs := by
  obtain ⟨ao, cap, e, hm, hc⟩ := h
  refine ⟨ao, cap, e, hm, fun k r hr => ?_⟩
  obtain ⟨b, off, d, e2, h1, h2⟩ := hc k r hr
  refine ⟨b, off, d, e2, fun j v hv => ?_, h2.kept hb⟩
  have h3 := h1 j v hv
  rw [hb.cell (World.block_lt_of_cell? w _ h3)]
  exact h3
structure RGood (rs : List Rec) : Prop where
  each : ∀ r ∈ rs, r.nm.size ≤ 1048576 ∧ r.x.fit
  few : rs.length * 120 ≤ 140737488355328
/-- what UpAll answers -/
def UaPost (to : Int) (rs : List Rec) (w : World) (e : Ending) (w' : World) : Prop := Below w.heap.size w w' ∧
  ((∃ ps v', (∀ r ∈ rs, (upP to r).1 = 0) ∧ e = .returned (.tuple #[v', .int .i64 0, .int .i64 0]) ∧ Outs w.heap.size w' v' ps ∧ ps.map Prod.fst = rs.map fun r => (upP to r).2) ∨
   ∃ k r, rs[k]? = some r ∧ (∀ q ∈ rs.take k, (upP to q).1 = 0) ∧ (upP to r).1 ≠ 0 ∧ e = .returned (.tuple #[.slice none 0 0, .int .i64 (k : Int), .int .i64 (upP to r).1]))
theorem new_range (w : World) (cs : Array Value) : (w.alloc (.cells cs 24)).rangeAt w.heap.size 0 cs.toList := by
  have h : (w.alloc (.cells cs 24)).heap[w.heap.size]? = some (.cells cs 24) := Array.getElem?_push_size
  have h2 := World.rangeAt_of_block h 0 cs.size
  simpa using h2
theorem new_range2 (w : World) (o : Obj) (cs : Array Value) : ((w.alloc o).alloc (.cells cs 24)).rangeAt (w.heap.size + 1) 0 cs.toList := by
  have h2 := World.rangeAt_of_block (heap2 w o (.cells cs 24)).2.1 0 cs.size
  simpa using h2
set_option maxRecDepth 100000 in
set_option maxHeartbeats 4000000 in
theorem upall_any (to : Int) (hto : 1 ≤ to ∧ to ≤ 3) (v : Value) (rs : List Rec) (w : World) (h : RecsAt w v rs) (hg : RGood rs) (hT : LTabs w) :
    Calls Tryd.prog 27 #[.int .i64 to, v] w fun e w' => UaPost to rs w e w' := by
  have hin := infoR12
  have HIR : Hid ((Tryd.prog.info? 24).map (·.size) = some 12) := infoRec
  have HT : Hid (∀ w', Below w.heap.size w w' → LTabs w') := fun w' hb => hT.kept hb
  have HGE : Hid (∀ r ∈ rs, r.nm.size ≤ 1048576 ∧ r.x.fit) := hg.each
  have hfew := hg.few
  have HRS : Hid (∀ w', Below w.heap.size w w' → RecsAt w' v rs) := fun w' hb => h.kept hb
  obtain ⟨ao, cap, rfl, hm, _⟩ := h
  unfold maxLen at hm
  have dv : (decide (1 ≤ to) && decide (to ≤ 3)) = true := by simp [hto.1, hto.2]
  clear hT hg hto
  go_enter Tryd.func27, Tryd.ntmps27
  go_wp2_with fail
  refine (Lft.isV_any to _).mono ?_
  rintro e w0 ⟨rfl, rfl⟩
  rw [dv]
  clear dv
  go_wp2
  go_loopw [7, 17] (fun o i wr => ∃ (k : Nat) (ps : List (Rec × Value)), k ≤ rs.length ∧ i = .int .i64 (k : Int) ∧ (∀ q ∈ rs.take k, (upP to q).1 = 0) ∧ Outs w0.heap.size wr o ps ∧ (ps.map Prod.fst = (rs.take k).map fun r => (upP to r).2) ∧ Below w0.heap.size w0 wr) (fun _ i _ => rs.length - (intOf i).toNat)
  case atStart => exact ⟨0, [], Nat.zero_le _, rfl, (fun q hq => by simp at hq), Outs.nil _ _, rfl, Below.refl _ _⟩
  case round =>
    obtain ⟨k, ps, hk, rfl, hgood, hown, hmap, hbel⟩ := hrel
    by_cases hlt : k < rs.length
    · obtain ⟨r, hr⟩ : ∃ r, rs[k]? = some r := ⟨rs[k], List.getElem?_eq_getElem hlt⟩
      obtain ⟨ao', cap', e', _, hcr⟩ := HRS.out _ hbel
      simp only [Value.slice.injEq] at e'
      obtain ⟨rfl, _, rfl⟩ := e'
      obtain ⟨b, off, d, rfl, hrg, hbs⟩ := hcr k r hr
      have hrm : r ∈ rs := List.mem_of_getElem? hr
      have hnf := HGE.out r hrm
      have HTK : Hid (rs.take (k + 1) = rs.take k ++ [r]) := by show _ = _; rw [List.take_add_one, hr]; rfl
      have HGD : Hid (∀ q ∈ rs.take k, (upP to q).1 = 0) := hgood
      have HMP : Hid (ps.map Prod.fst = (rs.take k).map fun r => (upP to r).2) := hmap
      have hpl : ps.length = k := by
        have := congrArg List.length hmap
        simpa [Nat.min_eq_left hk] using this
      have HRR : Hid (rs[k]? = some r) := hr
      clear hcr hrm hgood hmap hr
      have HUP : Hid (∀ w', Below w0.heap.size w0 w' → Bs w' d r.l → (upP to r).1 = 0 → Calls Tryd.prog 55 #[rv r.x r.nm d, .int .i64 to] w' fun e w'' => ∃ ao, ∃ cap : Nat, e = .returned (.tuple #[rv (upP to r).2.x (upP to r).2.nm (.slice ao (upP to r).2.l.length cap), .int .i64 0]) ∧ Bs w'' (.slice ao (upP to r).2.l.length cap) (upP to r).2.l ∧ (∀ g, g < w'.heap.size → Off g (.slice ao (upP to r).2.l.length cap) (upP to r).2.l) ∧ Below w'.heap.size w' w'') := fun w' hb hbs' h0 => up_F to r d w' hbs' (HT.out _ hb) hnf.1 hnf.2 h0
      have HUB : Hid (∀ w', Below w0.heap.size w0 w' → Bs w' d r.l → Calls Tryd.prog 55 #[rv r.x r.nm d, .int .i64 to] w' fun e w'' => ∃ ao, ∃ cap : Nat, e = .returned (.tuple #[rv (upP to r).2.x (upP to r).2.nm (.slice ao (upP to r).2.l.length cap), .int .i64 (upP to r).1]) ∧ Bs w'' (.slice ao (upP to r).2.l.length cap) (upP to r).2.l ∧ Below w'.heap.size w' w'') := fun w' hb hbs' => up_any to r d w' hbs' (HT.out _ hb) hnf.1 hnf.2
      obtain ⟨ar, cr, rfl, _⟩ := hbs.shape
      have HR0 : Hid (wr.rangeAt b (off + k * 12) [.int .i64 r.x.v, .int .i64 r.x.k, .int .i64 r.x.s, .int .i64 r.x.p, .int .i64 r.x.t, .int .i64 r.x.a, .int .i64 r.x.l, .int .i64 r.x.c, .int .i64 r.x.n, .int .i64 r.x.i, .string r.nm, .slice ar r.l.length cr]) := hrg
      have HR1 : Hid ((wr.alloc (.cells #[.int .i64 r.x.v, .int .i64 r.x.k, .int .i64 r.x.s, .int .i64 r.x.p, .int .i64 r.x.t, .int .i64 r.x.a, .int .i64 r.x.l, .int .i64 r.x.c, .int .i64 r.x.n, .int .i64 r.x.i, .string r.nm, .slice ar r.l.length cr] 24)).rangeAt wr.heap.size 0 [.int .i64 r.x.v, .int .i64 r.x.k, .int .i64 r.x.s, .int .i64 r.x.p, .int .i64 r.x.t, .int .i64 r.x.a, .int .i64 r.x.l, .int .i64 r.x.c, .int .i64 r.x.n, .int .i64 r.x.i, .string r.nm, .slice ar r.l.length cr]) := new_range wr #[.int .i64 r.x.v, .int .i64 r.x.k, .int .i64 r.x.s, .int .i64 r.x.p, .int .i64 r.x.t, .int .i64 r.x.a, .int .i64 r.x.l, .int .i64 r.x.c, .int .i64 r.x.n, .int .i64 r.x.i, .string r.nm, .slice ar r.l.length cr]
      have HW1 : Hid (Below w0.heap.size w0 (wr.alloc (.cells #[.int .i64 r.x.v, .int .i64 r.x.k, .int .i64 r.x.s, .int .i64 r.x.p, .int .i64 r.x.t, .int .i64 r.x.a, .int .i64 r.x.l, .int .i64 r.x.c, .int .i64 r.x.n, .int .i64 r.x.i, .string r.nm, .slice ar r.l.length cr] 24)) ∧ Bs (wr.alloc (.cells #[.int .i64 r.x.v, .int .i64 r.x.k, .int .i64 r.x.s, .int .i64 r.x.p, .int .i64 r.x.t, .int .i64 r.x.a, .int .i64 r.x.l, .int .i64 r.x.c, .int .i64 r.x.n, .int .i64 r.x.i, .string r.nm, .slice ar r.l.length cr] 24)) (.slice ar r.l.length cr) r.l ∧ Outs w0.heap.size (wr.alloc (.cells #[.int .i64 r.x.v, .int .i64 r.x.k, .int .i64 r.x.s, .int .i64 r.x.p, .int .i64 r.x.t, .int .i64 r.x.a, .int .i64 r.x.l, .int .i64 r.x.c, .int .i64 r.x.n, .int .i64 r.x.i, .string r.nm, .slice ar r.l.length cr] 24)) u7 ps) := ⟨up hbel _, hbs.alloc _, hown.kept (up0 _ _)⟩
      have hob : ∀ g, u7.ownBlock = some g → g < (wr.alloc (.cells #[.int .i64 r.x.v, .int .i64 r.x.k, .int .i64 r.x.s, .int .i64 r.x.p, .int .i64 r.x.t, .int .i64 r.x.a, .int .i64 r.x.l, .int .i64 r.x.c, .int .i64 r.x.n, .int .i64 r.x.i, .string r.nm, .slice ar r.l.length cr] 24)).heap.size := fun g hg => by
        have h1 := (World.ownsRow.lt hown.1 g hg).2
        have h2 : (wr.alloc (.cells #[.int .i64 r.x.v, .int .i64 r.x.k, .int .i64 r.x.s, .int .i64 r.x.p, .int .i64 r.x.t, .int .i64 r.x.a, .int .i64 r.x.l, .int .i64 r.x.c, .int .i64 r.x.n, .int .i64 r.x.i, .string r.nm, .slice ar r.l.length cr] 24)).heap.size = wr.heap.size + 1 := by
          show (wr.heap.push _).size = _
          rw [Array.size_push]
        omega
      have HOB : Hid (∀ g, u7.ownBlock = some g → g < (wr.alloc (.cells #[.int .i64 r.x.v, .int .i64 r.x.k, .int .i64 r.x.s, .int .i64 r.x.p, .int .i64 r.x.t, .int .i64 r.x.a, .int .i64 r.x.l, .int .i64 r.x.c, .int .i64 r.x.n, .int .i64 r.x.i, .string r.nm, .slice ar r.l.length cr] 24)).heap.size) := hob
      clear hob hrg hbs hown hbel hnf HGE HRS HT
      unfold rv at *
      by_cases h0 : (upP to r).1 = 0
      · have H0 : Hid ((upP to r).1 = 0) := h0
        clear h0 HUB
        obtain ⟨Q, hQ⟩ : ∃ Q, (upP to r).2 = Q := ⟨_, rfl⟩
        have HQ : Hid ((upP to r).2 = Q) := hQ
        rw [hQ] at HUP
        clear hQ
        go_wp2_with (first
          | (refine wpList_load_mid rfl 24 _ rfl b (off + k * 12) rfl [.int .i64 r.x.v, .int .i64 r.x.k, .int .i64 r.x.s, .int .i64 r.x.p, .int .i64 r.x.t, .int .i64 r.x.a, .int .i64 r.x.l, .int .i64 r.x.c, .int .i64 r.x.n, .int .i64 r.x.i, .string r.nm, .slice ar r.l.length cr] _ HR0.out Tryd.underlying24 rfl HIR.out ?_)
          | (refine wpList_load_mid rfl 24 _ rfl wr.heap.size 0 rfl [.int .i64 r.x.v, .int .i64 r.x.k, .int .i64 r.x.s, .int .i64 r.x.p, .int .i64 r.x.t, .int .i64 r.x.a, .int .i64 r.x.l, .int .i64 r.x.c, .int .i64 r.x.n, .int .i64 r.x.i, .string r.nm, .slice ar r.l.length cr] _ HR1.out Tryd.underlying24 rfl HIR.out ?_))
        refine (HUP.out _ HW1.out.1 HW1.out.2.1 H0.out).mono ?_
        rintro e w1 ⟨a1, cp1, rfl, hq1, hf1, b1⟩
        have HO1 : Hid (∀ o o', Outs w0.heap.size ((w1.alloc o).alloc o') u7 ps ∧ Bs ((w1.alloc o).alloc o') (.slice a1 Q.l.length cp1) Q.l ∧ Below w0.heap.size w0 ((w1.alloc o).alloc o') ∧ w0.heap.size ≤ ((w1.alloc o).alloc o').heap.size) := fun o o' => ⟨((HW1.out.2.2.kept b1).kept (up0 _ _)).kept (up0 _ _), (hq1.alloc _).alloc _, up (up (andThen HW1.out.1 b1) _) _, (up (up (andThen HW1.out.1 b1) _) _).size⟩
        have HOF : Hid (∀ g, u7.ownBlock = some g → Off g (.slice a1 Q.l.length cp1) Q.l) := fun g hg => hf1 g (HOB.out g hg)
        have HR2 : Hid ((w1.alloc (.cells #[.int .i64 Q.x.v, .int .i64 Q.x.k, .int .i64 Q.x.s, .int .i64 Q.x.p, .int .i64 Q.x.t, .int .i64 Q.x.a, .int .i64 Q.x.l, .int .i64 Q.x.c, .int .i64 Q.x.n, .int .i64 Q.x.i, .string Q.nm, .slice a1 Q.l.length cp1] 24)).rangeAt w1.heap.size 0 [.int .i64 Q.x.v, .int .i64 Q.x.k, .int .i64 Q.x.s, .int .i64 Q.x.p, .int .i64 Q.x.t, .int .i64 Q.x.a, .int .i64 Q.x.l, .int .i64 Q.x.c, .int .i64 Q.x.n, .int .i64 Q.x.i, .string Q.nm, .slice a1 Q.l.length cp1]) := new_range w1 #[.int .i64 Q.x.v, .int .i64 Q.x.k, .int .i64 Q.x.s, .int .i64 Q.x.p, .int .i64 Q.x.t, .int .i64 Q.x.a, .int .i64 Q.x.l, .int .i64 Q.x.c, .int .i64 Q.x.n, .int .i64 Q.x.i, .string Q.nm, .slice a1 Q.l.length cp1]
        have HR3 : Hid (∀ o, ((w1.alloc o).alloc (.cells #[.int .i64 Q.x.v, .int .i64 Q.x.k, .int .i64 Q.x.s, .int .i64 Q.x.p, .int .i64 Q.x.t, .int .i64 Q.x.a, .int .i64 Q.x.l, .int .i64 Q.x.c, .int .i64 Q.x.n, .int .i64 Q.x.i, .string Q.nm, .slice a1 Q.l.length cp1] 24)).rangeAt (w1.heap.size + 1) 0 [.int .i64 Q.x.v, .int .i64 Q.x.k, .int .i64 Q.x.s, .int .i64 Q.x.p, .int .i64 Q.x.t, .int .i64 Q.x.a, .int .i64 Q.x.l, .int .i64 Q.x.c, .int .i64 Q.x.n, .int .i64 Q.x.i, .string Q.nm, .slice a1 Q.l.length cp1]) := fun o => new_range2 w1 o #[.int .i64 Q.x.v, .int .i64 Q.x.k, .int .i64 Q.x.s, .int .i64 Q.x.p, .int .i64 Q.x.t, .int .i64 Q.x.a, .int .i64 Q.x.l, .int .i64 Q.x.c, .int .i64 Q.x.n, .int .i64 Q.x.i, .string Q.nm, .slice a1 Q.l.length cp1]
        clear hq1 hf1 b1 HW1 HR0 HR1 HUP HOB
        go_wp2_with (first
          | (refine wpList_load_mid rfl 24 _ rfl w1.heap.size 0 rfl [.int .i64 Q.x.v, .int .i64 Q.x.k, .int .i64 Q.x.s, .int .i64 Q.x.p, .int .i64 Q.x.t, .int .i64 Q.x.a, .int .i64 Q.x.l, .int .i64 Q.x.c, .int .i64 Q.x.n, .int .i64 Q.x.i, .string Q.nm, .slice a1 Q.l.length cp1] _ HR2.out Tryd.underlying24 rfl HIR.out ?_)
          | (at_builtin; refine wpList_append_rec _ rfl (.tmp 32) (.tmp 34) 28 rfl w0.heap.size hin Tryd.underlying28 _ ps (Q, .slice a1 Q.l.length cp1) rfl (HO1.out _ _).1 _ rfl (HR3.out _) rfl (HO1.out _ _).2.1 HOF.out (by omega) (HO1.out _ _).2.2.2 ?_))
        intro v2 w2 hr2 hb2 _
        have R2 : Hid (Outs w0.heap.size w2 v2 (ps ++ [(Q, .slice a1 Q.l.length cp1)]) ∧ Below w0.heap.size w0 w2) := ⟨hr2, (HO1.out _ _).2.2.1.trans hb2⟩
        clear hr2 hb2 HO1 HOF HR2 HR3
        go_wp2
        go_roundw
        case rel => exact ⟨k + 1, ps ++ [(Q, .slice a1 Q.l.length cp1)], by omega, by go_num, (fun q hq => by
          rw [HTK.out] at hq
          rcases List.mem_append.1 hq with hq | hq
          · exact HGD.out q hq
          · obtain rfl := List.mem_singleton.1 hq
            exact H0.out), R2.out.1, by rw [HTK.out, List.map_append, List.map_append, HMP.out, List.map_cons, List.map_cons, HQ.out]; rfl, R2.out.2⟩
        case measure => simp [intOf]; omega
      · have H0 : Hid ((upP to r).1 ≠ 0) := h0
        have d0 : ((upP to r).1 != 0) = true := by rw [bne_iff_ne]; exact h0
        have HEQ : Hid (∀ z, (upP to r).1 = z → UaPost to rs w0 (.returned (.tuple #[.slice none 0 0, .int .i64 (k : Int), .int .i64 z])) wr → True) := fun _ _ _ => trivial
        clear h0 HUP HEQ
        obtain ⟨z, hz⟩ : ∃ z, (upP to r).1 = z := ⟨_, rfl⟩
        have HZ : Hid ((upP to r).1 = z) := hz
        rw [hz] at HUB d0
        clear hz
        generalize (upP to r).2 = Q at HUB
        go_wp2_with (first
          | (refine wpList_load_mid rfl 24 _ rfl b (off + k * 12) rfl [.int .i64 r.x.v, .int .i64 r.x.k, .int .i64 r.x.s, .int .i64 r.x.p, .int .i64 r.x.t, .int .i64 r.x.a, .int .i64 r.x.l, .int .i64 r.x.c, .int .i64 r.x.n, .int .i64 r.x.i, .string r.nm, .slice ar r.l.length cr] _ HR0.out Tryd.underlying24 rfl HIR.out ?_)
          | (refine wpList_load_mid rfl 24 _ rfl wr.heap.size 0 rfl [.int .i64 r.x.v, .int .i64 r.x.k, .int .i64 r.x.s, .int .i64 r.x.p, .int .i64 r.x.t, .int .i64 r.x.a, .int .i64 r.x.l, .int .i64 r.x.c, .int .i64 r.x.n, .int .i64 r.x.i, .string r.nm, .slice ar r.l.length cr] _ HR1.out Tryd.underlying24 rfl HIR.out ?_))
        refine (HUB.out _ HW1.out.1 HW1.out.2.1).mono ?_
        rintro e w1 ⟨a1, cp1, rfl, _, b1⟩
        have HB1 : Hid (∀ o, Below w0.heap.size w0 (w1.alloc o)) := fun o => up (andThen HW1.out.1 b1) o
        clear b1 HW1 HR0 HR1 HUB HOB
        go_wp2
        go_returns
        exact ⟨HB1.out _, .inr ⟨k, r, HRR.out, HGD.out, H0.out, by rw [HZ.out]; rfl⟩⟩
    · obtain rfl : k = rs.length := by omega
      have HGD : Hid (∀ q ∈ rs, (upP to q).1 = 0) := by
        rw [List.take_length] at hgood
        exact hgood
      have HMP : Hid (ps.map Prod.fst = rs.map fun r => (upP to r).2) := by
        rw [List.take_length] at hmap
        exact hmap
      clear hgood hmap HRS HT HGE
      go_wp2
      go_returns
      exact ⟨hbel, .inl ⟨ps, _, HGD.out, rfl, hown, HMP.out⟩⟩
end Go.Proofs.YtfnfdbmckpklmaaDoor

/-
  LiftEach: the law's walk.
-/
namespace Go.Proofs.YtfnfdbmckpklmaaDoor
open Go Go.RowKit
open Wb

theorem range_cells {w : World} {g o : Nat} {p : Rec × Value} (h : w.rangeAt g o (rcl p)) : (w.cell? ⟨g, o, none⟩ = some (.int .i64 p.1.x.v) ∧ w.cell? ⟨g, o + 1, none⟩ = some (.int .i64 p.1.x.k) ∧ w.cell? ⟨g, o + 2, none⟩ = some (.int .i64 p.1.x.s) ∧ w.cell? ⟨g, o + 3, none⟩ = some (.int .i64 p.1.x.p) ∧ w.cell? ⟨g, o + 4, none⟩ = some (.int .i64 p.1.x.t) ∧ w.cell? ⟨g, o + 5, none⟩ = some (.int .i64 p.1.x.a) ∧ w.cell? ⟨g, o + 6, none⟩ = some (.int .i64 p.1.x.l) ∧ w.cell? ⟨g, o + 7, none⟩ = some (.int .i64 p.1.x.c) ∧ w.cell? ⟨g, o + 8, none⟩ = some (.int .i64 p.1.x.n) ∧ w.cell? ⟨g, o + 9, none⟩ = some (.int .i64 p.1.x.i) ∧ w.cell? ⟨g, o + 10, none⟩ = some (.string p.1.nm) ∧ w.cell? ⟨g, o + 11, none⟩ = some (p.2)) := ⟨h 0 _ rfl, h 1 _ rfl, h 2 _ rfl, h 3 _ rfl, h 4 _ rfl, h 5 _ rfl, h 6 _ rfl, h 7 _ rfl, h 8 _ rfl, h 9 _ rfl, h 10 _ rfl, h 11 _ rfl⟩
theorem lnum_any (z : Int) (w : World) : Calls Tryd.prog 56 #[.int .i64 z] w fun e w' => e = .returned (.int .i64 z) ∧ w' = w := by
  go_enter Tryd.func56, Tryd.ntmps56
  go_wp2
  go_ret
  exact ⟨rfl, rfl⟩
def oneR : Rec := ⟨⟨2, 7, 9, 0, 0, 0, 0, 0, 0, 0⟩, ⟨#[]⟩, []⟩
theorem one_up : upP 3 oneR = (0, ⟨⟨3, 7, 9, 0, 0, 0, 0, 0, 0, 0⟩, ⟨#[]⟩, []⟩) := by kernel_rfl
theorem one_fit : oneR.x.fit := fun t h1 h9 => by
  obtain rfl | rfl | rfl | rfl | rfl | rfl | rfl | rfl | rfl : t = 1 ∨ t = 2 ∨ t = 3 ∨ t = 4 ∨ t = 5 ∨ t = 6 ∨ t = 7 ∨ t = 8 ∨ t = 9 := by omega
  all_goals decide
theorem one_any (w : World) (hT : LTabs w) : Calls Tryd.prog 27 #[.int .i64 3, .slice (some ⟨w.heap.size, 0, none⟩) 1 1] (w.alloc (.cells #[.int .i64 2, .int .i64 7, .int .i64 9, .int .i64 0, .int .i64 0, .int .i64 0, .int .i64 0, .int .i64 0, .int .i64 0, .int .i64 0, .string ⟨#[]⟩, .slice none 0 0] 24)) fun e w' => ∃ g, ∃ cap : Nat, e = .returned (.tuple #[.slice (some ⟨g, 0, none⟩) 1 cap, .int .i64 0, .int .i64 0]) ∧ w'.cell? ⟨g, 0, none⟩ = some (.int .i64 3) ∧ w'.cell? ⟨g, 2, none⟩ = some (.int .i64 9) ∧ Below w.heap.size w w' := by
  refine (upall_any 3 (by decide) _ [oneR] _ ⟨_, _, rfl, by simp [maxLen], fun k r hr => ?_⟩ ⟨fun r hr => ?_, by decide⟩ (hT.kept (up0 _ _))).mono ?_
  · cases k with
    | zero =>
      obtain rfl : oneR = r := by simpa using hr
      exact ⟨w.heap.size, 0, .slice none 0 0, rfl, new_range w #[.int .i64 2, .int .i64 7, .int .i64 9, .int .i64 0, .int .i64 0, .int .i64 0, .int .i64 0, .int .i64 0, .int .i64 0, .int .i64 0, .string ⟨#[]⟩, .slice none 0 0], Bs.nil _⟩
    | succ k => simp at hr
  · obtain rfl := List.mem_singleton.1 hr
    exact ⟨by decide, one_fit⟩
  · rintro e w' ⟨hb, ⟨ps, v', _, rfl, ho, hm⟩ | ⟨k, r, hr, _, hz, _⟩⟩
    · rw [List.map_cons, List.map_nil, one_up] at hm
      match ps, hm with
      | [(q, d)], hm =>
        simp only [List.map_cons, List.map_nil, List.cons.injEq, and_true] at hm
        subst hm
        obtain ⟨ao, cap, rfl, _, h1, h2⟩ := ho.shape
        obtain ⟨g, rfl⟩ := h1 0 (by simp)
        have h3 := h2 g rfl 0 (by simp)
        exact ⟨g, cap, rfl, by simpa using h3 0 _ rfl, by simpa using h3 2 _ rfl, andThen (up0 _ _) hb⟩
    · cases k with
      | zero =>
        obtain rfl : oneR = r := by simpa using hr
        exact absurd (by rw [one_up]) hz
      | succ k => simp at hr
set_option maxRecDepth 100000 in
set_option maxHeartbeats 1000000 in
theorem upall_ver (to : Int) (hto : ¬ (1 ≤ to ∧ to ≤ 3)) (v : Value) (n : Nat) (ao : Option Addr) (cap : Nat) (w : World) (hv : v = .slice ao n cap) :
    Calls Tryd.prog 27 #[.int .i64 to, v] w fun e w' => e = .returned (.tuple #[.slice none 0 0, .int .i64 0, .int .i64 3]) ∧ Below w.heap.size w w' := by
  subst hv
  have dv : (decide (1 ≤ to) && decide (to ≤ 3)) = false := by
    rw [Bool.and_eq_false_iff]
    by_cases h : 1 ≤ to
    · right; exact decide_eq_false (fun h2 => hto ⟨h, h2⟩)
    · left; exact decide_eq_false h
  clear hto
  go_enter Tryd.func27, Tryd.ntmps27
  go_wp2_with fail
  refine (Lft.isV_any to _).mono ?_
  rintro e w0 ⟨rfl, rfl⟩
  rw [dv]
  clear dv
  go_wp2
  go_returns
  exact ⟨rfl, Below.refl _ _⟩
end Go.Proofs.YtfnfdbmckpklmaaDoor
