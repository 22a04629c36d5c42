/-
  RewriteLent: what its loop holds.
-/
import Derived.Test.YtggenlnknnhjgaaRy4
import Derived.Test.YtggenlnknnhjgaaRz9
namespace Go.Proofs.Ytggenlnknnhjgaa
open Go Go.RowKit Go.ChangeShapes
open Wb
open Cb
set_option maxRecDepth 100000 in
set_option maxHeartbeats 4000000 in
theorem cloneAllB_any (v : Value) (rs : List Rec) (w : World) (h : RecsAt w v rs) (hg : LBig rs) :
    Calls Try.prog 12 #[v] w fun e w' => ∃ v' ps, e = .returned v' ∧ Rws w.heap.size w' v' ps ∧ ps.map Prod.fst = rs ∧ Below w.heap.size w w' := by
  have hin := infoR12
  have HIR : Hid ((Try.prog.info? 25).map (·.size) = some 12) := infoRec
  have HGE : Hid (∀ r ∈ rs, r.x.fit ∧ r.l.length ≤ 140737488355000) := hg.each
  have hfew := hg.few
  have HRS : Hid (∀ w', Below w.heap.size w w' → RecsAt w' v rs) := fun w' hb => h.kept hb
  obtain ⟨ao, cap, rfl, hm, _⟩ := h
  unfold maxLen at hm
  clear hg
  go_enter Try.func12, Try.ntmps12
  go_wp2
  go_loopw [3, 4] (fun o i wr => ∃ (k : Nat) (ps : List (Rec × Value)), k ≤ rs.length ∧ i = .int .i64 (k : Int) ∧ Rws w.heap.size wr o ps ∧ ps.map Prod.fst = rs.take k ∧ Below w.heap.size w wr) (fun _ i _ => rs.length - (intOf i).toNat)
  case atStart => exact ⟨0, [], Nat.zero_le _, rfl, Rws.nil _ _, rfl, Below.refl _ _⟩
  case round =>
    obtain ⟨k, ps, hk, rfl, hown, hmap, hbel⟩ := hrel
    by_cases hlt : k < rs.length
    · obtain ⟨r, hr⟩ : ∃ r, rs[k]? = some r := ⟨rs[k], List.getElem?_eq_getElem hlt⟩
      obtain ⟨ao', cap', e', _, hcr⟩ := HRS.out _ hbel
      simp only [Value.slice.injEq] at e'
      obtain ⟨rfl, _, rfl⟩ := e'
      obtain ⟨b, off, d, rfl, hrg, hbs⟩ := hcr k r hr
      have hnf := HGE.out r (List.mem_of_getElem? hr)
      have HTK : Hid (rs.take (k + 1) = rs.take k ++ [r]) := by show _ = _; rw [List.take_add_one, hr]; rfl
      have HMP : Hid (ps.map Prod.fst = rs.take k) := hmap
      have hpl : ps.length = k := by
        have := congrArg List.length hmap
        simpa [Nat.min_eq_left hk] using this
      have HCL : Hid (Calls Try.prog 17 #[rv r.x r.nm d] wr fun e w'' => ∃ ao', ∃ cap' : Nat, e = .returned (rv r.x r.nm (.slice ao' r.l.length cap')) ∧ Own wr.heap.size w'' (.slice ao' r.l.length cap') r.l ∧ Below wr.heap.size wr w'') := (refclone_any r.x r.nm d r.l wr hbs (by omega)).mono fun e w'' ⟨d', he, ho, hb''⟩ => by
        obtain ⟨ao', cap', rfl, _⟩ := ho.bs.shape
        exact ⟨ao', cap', he, ho, hb''⟩
      obtain ⟨ar, cr, rfl, _⟩ := hbs.shape
      have HR0 : Hid (wr.rangeAt b (off + k * 12) [.int .i64 r.x.v, .int .i64 r.x.k, .int .i64 r.x.s, .int .i64 r.x.p, .int .i64 r.x.t, .int .i64 r.x.a, .int .i64 r.x.l, .int .i64 r.x.c, .int .i64 r.x.n, .int .i64 r.x.i, .string r.nm, .slice ar r.l.length cr]) := hrg
      have HOW : Hid (Rws w.heap.size wr u3 ps ∧ Below w.heap.size w wr) := ⟨hown, hbel⟩
      clear hcr hrg hbs hown hbel hnf HGE HRS hmap hr
      unfold rv at *
      go_wp2_with (refine wpList_load_mid rfl 25 _ rfl b (off + k * 12) rfl [.int .i64 r.x.v, .int .i64 r.x.k, .int .i64 r.x.s, .int .i64 r.x.p, .int .i64 r.x.t, .int .i64 r.x.a, .int .i64 r.x.l, .int .i64 r.x.c, .int .i64 r.x.n, .int .i64 r.x.i, .string r.nm, .slice ar r.l.length cr] _ HR0.out Try.underlying25 rfl HIR.out ?_)
      refine HCL.out.mono ?_
      rintro e w1 ⟨a1, cp1, rfl, ho1, b1⟩
      have hsz : w.heap.size ≤ wr.heap.size := HOW.out.2.size
      have HO1 : Hid (∀ o o', Rws w.heap.size ((w1.alloc o).alloc o') u3 ps ∧ Own wr.heap.size ((w1.alloc o).alloc o') (.slice a1 r.l.length cp1) r.l ∧ Below w.heap.size w ((w1.alloc o).alloc o') ∧ w.heap.size ≤ ((w1.alloc o).alloc o').heap.size ∧ ((w1.alloc o).alloc o').heap.size = w1.heap.size + 1 + 1) := fun o o' => ⟨((HOW.out.1.kept b1).kept (up0 _ _)).kept (up0 _ _), (ho1.alloc _).alloc _, up (up (andThen HOW.out.2 b1) _) _, (up (up (andThen HOW.out.2 b1) _) _).size, by rw [heap_one, heap_one]⟩
      have HOB : Hid ((∀ g, u3.ownBlock = some g → g < wr.heap.size) ∧ ∀ q ∈ ps, ∀ g, q.2.ownBlock = some g → g < wr.heap.size) := ⟨fun g hg => (World.ownsRow.lt HOW.out.1.recs.1 g hg).2, fun q hq g hg => (World.ownsRow.lt (HOW.out.1.own q hq).row g hg).2⟩
      have HOF : Hid (∀ g, g < wr.heap.size → Off g (.slice a1 r.l.length cp1) r.l) := fun g hg => off_own ho1 g hg
      have HR2 : Hid ((w1.alloc (.cells #[.int .i64 r.x.v, .int .i64 r.x.k, .int .i64 r.x.s, .int .i64 r.x.p, .int .i64 r.x.t, .int .i64 r.x.a, .int .i64 r.x.l, .int .i64 r.x.c, .int .i64 r.x.n, .int .i64 r.x.i, .string r.nm, .slice a1 r.l.length cp1] 25)).rangeAt w1.heap.size 0 [.int .i64 r.x.v, .int .i64 r.x.k, .int .i64 r.x.s, .int .i64 r.x.p, .int .i64 r.x.t, .int .i64 r.x.a, .int .i64 r.x.l, .int .i64 r.x.c, .int .i64 r.x.n, .int .i64 r.x.i, .string r.nm, .slice a1 r.l.length cp1]) := new_range w1 #[.int .i64 r.x.v, .int .i64 r.x.k, .int .i64 r.x.s, .int .i64 r.x.p, .int .i64 r.x.t, .int .i64 r.x.a, .int .i64 r.x.l, .int .i64 r.x.c, .int .i64 r.x.n, .int .i64 r.x.i, .string r.nm, .slice a1 r.l.length cp1]
      have HR3 : Hid (∀ o, ((w1.alloc o).alloc (.cells #[.int .i64 r.x.v, .int .i64 r.x.k, .int .i64 r.x.s, .int .i64 r.x.p, .int .i64 r.x.t, .int .i64 r.x.a, .int .i64 r.x.l, .int .i64 r.x.c, .int .i64 r.x.n, .int .i64 r.x.i, .string r.nm, .slice a1 r.l.length cp1] 25)).rangeAt (w1.heap.size + 1) 0 [.int .i64 r.x.v, .int .i64 r.x.k, .int .i64 r.x.s, .int .i64 r.x.p, .int .i64 r.x.t, .int .i64 r.x.a, .int .i64 r.x.l, .int .i64 r.x.c, .int .i64 r.x.n, .int .i64 r.x.i, .string r.nm, .slice a1 r.l.length cp1]) := fun o => new_range2 w1 o #[.int .i64 r.x.v, .int .i64 r.x.k, .int .i64 r.x.s, .int .i64 r.x.p, .int .i64 r.x.t, .int .i64 r.x.a, .int .i64 r.x.l, .int .i64 r.x.c, .int .i64 r.x.n, .int .i64 r.x.i, .string r.nm, .slice a1 r.l.length cp1]
      clear ho1 b1 HOW HR0 HCL
      go_wp2_with (first
        | (refine wpList_load_mid rfl 25 _ rfl w1.heap.size 0 rfl [.int .i64 r.x.v, .int .i64 r.x.k, .int .i64 r.x.s, .int .i64 r.x.p, .int .i64 r.x.t, .int .i64 r.x.a, .int .i64 r.x.l, .int .i64 r.x.c, .int .i64 r.x.n, .int .i64 r.x.i, .string r.nm, .slice a1 r.l.length cp1] _ HR2.out Try.underlying25 rfl HIR.out ?_)
        | (at_builtin; refine wpList_append_rec2 _ rfl (.tmp 17) (.tmp 19) 22 rfl w.heap.size hin Try.underlying22 _ ps (r, .slice a1 r.l.length cp1) rfl (HO1.out _ _).1.recs _ rfl (HR3.out _) rfl (HO1.out _ _).2.1.bs (fun g hg => HOF.out g (HOB.out.1 g hg)) (by omega) (HO1.out _ _).2.2.2.1 ?_))
      intro v2 w2 hr2 hg2 he2
      have R2 : Hid (Rws w.heap.size w2 v2 (ps ++ [(r, .slice a1 r.l.length cp1)]) ∧ Below w.heap.size w w2) := ⟨(HO1.out _ _).1.more _ hr2 hg2 (by rw [(HO1.out _ _).2.2.2.2]; exact he2) (HO1.out _ _).2.1 hsz HOB.out.2 HOB.out.1, (HO1.out _ _).2.2.1.trans (grown_below (HO1.out _ _).1.recs.1 hg2 (HO1.out _ _).2.2.2.1)⟩
      clear hr2 hg2 he2 HO1 HOB HOF HR2 HR3
      go_wp2
      go_roundw
      case rel => exact ⟨k + 1, ps ++ [(r, .slice a1 r.l.length cp1)], by omega, by go_num, R2.out.1, by rw [HTK.out, List.map_append, HMP.out]; rfl, R2.out.2⟩
      case measure => simp [intOf]; omega
    · obtain rfl : k = rs.length := by omega
      rw [List.take_length] at hmap
      clear HRS HGE
      go_wp2
      go_ret
      exact ⟨_, ps, rfl, hown, hmap, hbel⟩
/-- append of one record to a row of the call's own: the row alone -/
theorem wpList_append_recO {P : Program} (w : World) {ops : Array Oper} {rest : List Oper} {o : Oper} {a : Act} {Q : Exit → Act → World → Prop} (hgd : o.guard = none) (s x : Operand) (t : TypeId)
    (ho : o.op = .call { callee := .builtin .append, args := #[s, x], argTypes := #[t, t] })
    (B : Nat) (hinfo : (P.info? 25).map (fun i => (i.zero, i.size, i.bytes)) = some (some (.agg #[.int .i64 0, .int .i64 0, .int .i64 0, .int .i64 0, .int .i64 0, .int .i64 0, .int .i64 0, .int .i64 0, .int .i64 0, .int .i64 0, .string ⟨#[]⟩, .slice none 0 0]), 12, 120)) (ht : P.underlying t = some (.slice 25))
    (v : Value) (n : Nat) (cs : List Value) (hv : a.eval s = v) (h : w.ownsRow B 25 12 v n cs) (g m c : Nat) (D : List Value) (hx : a.eval x = .slice (some ⟨g, 0, none⟩) m c)
    (hc : w.rangeAt g 0 D) (hD : D.length = m * 12) (h1 : ∀ u ∈ D, u.oneCell' = true)
    (hmax : (n + m) * 120 ≤ 140737488355328) (hB : B ≤ w.heap.size)
    (hK : ∀ v' w', w'.ownsRow B 25 12 v' (n + m) (cs ++ D) → Below B w w' → w.grownBy w' v.ownBlock → wpList P ops Q rest (a.put o.dst v') w') : wpList P ops Q (o :: rest) a w := by
  obtain ⟨i0, hi, hz0, hz1, hz2⟩ := Lft.info_parts3 hinfo
  obtain ⟨v', w', hrun, h2, h3, _⟩ := run_append_own (P := P) w B t o.type 25 i0 _ 12 120 ht hi hz0 hz1 hz2 rfl (by decide) v n cs h ⟨g, 0, none⟩ m c D hD (fun j u hj => by
    have := hc j u hj
    rw [Addr.add_lit]
    exact this) h1 (by unfold maxLen; omega) (by omega) hB
  refine wpList_plain hgd fun _ hK' => ?_
  unfold Oper.wp
  simp [execOp, ho, resolve, invoke, builtin, hv, hx, hrun, Result.andThen]
  exact hK' _ _ (hK v' w' h2 ((Below.refl B w).grown h3 hB (fun k hk => (World.ownsRow.lt h k hk).1)) h3)
theorem LS2.sm {rs : List Rec} (h : LS2 rs) : LSm rs := ⟨fun r hr => ⟨(h.each r hr).1, by have := (h.each r hr).2; omega⟩, by have := h.few; omega⟩
/-- the two records behind the list -/
def mA : Rec × Value := (⟨⟨-7, -77, 0, 0, 0, 0, 0, 0, 0, 0⟩, ⟨#[]⟩, []⟩, .slice none 0 0)
def mB : Rec × Value := (⟨⟨-8, -78, 0, 0, 0, 0, 0, 0, 0, 0⟩, ⟨#[]⟩, []⟩, .slice none 0 0)
section
variable {B B2 : Nat} {w w' : World} {v v' : Value} {ps : List (Rec × Value)}
/-- the beginning of a list -/
theorem Rws.pre {a : Option Addr} {N c : Nat} {ms : List (Rec × Value)} (h : Rws B w (.slice a N c) (ps ++ ms)) (hm : ms ≠ [] ∨ N = ps.length) : Rws B w (.slice a ps.length c) ps := by
  by_cases hms : ms = []
  · subst hms
    rw [List.append_nil] at h
    have hN : N = ps.length := hm.resolve_left (by simp)
    subst hN
    exact h
  have ho : ∀ p ∈ ps, Own B w p.2 p.1.l := fun p hp => h.own p (List.mem_append_left _ hp)
  rcases h.recs.1.2 with ⟨e, h0⟩ | ⟨g, cap, cur, e, h1, h2, h3, h4, h5, h6⟩
  · rw [List.length_append] at h0
    have := List.length_pos_iff.2 hms
    omega
  · simp only [Value.slice.injEq] at e
    obtain ⟨rfl, -, rfl⟩ := e
    refine ⟨⟨⟨by rw [rcls_len], .inr ⟨g, c, cur, rfl, h1, h2, ?_, h4, h5, ?_⟩⟩, fun p hp => ⟨(ho p hp).bs, fun q hq => (h.recs.2 p (List.mem_append_left _ hp)).2 q hq⟩⟩, ho, fun i j p q hi hj => h.apart i j p q ?_ ?_, fun p hp q hq => h.row p (List.mem_append_left _ hp) q hq⟩
    · rw [List.length_append] at h3
      omega
    · have h7 := congrArg (List.take (ps.length * 12)) h6
      rw [List.take_take, List.length_append, Nat.min_eq_left (by omega), List.flatMap_append, List.take_append_of_le_length (by rw [rcls_len]; omega)] at h7
      rw [h7]
      exact List.take_of_length_le (by rw [rcls_len]; omega)
    · rw [List.getElem?_append_left (List.getElem?_eq_some_iff.1 hi).1]; exact hi
    · rw [List.getElem?_append_left (List.getElem?_eq_some_iff.1 hj).1]; exact hj
/-- two records without data behind a list -/
theorem Rws.app2 (h : Rws B w v ps) (hr : w'.ownsRow B 25 12 v' (ps.length + 2) (ps.flatMap rcl ++ (rcl mA ++ rcl mB))) (hg : w.grownBy w' v.ownBlock) (hv : v'.ownBlock = v.ownBlock ∨ v'.ownBlock = some w.heap.size ∨ ∀ q, v'.ownBlock = some q → w.heap.size ≤ q) : Rws B w' v' (ps ++ [mA, mB]) := by
  have ho : ∀ p ∈ ps, Own B w' p.2 p.1.l := fun p hp => own_kept2 (h.own p hp) fun q e => hg.block q (World.ownsRow.lt (h.own p hp).row q e).2 fun e2 => h.row p hp q e2.symm e
  have hcase : ∀ p ∈ ps ++ [mA, mB], p ∈ ps ∨ (p.2 = .slice none 0 0 ∧ p.1.l = []) := fun p hp => by
    rcases List.mem_append.1 hp with hp | hp
    · exact .inl hp
    · simp only [List.mem_cons, List.not_mem_nil, or_false] at hp
      rcases hp with rfl | rfl <;> exact .inr ⟨rfl, rfl⟩
  have hoo : ∀ p ∈ ps ++ [mA, mB], Own B w' p.2 p.1.l := fun p hp => by
    rcases hcase p hp with hp | ⟨e1, e2⟩
    · exact ho p hp
    · rw [e1, e2]
      exact Own.nil _ _
  have hrow : ∀ p ∈ ps ++ [mA, mB], ∀ q, v'.ownBlock = some q → p.2.ownBlock ≠ some q := fun p hp q e e2 => by
    rcases hcase p hp with hp | ⟨e1, -⟩
    · have hlt := (World.ownsRow.lt (h.own p hp).row q e2).2
      rcases hv with e3 | e3 | e3
      · exact h.row p hp q (e3.symm.trans e) e2
      · rw [e3] at e
        have := Option.some.inj e
        omega
      · have := e3 q e
        omega
    · rw [e1] at e2
      cases e2
  refine ⟨⟨?_, fun p hp => ⟨(hoo p hp).bs, fun q e => off_block (hrow p hp q e)⟩⟩, hoo, fun i j p q hi hj hij x e1 e2 => ?_, hrow⟩
  · have e : (ps ++ [mA, mB]).flatMap rcl = ps.flatMap rcl ++ (rcl mA ++ rcl mB) := by
      rw [List.flatMap_append]
      simp
    rw [e, List.length_append]
    exact hr
  · have hc : ∀ (i : Nat) (p : Rec × Value), (ps ++ [mA, mB])[i]? = some p → p.2.ownBlock = some x → ps[i]? = some p := fun i p hi e => by
      by_cases hlt : i < ps.length
      · rw [List.getElem?_append_left hlt] at hi
        exact hi
      · rw [List.getElem?_append_right (by omega)] at hi
        have hm := List.mem_of_getElem? hi
        simp only [List.mem_cons, List.not_mem_nil, or_false] at hm
        rcases hm with rfl | rfl <;> cases e
    exact h.apart i j p q (hc i p hi e1) (hc j q hj e2) hij x e1 e2
/-- the data of one record are cut -/
theorem Rws.cut {g cap : Nat} {N : Nat} (h : Rws B w (.slice (some ⟨g, 0, none⟩) N cap) ps) (hN : N = ps.length) (i m : Nat) (r : Rec) (gd cd : Nat) (hi : ps[i]? = some (r, .slice (some ⟨gd, 0, none⟩) r.l.length cd)) (hm : m ≤ r.l.length) : Rws B (w.setCell ⟨g, i * 12 + 11, none⟩ (.slice (some ⟨gd, 0, none⟩) m cd)) (.slice (some ⟨g, 0, none⟩) N cap) (ps.set i (⟨r.x, r.nm, r.l.take m⟩, .slice (some ⟨gd, 0, none⟩) m cd)) := by
  subst hN
  have hil : i < ps.length := (List.getElem?_eq_some_iff.1 hi).1
  have hpe : ps[i] = (r, .slice (some ⟨gd, 0, none⟩) r.l.length cd) := (List.getElem?_eq_some_iff.1 hi).2
  have hpm := List.mem_of_getElem? hi
  have hst := (World.ownsRow.stored h.recs.1 (i * 12 + 11) (.slice (some ⟨gd, 0, none⟩) m cd)).1
  have hfl : (ps.set i (⟨r.x, r.nm, r.l.take m⟩, .slice (some ⟨gd, 0, none⟩) m cd)).flatMap rcl = (ps.flatMap rcl).set (i * 12 + 11) (.slice (some ⟨gd, 0, none⟩) m cd) := flat_set ps i hil _ 11 (by omega) _ (fun p hp => by
    obtain rfl : (r, Value.slice (some ⟨gd, 0, none⟩) r.l.length cd) = p := Option.some.inj (hi.symm.trans hp)
    rfl)
  have hk : ∀ p ∈ ps, Own B (w.setCell ⟨g, i * 12 + 11, none⟩ (.slice (some ⟨gd, 0, none⟩) m cd)) p.2 p.1.l := fun p hp => own_kept2 (h.own p hp) fun q e => set_other w _ _ q fun e2 => h.row p hp g rfl (e.trans (congrArg some e2))
  have hnew : Own B (w.setCell ⟨g, i * 12 + 11, none⟩ (.slice (some ⟨gd, 0, none⟩) m cd)) (.slice (some ⟨gd, 0, none⟩) m cd) (r.l.take m) := by
    have h1 := hk _ hpm
    simp only at h1
    have h2 : r.l.take m ++ r.l.drop m = r.l := List.take_append_drop m r.l
    rw [← h2] at h1
    have h3 := own_pre (n := (r.l.take m ++ r.l.drop m).length) h1
    rw [List.length_take, Nat.min_eq_left hm] at h3
    exact h3
  have hcase : ∀ (j : Nat) (p : Rec × Value), (ps.set i (⟨r.x, r.nm, r.l.take m⟩, .slice (some ⟨gd, 0, none⟩) m cd))[j]? = some p → ∃ p0, ps[j]? = some p0 ∧ p.2.ownBlock = p0.2.ownBlock ∧ Own B (w.setCell ⟨g, i * 12 + 11, none⟩ (.slice (some ⟨gd, 0, none⟩) m cd)) p.2 p.1.l := fun j p hj => by
    rcases get_set_cases hj with ⟨rfl, rfl⟩ | ⟨-, hj⟩
    · exact ⟨_, hi, rfl, hnew⟩
    · exact ⟨p, hj, rfl, hk p (List.mem_of_getElem? hj)⟩
  have hmem : ∀ p ∈ ps.set i (⟨r.x, r.nm, r.l.take m⟩, .slice (some ⟨gd, 0, none⟩) m cd), ∃ p0 ∈ ps, p.2.ownBlock = p0.2.ownBlock ∧ Own B (w.setCell ⟨g, i * 12 + 11, none⟩ (.slice (some ⟨gd, 0, none⟩) m cd)) p.2 p.1.l := fun p hp => by
    obtain ⟨j, hj⟩ := List.mem_iff_getElem?.1 hp
    obtain ⟨p0, h1, h2⟩ := hcase j p hj
    exact ⟨p0, List.mem_of_getElem? h1, h2⟩
  have hrow : ∀ p ∈ ps.set i (⟨r.x, r.nm, r.l.take m⟩, .slice (some ⟨gd, 0, none⟩) m cd), ∀ q, (Value.slice (some ⟨g, 0, none⟩) ps.length cap).ownBlock = some q → p.2.ownBlock ≠ some q := fun p hp q e e2 => by
    obtain ⟨p0, h1, h2, -⟩ := hmem p hp
    exact h.row p0 h1 q e (h2 ▸ e2)
  refine ⟨⟨?_, fun p hp => ⟨?_, fun q e => off_block (hrow p hp q e)⟩⟩, fun p hp => (hmem p hp).choose_spec.2.2, fun j k p q hj hq hjk x e1 e2 => ?_, hrow⟩
  · rw [hfl, List.length_set]
    exact hst
  · exact ((hmem p hp).choose_spec.2.2).bs
  · obtain ⟨p0, h1, h2, -⟩ := hcase j p hj
    obtain ⟨q0, h3, h4, -⟩ := hcase k q hq
    exact h.apart j k p0 q0 h1 h3 hjk x (h2 ▸ e1) (h4 ▸ e2)
/-- the loop's memory: the list in blocks below B2, all else behind it -/
structure LE (B B2 : Nat) (w : World) (g c : Nat) (ps : List (Rec × Value)) (xs zs us ys : List RL) (sv wv : Value) : Prop where
  al : Rws B w (.slice (some ⟨g, 0, none⟩) (ps.length + 2) c) (ps ++ [mA, mB])
  ab : ∀ q, Rq (.slice (some ⟨g, 0, none⟩) (ps.length + 2) c) (ps ++ [mA, mB]) q → q < B2
  ls : LS2 (ps.map Prod.fst)
  rw : ∀ x ∈ xs ++ zs ++ us ++ ys, Rws B2 w x.1 x.2
  ap : (xs ++ zs).Pairwise Apa
  srow : w.ownsRow B2 22 1 sv xs.length (xs.map (·.1))
  wrow : w.ownsRow B2 22 1 wv ys.length (ys.map (·.1))
  sap : ∀ q, sv.ownBlock = some q → wv.ownBlock ≠ some q
  lo : B2 ≤ w.heap.size
  ba : B ≤ B2
variable {g c : Nat} {xs zs us ys : List RL} {sv wv : Value} {v1 v2 : Value} {ps1 ps2 : List (Rec × Value)}
theorem LE.kept (h : LE B B2 w g c ps xs zs us ys sv wv) (hb : Below w.heap.size w w') : LE B B2 w' g c ps xs zs us ys sv wv := ⟨h.al.kept hb, h.ab, h.ls, fun x hx => (h.rw x hx).kept hb, h.ap, Mg.row_block h.srow fun q e => hb.block q (World.ownsRow.lt h.srow q e).2, Mg.row_block h.wrow fun q e => hb.block q (World.ownsRow.lt h.wrow q e).2, h.sap, Nat.le_trans h.lo hb.size, h.ba⟩
/-- two lists, not yet told -/
theorem LE.addZ (h : LE B B2 w g c ps xs [] us ys sv wv) (ht : Two w.heap.size w' v1 v2 ps1 ps2) (hb : Below w.heap.size w w') : LE B B2 w' g c ps xs [(v1, ps1), (v2, ps2)] us ys sv wv := by
  have hk := h.kept hb
  have hold : ∀ x ∈ xs, ∀ q, Rq x.1 x.2 q → q < w.heap.size := fun x hx q hq => ((h.rw x (by simp [hx])).lt hq).2
  refine ⟨hk.al, hk.ab, hk.ls, fun x hx => ?_, ?_, hk.srow, hk.wrow, hk.sap, hk.lo, hk.ba⟩
  · simp only [List.mem_append, List.mem_cons, List.not_mem_nil, or_false] at hx
    rcases hx with ((hx | rfl | rfl) | hx) | hx
    · exact hk.rw x (by simp [hx])
    · exact ht.one.weak h.lo
    · exact ht.two.weak h.lo
    · exact hk.rw x (by simp [hx])
    · exact hk.rw x (by simp [hx])
  · refine List.pairwise_append.2 ⟨by have := h.ap; rw [List.append_nil] at this; exact this, ?_, fun x hx y hy q h1 h2 => ?_⟩
    · refine List.pairwise_cons.2 ⟨fun y hy => ?_, List.pairwise_singleton _ _⟩
      rw [List.mem_singleton.1 hy]
      exact ht.ap
    · have h9 := hold x hx q h1
      simp only [List.mem_cons, List.not_mem_nil, or_false] at hy
      rcases hy with rfl | rfl
      · have := (ht.one.lt h2).1
        omega
      · have := (ht.two.lt h2).1
        omega
/-- lists that are only read -/
theorem LE.addU (h : LE B B2 w g c ps xs zs us ys sv wv) (us' : List RL) (hb : Below w.heap.size w w') (hu : ∀ x ∈ us', Rws w.heap.size w' x.1 x.2) : LE B B2 w' g c ps xs zs (us' ++ us) ys sv wv := by
  have hk := h.kept hb
  refine ⟨hk.al, hk.ab, hk.ls, fun x hx => ?_, hk.ap, hk.srow, hk.wrow, hk.sap, hk.lo, hk.ba⟩
  simp only [List.mem_append] at hx
  rcases hx with ((hx | hx) | hx | hx) | hx
  · exact hk.rw x (by simp [hx])
  · exact hk.rw x (by simp [hx])
  · exact (hu x hx).weak h.lo
  · exact hk.rw x (by simp [hx])
  · exact hk.rw x (by simp [hx])
theorem LE.dropU (h : LE B B2 w g c ps xs zs us ys sv wv) (us' : List RL) (hs : ∀ x ∈ us', x ∈ us) : LE B B2 w g c ps xs zs us' ys sv wv := ⟨h.al, h.ab, h.ls, fun x hx => by
  simp only [List.mem_append] at hx
  rcases hx with ((hx | hx) | hx) | hx
  · exact h.rw x (by simp [hx])
  · exact h.rw x (by simp [hx])
  · exact h.rw x (by simp [hs x hx])
  · exact h.rw x (by simp [hx]), h.ap, h.srow, h.wrow, h.sap, h.lo, h.ba⟩
theorem infRS2 : (Try.prog.info? 22).map (fun i => (i.zero, i.size, i.bytes)) = some (some (.slice none 0 0), 1, 24) := by kernel_rfl
/-- two of a literal behind a row -/
theorem row_two {v : Value} {n : Nat} {xs : List Value} (hr : w.ownsRow B2 22 1 v n xs) (hn : n ≤ 1000) (h1 : v1.oneCell' = true) (h2 : v2.oneCell' = true) (hB : B2 ≤ w.heap.size) :
    ∃ v' W, (Builtin.append_ #[34, 34] 34 #[v, .slice (some ⟨w.heap.size, 0, none⟩) 2 2]).run Try.prog (w.alloc (.cells #[v1, v2] 22)) = .ok v' W ∧ W.ownsRow B2 22 1 v' (n + 2) (xs ++ [v1, v2]) ∧ Fr w W (fun q => v.ownBlock = some q) ∧ (∀ q, v'.ownBlock = some q → v.ownBlock = some q ∨ w.heap.size ≤ q) ∧ ∃ a c, v' = .slice a (n + 2) c := by
  obtain ⟨i0, hi, hz0, hs0, hb0⟩ := Lft.info_parts3 infRS2
  have b0 := up0 w (.cells #[v1, v2] 22)
  have hl := lb_new w [v1, v2] 22
  have hr0 : (w.alloc (.cells #[v1, v2] 22)).ownsRow B2 22 1 v n xs := Mg.row_block hr fun q e => b0.block q (World.ownsRow.lt hr q e).2
  obtain ⟨v', W, hrun, q1, q2, -, q3⟩ := run_append_own_at (P := Try.prog) (w.alloc (.cells #[v1, v2] 22)) B2 34 34 22 i0 _ 1 24 Try.underlying34 hi hz0 hs0 hb0 rfl (by omega) v n xs hr0 ⟨w.heap.size, 0, none⟩ 2 2 [v1, v2] rfl (fun j u hj => by
    rw [Addr.add_lit, Nat.zero_add]
    exact hl.cell j u hj) (fun u hu => by
    simp only [List.mem_cons, List.not_mem_nil, or_false] at hu
    rcases hu with rfl | rfl
    · exact h1
    · exact h2) (by unfold maxLen; omega) (by omega) (Nat.le_trans hB b0.size)
  obtain ⟨a, c', e, -⟩ := Mg.row_shape q1
  refine ⟨v', W, hrun, q1, (Fr.kept b0).trans (Fr.grown q2 fun k e => e) fun _ _ e => e, fun q e => ?_, a, c', e⟩
  rcases q3 with e2 | e2
  · exact .inl (e2.symm.trans e)
  · rw [e2] at e
    have := Option.some.inj e
    have := b0.size
    exact .inr (by omega)
/-- what a longer row leaves -/
theorem LE.rest (h : LE B B2 w g c ps xs zs us ys sv wv) {F : Nat → Prop} (hf : Fr w w' F) (hF : ∀ q, F q → B2 ≤ q) (hx : ∀ x ∈ xs ++ zs ++ us ++ ys, ∀ q, Rq x.1 x.2 q → ¬ F q) : Rws B w' (.slice (some ⟨g, 0, none⟩) (ps.length + 2) c) (ps ++ [mA, mB]) ∧ (∀ x ∈ xs ++ zs ++ us ++ ys, Rws B2 w' x.1 x.2) ∧ B2 ≤ w'.heap.size := by
  refine ⟨h.al.fr fun q hq => hf.block q (h.al.lt hq).2 fun e => ?_, fun x hm => (h.rw x hm).fr fun q hq => hf.block q ((h.rw x hm).lt hq).2 (hx x hm q hq), Nat.le_trans h.lo hf.size⟩
  have := hF q e
  have := h.ab q hq
  omega
theorem LE.kinds (h : LE B B2 w g c ps xs zs us ys sv wv) {n : Nat} {v : Value} {cs : List Value} (hr : w.ownsRow B2 22 1 v n cs) : ∀ x ∈ xs ++ zs ++ us ++ ys, ∀ q, Rq x.1 x.2 q → v.ownBlock ≠ some q := fun x hx q hq e => by
  rcases hq with e2 | ⟨p, hp, e2⟩
  · exact Mg.kinds_apart (h.rw x hx).recs.1 hr (by decide) q e2 e
  · exact Mg.kinds_apart ((h.rw x hx).own p hp).row hr (by decide) q e2 e
/-- both are told -/
theorem LE.said (h : LE B B2 w g c ps xs [(v1, ps1), (v2, ps2)] us ys sv wv) (hn : xs.length ≤ 1000) (h1 : v1.oneCell' = true) (h2 : v2.oneCell' = true) :
    ∃ v' W, (Builtin.append_ #[34, 34] 34 #[sv, .slice (some ⟨w.heap.size, 0, none⟩) 2 2]).run Try.prog (w.alloc (.cells #[v1, v2] 22)) = .ok v' W ∧ LE B B2 W g c ps (xs ++ [(v1, ps1), (v2, ps2)]) [] us ys v' wv ∧ (∃ a c, v' = .slice a (xs.length + 2) c) ∧ Fr w W (fun q => B2 ≤ q) := by
  obtain ⟨v', W, hr, k1, k2, k3, k4⟩ := row_two h.srow hn h1 h2 h.lo
  have hsv : ∀ q, sv.ownBlock = some q → B2 ≤ q := fun q e => (World.ownsRow.lt h.srow q e).1
  obtain ⟨r1, r2, r3⟩ := h.rest k2 hsv (fun x hx q hq => h.kinds h.srow x hx q hq)
  refine ⟨v', W, hr, ⟨r1, h.ab, h.ls, fun x hx => r2 x ?_, ?_, ?_, Mg.row_block h.wrow fun q e => k2.block q (World.ownsRow.lt h.wrow q e).2 fun e2 => h.sap q e2 e, fun q e => ?_, r3, h.ba⟩, k4, k2.mono hsv⟩
  · simp only [List.append_nil] at hx
    exact hx
  · rw [List.append_nil]
    exact h.ap
  · rw [List.length_append, List.map_append]
    exact k1
  · rcases k3 q e with e2 | e2
    · exact h.sap q e2
    · intro e3
      have := (World.ownsRow.lt h.wrow q e3).2
      omega
/-- what is wanted of both -/
theorem LE.want (h : LE B B2 w g c ps xs [] [(v1, ps1), (v2, ps2)] ys sv wv) (hn : ys.length ≤ 1000) (h1 : v1.oneCell' = true) (h2 : v2.oneCell' = true) :
    ∃ v' W, (Builtin.append_ #[34, 34] 34 #[wv, .slice (some ⟨w.heap.size, 0, none⟩) 2 2]).run Try.prog (w.alloc (.cells #[v1, v2] 22)) = .ok v' W ∧ LE B B2 W g c ps xs [] [] (ys ++ [(v1, ps1), (v2, ps2)]) sv v' ∧ (∃ a c, v' = .slice a (ys.length + 2) c) ∧ Fr w W (fun q => B2 ≤ q) := by
  obtain ⟨v', W, hr, k1, k2, k3, k4⟩ := row_two h.wrow hn h1 h2 h.lo
  have hsv : ∀ q, wv.ownBlock = some q → B2 ≤ q := fun q e => (World.ownsRow.lt h.wrow q e).1
  obtain ⟨r1, r2, r3⟩ := h.rest k2 hsv (fun x hx q hq => h.kinds h.wrow x hx q hq)
  refine ⟨v', W, hr, ⟨r1, h.ab, h.ls, fun x hx => r2 x ?_, h.ap, Mg.row_block h.srow fun q e => k2.block q (World.ownsRow.lt h.srow q e).2 fun e2 => h.sap q e e2, ?_, fun q e e2 => ?_, r3, h.ba⟩, k4, k2.mono hsv⟩
  · simp only [List.append_nil, List.mem_append] at hx ⊢
    rcases hx with hx | hx | hx
    · exact .inl (.inl hx)
    · exact .inr hx
    · exact .inl (.inr hx)
  · rw [List.length_append, List.map_append]
    exact k1
  · rcases k3 q e2 with e3 | e3
    · exact h.sap q e e3
    · have := (World.ownsRow.lt h.srow q e).2
      omega
/-- the list is changed in place -/
theorem LE.turn (h : LE B B2 w g c ps xs zs us ys sv wv) {ps' : List (Rec × Value)} (h1 : Rws B w' (.slice (some ⟨g, 0, none⟩) (ps.length + 2) c) (ps' ++ [mA, mB])) (h2 : ps'.length = ps.length) (h3 : LS2 (ps'.map Prod.fst)) (h4 : Fr w w' (Rq (.slice (some ⟨g, 0, none⟩) (ps.length + 2) c) (ps ++ [mA, mB]))) (h5 : ∀ q, Rq (.slice (some ⟨g, 0, none⟩) (ps.length + 2) c) (ps' ++ [mA, mB]) q → Rq (.slice (some ⟨g, 0, none⟩) (ps.length + 2) c) (ps ++ [mA, mB]) q) : LE B B2 w' g c ps' xs zs us ys sv wv := by
  have hk : ∀ q, B2 ≤ q → q < w.heap.size → w'.heap[q]? = w.heap[q]? := fun q hq hl => h4.block q hl fun e => by have := h.ab q e; omega
  refine ⟨by rw [h2]; exact h1, by rw [h2]; exact fun q hq => h.ab q (h5 q hq), h3, fun x hx => (h.rw x hx).fr fun q hq => hk q ((h.rw x hx).lt hq).1 ((h.rw x hx).lt hq).2, h.ap, Mg.row_block h.srow fun q e => hk q (World.ownsRow.lt h.srow q e).1 (World.ownsRow.lt h.srow q e).2, Mg.row_block h.wrow fun q e => hk q (World.ownsRow.lt h.wrow q e).1 (World.ownsRow.lt h.wrow q e).2, h.sap, Nat.le_trans h.lo h4.size, h.ba⟩
/-- what stands behind the list -/
theorem LE.behind (h : LE B B2 w g c ps xs zs us ys sv wv) : w.cell? ⟨g, ps.length * 12, none⟩ = some (.int .i64 (-7)) ∧ w.cell? ⟨g, ps.length * 12 + 1, none⟩ = some (.int .i64 (-77)) ∧ w.cell? ⟨g, (ps.length + 1) * 12, none⟩ = some (.int .i64 (-8)) ∧ w.cell? ⟨g, (ps.length + 1) * 12 + 1, none⟩ = some (.int .i64 (-78)) := by
  have hc : ∀ (i : Nat) (p : Rec × Value) (j : Nat), (ps ++ [mA, mB])[i]? = some p → j < 12 → w.cell? ⟨g, i * 12 + j, none⟩ = (rcl p)[j]? := fun i p j hi hj => by
    obtain ⟨hil, hp⟩ := List.getElem?_eq_some_iff.1 hi
    have hl : (ps ++ [mA, mB]).length = ps.length + 2 := by simp
    have hil2 := hil
    rw [hl] at hil2
    have h0 := h.al.recs.1
    rw [hl] at h0
    rw [World.ownsRow.cellAt h0 (i * 12 + j) (by omega), rcls_get (ps ++ [mA, mB]) i hil j hj, hp]
  have e1 : (ps ++ [mA, mB])[ps.length]? = some mA := by rw [List.getElem?_append_right (Nat.le_refl _), Nat.sub_self]; rfl
  have e2 : (ps ++ [mA, mB])[ps.length + 1]? = some mB := by rw [List.getElem?_append_right (by omega), show ps.length + 1 - ps.length = 1 by omega]; rfl
  exact ⟨hc _ _ 0 e1 (by decide), hc _ _ 1 e1 (by decide), hc _ _ 0 e2 (by decide), hc _ _ 1 e2 (by decide)⟩
/-- the list itself -/
theorem LE.list (h : LE B B2 w g c ps xs zs us ys sv wv) : RecsAt w (.slice (some ⟨g, 0, none⟩) ps.length c) (ps.map Prod.fst) := (Rws.pre h.al (.inl (by simp))).recsAt
end
theorem split_one (w : World) : Calls Try.prog 5 #[.slice (some ⟨w.heap.size, 0, none⟩) 1 1] (w.alloc (.cells #[.int .i64 1, .int .i64 7, .int .i64 1, .int .i64 0, .int .i64 0, .int .i64 0, .int .i64 0, .int .i64 0, .int .i64 0, .int .i64 0, .string ⟨#[]⟩, .slice none 0 0] 25)) fun e w' => ∃ a1 a2, ∃ c1 c2 : Nat, e = .returned (.tuple #[.slice a1 0 c1, .slice a2 1 c2]) ∧ Below w.heap.size w w' := by
  refine (rwsplit_any _ [eR] _ ⟨_, _, rfl, by simp [maxLen], fun k r hr => ?_⟩ ⟨fun r hr => ?_, by decide⟩).mono ?_
  · have hk : k = 0 := by
      have := (List.getElem?_eq_some_iff.1 hr).1
      simp at this
      omega
    subst hk
    obtain rfl : eR = r := by simpa using hr
    exact ⟨_, 0, .slice none 0 0, rfl, new_range w #[.int .i64 1, .int .i64 7, .int .i64 1, .int .i64 0, .int .i64 0, .int .i64 0, .int .i64 0, .int .i64 0, .int .i64 0, .int .i64 0, .string ⟨#[]⟩, .slice none 0 0], Bs.nil _⟩
  · obtain rfl := List.mem_singleton.1 hr
    exact ⟨eR_fit, by decide⟩
  · rintro e w' h9
    obtain ⟨a1, a2, c1, c2, ps1, ps2, rfl, -, -, -, hb⟩ := sp_post h9
    rw [eR_live, eR_dead]
    exact ⟨a1, a2, c1, c2, rfl, (up0 _ _).trans (hb.mono (by rw [heap_one]; omega))⟩
end Go.Proofs.Ytggenlnknnhjgaa
