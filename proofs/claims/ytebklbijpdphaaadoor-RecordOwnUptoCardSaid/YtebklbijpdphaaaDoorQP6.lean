import Derived.Deep.CutRange
import Derived.Deep.RegionHeld
import Derived.Test.YtebklbijpdphaaaDoorQP3
import Derived.Test.YtebklbijpdphaaaDoorQP4
import Derived.Test.YtebklbijpdphaaaDoorQG1
/-
  RecordOwn: the records as the law lays them: their data cut out of longer rows, and copies.
-/
namespace Go.Proofs.YtebklbijpdphaaaDoor
open Go Go.RowKit
open Wb

structure GV (B : Nat) (w : World) (rs : List Rec) (vd vi vg : Value) (ls cs : List Value) (ps : List (Rec × Value)) : Prop where
  drow : w.ownsRow B 25 1 vd ls.length ls
  irow : w.ownsRow B 25 1 vi cs.length cs
  grow : w.ownsRow B 27 12 vg ps.length (ps.flatMap rcl)
  di : Ap vd vi
  long : ∀ (i : Nat) (v : Value) (r : Rec), ls[i]? = some v → rs[i]? = some r → Own B w v (r.l ++ [91, 92, 93])
  cop : ∀ (i : Nat) (c : Value) (r : Rec), cs[i]? = some c → rs[i]? = some r → Own B w c r.l
  recs : ∀ (i : Nat) (p : Rec × Value), ps[i]? = some p → rs[i]? = some p.1
  view : ∀ (i : Nat) (p : Rec × Value) (v : Value), ps[i]? = some p → ls[i]? = some v → ∃ g, ∃ cap : Nat, v = .slice (some ⟨g, 0, none⟩) (p.1.l.length + 3) cap ∧ p.2 = .slice (some ⟨g, 0, none⟩) p.1.l.length cap
theorem GV.nil (B : Nat) (w : World) (rs : List Rec) : GV B w rs (.slice none 0 0) (.slice none 0 0) (.slice none 0 0) [] [] [] :=
  ⟨World.ownsRow_nil _ _ _ _, World.ownsRow_nil _ _ _ _, World.ownsRow_nil _ _ _ _, (fun g h => nomatch h), (fun i v r h => by simp at h), (fun i v r h => by simp at h), (fun i p h => by simp at h), (fun i p v h => by simp at h)⟩
theorem GV.kept {B : Nat} {w w' : World} {rs : List Rec} {vd vi vg : Value} {ls cs : List Value} {ps : List (Rec × Value)} (h : GV B w rs vd vi vg ls cs ps) (hb : Below w.heap.size w w') : GV B w' rs vd vi vg ls cs ps :=
  ⟨owns_kept h.drow hb, owns_kept h.irow hb, owns_kept h.grow hb, h.di, fun i v r hv hr => (h.long i v r hv hr).kept hb, fun i v r hv hr => (h.cop i v r hv hr).kept hb, h.recs, h.view⟩
theorem own_row {B B' n s : Nat} {t : TypeId} {w w' : World} {v o : Value} {l : List Nat} {xs : List Value} (h : Own B w v l) (ho : w.ownsRow B' t s o n xs) (ht : t ≠ 5) (hg : w.grownBy w' o.ownBlock) : Own B w' v l := own_kept2 h fun g e => hg.block g (World.ownsRow.lt h.row g e).2 fun e' => rows_apart ho h.row ht g e'.symm e
theorem row_row {B B' n n' s s' : Nat} {t t' : TypeId} {w w' : World} {v o : Value} {xs ys : List Value} (h : w.ownsRow B t s v n xs) (ho : w.ownsRow B' t' s' o n' ys) (ha : Ap o v) (hg : w.grownBy w' o.ownBlock) : w'.ownsRow B t s v n xs := by
  refine ⟨h.1, ?_⟩
  have _ := ho
  rcases h.2 with h1 | ⟨g, cap, cur, rfl, h1, hgg, rest⟩
  · exact .inl h1
  · exact .inr ⟨g, cap, cur, rfl, h1, (hg.block g (Array.getElem?_eq_some_iff.1 hgg).1 fun e => ha g e.symm rfl).trans hgg, rest⟩
theorem snocV {vs : List Value} {v : Value} {k : Nat} {u : Value} (hk : (vs ++ [v])[k]? = some u) : vs[k]? = some u ∨ (k = vs.length ∧ u = v) := by
  by_cases hlt : k < vs.length
  · rw [List.getElem?_append_left hlt] at hk
    exact .inl hk
  · rw [List.getElem?_append_right (by omega)] at hk
    have h0 : k - vs.length = 0 := by
      have := (List.getElem?_eq_some_iff.1 hk).1
      simp at this
      omega
    rw [h0] at hk
    exact .inr ⟨by omega, by simpa using hk.symm⟩
theorem snocP {vs : List (Rec × Value)} {v : Rec × Value} {k : Nat} {u : Rec × Value} (hk : (vs ++ [v])[k]? = some u) : vs[k]? = some u ∨ (k = vs.length ∧ u = v) := by
  by_cases hlt : k < vs.length
  · rw [List.getElem?_append_left hlt] at hk
    exact .inl hk
  · rw [List.getElem?_append_right (by omega)] at hk
    have h0 : k - vs.length = 0 := by
      have := (List.getElem?_eq_some_iff.1 hk).1
      simp at this
      omega
    rw [h0] at hk
    exact .inr ⟨by omega, by simpa using hk.symm⟩
theorem GV.moreI {B : Nat} {w w' : World} {rs : List Rec} {vd vi vi' vg c : Value} {ls cs : List Value} {ps : List (Rec × Value)} {r : Rec} (h : GV B w rs vd vi vg ls cs ps) (hr : rs[cs.length]? = some r) (hc : Own B w c r.l)
    (hrow : w'.ownsRow B 25 1 vi' (cs.length + 1) (cs ++ [c])) (hg : w.grownBy w' vi.ownBlock) (hat : vi'.ownBlock = vi.ownBlock ∨ vi'.ownBlock = some w.heap.size) : GV B w' rs vd vi' vg ls (cs ++ [c]) ps := by
  refine ⟨row_row h.drow h.irow (fun g e e' => h.di g e' e) hg, by rw [List.length_append]; exact hrow, row_row h.grow h.irow (rows_apart h.irow h.grow (by decide)) hg, fun g e e' => ?_, fun i v q hv hq => own_row (h.long i v q hv hq) h.irow (by decide) hg, fun i u q hu hq => ?_, h.recs, h.view⟩
  · rcases hat with e1 | e1
    · exact h.di g e (e1 ▸ e')
    · rw [e1] at e'
      have h1 := Option.some.inj e'
      have h2 := (World.ownsRow.lt h.drow g e).2
      omega
  · rcases snocV hu with hu2 | ⟨hi, hu2⟩
    · exact own_row (h.cop i u q hu2 hq) h.irow (by decide) hg
    · subst hi hu2
      obtain rfl : r = q := Option.some.inj (hr.symm.trans hq)
      exact own_row hc h.irow (by decide) hg
theorem GV.moreD {B : Nat} {w w' : World} {rs : List Rec} {vd vd' vi vg v : Value} {ls cs : List Value} {ps : List (Rec × Value)} {r : Rec} (h : GV B w rs vd vi vg ls cs ps) (hr : rs[ls.length]? = some r) (hc : Own B w v (r.l ++ [91, 92, 93]))
    (hview : ∀ p, ps[ls.length]? = some p → ∃ g, ∃ cap : Nat, v = .slice (some ⟨g, 0, none⟩) (p.1.l.length + 3) cap ∧ p.2 = .slice (some ⟨g, 0, none⟩) p.1.l.length cap)
    (hrow : w'.ownsRow B 25 1 vd' (ls.length + 1) (ls ++ [v])) (hg : w.grownBy w' vd.ownBlock) (hat : vd'.ownBlock = vd.ownBlock ∨ vd'.ownBlock = some w.heap.size) : GV B w' rs vd' vi vg (ls ++ [v]) cs ps := by
  refine ⟨by rw [List.length_append]; exact hrow, row_row h.irow h.drow h.di hg, row_row h.grow h.drow (rows_apart h.drow h.grow (by decide)) hg, fun g e e' => ?_, fun i u q hu hq => ?_, fun i u q hu hq => own_row (h.cop i u q hu hq) h.drow (by decide) hg, h.recs, fun i p u hp hu => ?_⟩
  · rcases hat with e1 | e1
    · exact h.di g (e1 ▸ e) e'
    · rw [e1] at e
      have h1 := Option.some.inj e
      have h2 := (World.ownsRow.lt h.irow g e').2
      omega
  · rcases snocV hu with hu2 | ⟨hi, hu2⟩
    · exact own_row (h.long i u q hu2 hq) h.drow (by decide) hg
    · subst hi hu2
      obtain rfl : r = q := Option.some.inj (hr.symm.trans hq)
      exact own_row hc h.drow (by decide) hg
  · rcases snocV hu with hu2 | ⟨hi, hu2⟩
    · exact h.view i p u hp hu2
    · subst hi hu2
      exact hview p hp
theorem GV.moreG {B : Nat} {w w' : World} {rs : List Rec} {vd vi vg vg' : Value} {ls cs : List Value} {ps : List (Rec × Value)} {p : Rec × Value} (h : GV B w rs vd vi vg ls cs ps) (hr : rs[ps.length]? = some p.1) (hl : ls.length ≤ ps.length)
    (hrow : w'.ownsRow B 27 12 vg' (ps.length + 1) (ps.flatMap rcl ++ rcl p)) (hg : w.grownBy w' vg.ownBlock) : GV B w' rs vd vi vg' ls cs (ps ++ [p]) := by
  refine ⟨row_row h.drow h.grow (rows_apart h.grow h.drow (by decide)) hg, row_row h.irow h.grow (rows_apart h.grow h.irow (by decide)) hg, by rw [List.length_append, List.flatMap_append]; simpa using hrow, h.di, fun i v q hv hq => own_row (h.long i v q hv hq) h.grow (by decide) hg, fun i u q hu hq => own_row (h.cop i u q hu hq) h.grow (by decide) hg, fun i q hq => ?_, fun i q v hq hv => ?_⟩
  · rcases snocP hq with hq2 | ⟨hi, hq2⟩
    · exact h.recs i q hq2
    · subst hi hq2
      exact hr
  · rcases snocP hq with hq2 | ⟨hi, hq2⟩
    · exact h.view i q v hq2 hv
    · have := (List.getElem?_eq_some_iff.1 hv).1
      omega
end Go.Proofs.YtebklbijpdphaaaDoor

/-
  RecordOwn: the law's walk (its first loop).
-/
namespace Go.Proofs.YtebklbijpdphaaaDoor
open Go Go.RowKit
open Wb

theorem wpList_append_recs {P : Program} (w : World) {ops : Array Oper} {rest : List Oper} {o : Oper} {a : Act} {Q : Exit → Act → World → Prop} (hgd : o.guard = none) (s x : Operand) (t : TypeId)
    (ho : o.op = .call { callee := .builtin .append, args := #[s, x], argTypes := #[t, t] })
    (B : Nat) (hinfo : (P.info? 27).map (fun i => (i.zero, i.size, i.bytes)) = some (some (.agg #[.int .i64 0, .int .i64 0, .int .i64 0, .int .i64 0, .int .i64 0, .int .i64 0, .int .i64 0, .int .i64 0, .int .i64 0, .int .i64 0, .string ⟨#[]⟩, .slice none 0 0]), 12, 120)) (ht : P.underlying t = some (.slice 27))
    (v : Value) (ps : List (Rec × Value)) (q : Rec × Value) (hv : a.eval s = v) (h : w.ownsRow B 27 12 v ps.length (ps.flatMap rcl)) (g : Nat) (hx : a.eval x = .slice (some ⟨g, 0, none⟩) 1 1)
    (hc : w.rangeAt g 0 (rcl q)) (hq : q.2.oneCell' = true) (hmax : (ps.length + 1) * 120 ≤ 140737488355328) (hB : B ≤ w.heap.size)
    (hK : ∀ v' w', w'.ownsRow B 27 12 v' (ps.length + 1) (ps.flatMap rcl ++ rcl q) → w.grownBy w' v.ownBlock → wpList P ops Q rest (a.put o.dst v') w') : wpList P ops Q (o :: rest) a w := by
  obtain ⟨i0, hi, hz0, hz1, hz2⟩ := Lft.info_parts3 hinfo
  refine wpList_append_own_at w hgd s x t ho B 27 i0 _ 12 120 ht hi hz0 hz1 hz2 rfl (by decide) v ps.length (ps.flatMap rcl) hv h ⟨g, 0, none⟩ 1 1 (rcl q) hx rfl ?_ ?_ (by unfold maxLen; omega) (by omega) hB (fun v' w' a1 a2 _ _ => hK v' w' a1 a2)
  · intro j u hj
    have := hc j u hj
    rw [Addr.add_lit]
    exact this
  · intro u hu
    simp only [rcl, List.mem_cons, List.not_mem_nil, or_false] at hu
    rcases hu with rfl | rfl | rfl | rfl | rfl | rfl | rfl | rfl | rfl | rfl | rfl | rfl
    all_goals first | rfl | exact hq
theorem own_prefix {B g cap : Nat} {w : World} {l x : List Nat} (h : Own B w (.slice (some ⟨g, 0, none⟩) (l.length + x.length) cap) (l ++ x)) : Bs w (.slice (some ⟨g, 0, none⟩) l.length cap) l := by
  obtain ⟨ao, c, e, h1, h2, _, hc⟩ := h.bs.shape
  simp only [Value.slice.injEq] at e
  obtain ⟨rfl, _, rfl⟩ := e
  rw [List.length_append] at h1
  refine ⟨⟨some ⟨g, 0, none⟩, cap, rfl, by omega, h2, (fun e => by cases e), fun hne => ?_⟩, fun y hy => h.good y (List.mem_append_left _ hy)⟩
  obtain ⟨b, off, e2, hcell⟩ := hc (by simp [hne])
  refine ⟨b, off, e2, fun j hj => ?_⟩
  have := hcell j (by rw [List.length_append]; omega)
  rw [List.getElem_append_left hj] at this
  exact this
theorem GV.outs {B : Nat} {w : World} {rs : List Rec} {vd vi vg : Value} {ls cs : List Value} {ps : List (Rec × Value)} (h : GV B w rs vd vi vg ls cs ps) (hl : ls.length = ps.length) : Outs B w vg ps := by
  refine ⟨h.grow, fun p hp => ?_⟩
  obtain ⟨i, hi⟩ := List.mem_iff_getElem?.1 hp
  have hil := (List.getElem?_eq_some_iff.1 hi).1
  have hli : ls[i]? = some (ls[i]'(by omega)) := List.getElem?_eq_getElem _
  obtain ⟨g, cap, e1, e2⟩ := h.view i p _ hi hli
  have ho := h.long i _ p.1 hli (h.recs i p hi)
  rw [e1] at ho
  have hb := own_prefix (x := [91, 92, 93]) ho
  rw [e2]
  exact ⟨hb, fun g' hg' => off_block (fun e => rows_apart h.grow ho.row (by decide) g' hg' e)⟩
theorem GV.map {B : Nat} {w : World} {rs : List Rec} {vd vi vg : Value} {ls cs : List Value} {ps : List (Rec × Value)} (h : GV B w rs vd vi vg ls cs ps) (hl : ps.length = rs.length) : ps.map Prod.fst = rs := by
  apply List.ext_getElem?
  intro i
  rw [List.getElem?_map]
  by_cases hi : i < ps.length
  · have h1 : ps[i]? = some ps[i] := List.getElem?_eq_getElem hi
    rw [h1, h.recs i _ h1]
    rfl
  · rw [List.getElem?_eq_none (by omega), List.getElem?_eq_none (by omega)]
    rfl
theorem chk_short (x : Nums) (nm : ByteArray) (l : List Nat) (h : chk x nm l = 0) : l.length ≤ 16384 := by
  unfold chk at h
  by_cases h1 : ¬ (1 ≤ x.v ∧ x.v ≤ 3)
  · rw [if_pos h1] at h; cases h
  · rw [if_neg h1] at h
    by_cases h2 : ¬ (1 ≤ x.k ∧ x.k ≤ 7)
    · rw [if_pos h2] at h; cases h
    · rw [if_neg h2] at h
      by_cases h3 : x.s < 1
      · rw [if_pos h3] at h; cases h
      · rw [if_neg h3] at h
        exact (chk_fits x nm l h).2
theorem dcd_short (v : Int) (b : List Nat) : (dcd v b).2.l.length ≤ 16384 := by
  unfold dcd
  split
  · exact Nat.zero_le _
  · split
    · exact Nat.zero_le _
    · split
      · exact Nat.zero_le _
      · rename_i h
        exact chk_short _ _ _ (Decidable.not_not.1 h)
/-- the answers are short -/
theorem hnd_short (rs : List Rec) (hg : LGood rs) : (∀ c ∈ rs.flatMap hndOne, c.length ≤ 16777216) ∧ (rs.flatMap hndOne).length = 3 * rs.length := by
  refine ⟨fun c hc => ?_, ?_⟩
  · obtain ⟨r, hr, hm⟩ := List.mem_flatMap.1 hc
    obtain ⟨_, hf, hl⟩ := hg.each r hr
    have h1 := encP_len r hf
    have h2 := dcd_short r.x.v (encP r)
    simp only [hndOne, List.mem_cons, List.not_mem_nil, or_false] at hm
    rcases hm with rfl | rfl | rfl
    · omega
    · omega
    · omega
  · clear hg
    induction rs with
    | nil => rfl
    | cons r rs ih =>
      simp only [List.flatMap_cons, List.length_append, List.length_cons, ih, hndOne, List.length_nil]
      omega
set_option maxRecDepth 100000 in
set_option maxHeartbeats 4000000 in
theorem rown_any (v : Value) (rs : List Rec) (w : World) (h : RecsAt w v rs) (hg : LGood rs) (hT : Text.TabP 3 .i32 Text.Tx.lets w) (hG : TagsT w)
    (hF : ∀ w', Below w.heap.size w w' → Calls Tryd.prog 7 #[] w' fun e w'' => e = .returned (.bool true) ∧ Below w'.heap.size w' w'') :
    Calls Tryd.prog 3 #[v] w fun e w' => e = .returned (.bool true) ∧ Below w.heap.size w w' := by
  have hib := infoBS
  have h12 := infoR12
  have HIR : Hid ((Tryd.prog.info? 27).map (·.size) = some 12) := infoRec
  have HST : Hid (Calls Tryd.prog 6 #[] w fun e w' => e = .returned (.bool true) ∧ Below w.heap.size w w') := started_any w hT hG
  have HF : Hid (∀ w', Below w.heap.size w w' → Calls Tryd.prog 7 #[] w' fun e w'' => e = .returned (.bool true) ∧ Below w'.heap.size w' w'') := hF
  have HGE : Hid (∀ r ∈ rs, r.nm.size ≤ 1048576 ∧ r.x.fit ∧ r.l.length ≤ 1048576) := hg.each
  have hfew := hg.few
  have hgg := hg
  have HTT : Hid (∀ w', Below w.heap.size w w' → Text.TabP 3 .i32 Text.Tx.lets w' ∧ TagsT w') := fun w' hb => ⟨hT.kept hb, hG.kept hb⟩
  have HRS : Hid (∀ w', Below w.heap.size w w' → RecsAt w' v rs) := fun w' hb => h.kept hb
  obtain ⟨ao, cap, rfl, hm, _⟩ := h
  unfold maxLen at hm
  clear hg hT hG hF
  go_enter Tryd.func3, Tryd.ntmps3
  go_wp2_with fail
  refine HST.out.mono ?_
  rintro e w1 ⟨rfl, b1⟩
  go_wp2_with fail
  refine (HF.out _ b1).mono ?_
  rintro e w2 ⟨rfl, b2⟩
  have B2 := andThen b1 b2
  clear HST HF b1 b2
  go_wp2
  go_loopw [4, 5, 6, 7] (fun vd vi vg i wr => ∃ (ls cs : List Value) (ps : List (Rec × Value)), ps.length ≤ rs.length ∧ ls.length = ps.length ∧ cs.length = ps.length ∧ i = .int .i64 (ps.length : Int) ∧ GV w2.heap.size wr rs vd vi vg ls cs ps ∧ Below w2.heap.size w2 wr) (fun _ _ _ i _ => rs.length - (intOf i).toNat)
  case atStart => exact ⟨[], [], [], Nat.zero_le _, rfl, rfl, rfl, GV.nil _ _ _, Below.refl _ _⟩
  case round =>
    obtain ⟨ls, cs, ps, hpl, hll, hcl, rfl, hV, hbel⟩ := hrel
    by_cases hlt : ps.length < rs.length
    · obtain ⟨k, hk⟩ : ∃ k, ps.length = k := ⟨_, rfl⟩
      rw [hk] at hlt ⊢
      have HK : Hid (ps.length = k ∧ ls.length = k ∧ cs.length = k) := ⟨hk, by rw [hll, hk], by rw [hcl, hk]⟩
      obtain ⟨r, hr⟩ : ∃ r, rs[k]? = some r := ⟨rs[k], List.getElem?_eq_getElem hlt⟩
      have HR : Hid (rs[k]? = some r) := hr
      have Bw := andThen B2 hbel
      obtain ⟨ao', cap', e', _, hcr⟩ := HRS.out _ Bw
      simp only [Value.slice.injEq] at e'
      obtain ⟨rfl, _, rfl⟩ := e'
      obtain ⟨b, off, d, rfl, hrg, hbs⟩ := hcr k r hr
      obtain ⟨hnm, hfit, hl⟩ := HGE.out r (List.mem_of_getElem? hr)
      obtain ⟨ar, cr, rfl, _⟩ := hbs.shape
      have hblt : b < wr.heap.size := World.block_lt_of_cell? _ _ (hrg 0 _ rfl)
      have HRW : Hid (wr.rangeAt b (off + k * 12) [.int .i64 r.x.v, .int .i64 r.x.k, .int .i64 r.x.s, .int .i64 r.x.p, .int .i64 r.x.t, .int .i64 r.x.a, .int .i64 r.x.l, .int .i64 r.x.c, .int .i64 r.x.n, .int .i64 r.x.i, .string r.nm, .slice ar r.l.length cr]) := hrg
      have HD11 : Hid (∀ w', Below wr.heap.size wr w' → w'.cell? ⟨b, off + k * 12 + 11, none⟩ = some (.slice ar r.l.length cr) ∧ Bs w' (.slice ar r.l.length cr) r.l) := fun w' hb => ⟨(hb.cell (p := ⟨b, off + k * 12 + 11, none⟩) hblt).trans (hrg 11 _ rfl), hbs.kept hb⟩
      have HLD : Hid (Calls Tryd.prog 8 #[rv r.x r.nm (.slice ar r.l.length cr)] wr fun e w' => ∃ g, ∃ cap : Nat, e = .returned (.tuple #[rv r.x r.nm (.slice (some ⟨g, 0, none⟩) r.l.length cap), .slice (some ⟨g, 0, none⟩) (r.l.length + 3) cap]) ∧ Own wr.heap.size w' (.slice (some ⟨g, 0, none⟩) (r.l.length + 3) cap) (r.l ++ [91, 92, 93]) ∧ r.l.length + 3 ≤ cap ∧ cap ≤ maxLen ∧ Below wr.heap.size wr w') := laid3_any r _ wr hbs (by omega)
      have HV : Hid (∀ w', Below wr.heap.size wr w' → GV w2.heap.size w' rs u4 u5 u6 ls cs ps ∧ Below w2.heap.size w2 w') := fun w' hb => ⟨hV.kept hb, andThen hbel hb⟩
      have hsz := hbel.size
      have hpk : cs.length ≤ 5000000000 ∧ ls.length ≤ 5000000000 ∧ (ps.length + 1) * 120 ≤ 140737488355328 := by have := HK.out; omega
      clear hcr hrg hbs hr hV hbel Bw hnm hfit hk hll hcl hpl
      unfold rv at *
      go_wp2_with (refine wpList_load_mid rfl 27 _ rfl b (off + k * 12) rfl [.int .i64 r.x.v, .int .i64 r.x.k, .int .i64 r.x.s, .int .i64 r.x.p, .int .i64 r.x.t, .int .i64 r.x.a, .int .i64 r.x.l, .int .i64 r.x.c, .int .i64 r.x.n, .int .i64 r.x.i, .string r.nm, .slice ar r.l.length cr] _ HRW.out Tryd.underlying27 rfl HIR.out ?_)
      refine HLD.out.mono ?_
      rintro e w3 ⟨g1, p1, rfl, ho3, hp1, hp2, b3⟩
      obtain ⟨W3, hW3⟩ : ∃ W3, W3 = w3.alloc (.cells #[.int .i64 r.x.v, .int .i64 r.x.k, .int .i64 r.x.s, .int .i64 r.x.p, .int .i64 r.x.t, .int .i64 r.x.a, .int .i64 r.x.l, .int .i64 r.x.c, .int .i64 r.x.n, .int .i64 r.x.i, .string r.nm, .slice (some ⟨g1, 0, none⟩) r.l.length p1] 27) := ⟨_, rfl⟩
      have HW3 : Hid (W3 = w3.alloc (.cells #[.int .i64 r.x.v, .int .i64 r.x.k, .int .i64 r.x.s, .int .i64 r.x.p, .int .i64 r.x.t, .int .i64 r.x.a, .int .i64 r.x.l, .int .i64 r.x.c, .int .i64 r.x.n, .int .i64 r.x.i, .string r.nm, .slice (some ⟨g1, 0, none⟩) r.l.length p1] 27)) := hW3
      have B3 : Below wr.heap.size wr W3 := by rw [hW3]; exact up b3 _
      have HO3 : Hid (∀ w', Below W3.heap.size W3 w' → Own wr.heap.size w' (.slice (some ⟨g1, 0, none⟩) (r.l.length + 3) p1) (r.l ++ [91, 92, 93]) ∧ Box w' w3.heap.size r.x r.nm (.slice (some ⟨g1, 0, none⟩) r.l.length p1)) := fun w' hb => by
        have h1 : Own wr.heap.size W3 (.slice (some ⟨g1, 0, none⟩) (r.l.length + 3) p1) (r.l ++ [91, 92, 93]) := by rw [hW3]; exact ho3.alloc _
        have h2 : Box W3 w3.heap.size r.x r.nm (.slice (some ⟨g1, 0, none⟩) r.l.length p1) := by rw [hW3]; exact heap_new _ _
        exact ⟨h1.kept hb, h2.kept hb⟩
      obtain ⟨x11, x12⟩ := HD11.out _ B3
      have HCP : Hid (Calls Tryd.prog 9 #[.slice ar r.l.length cr] W3 fun e w'' => ∃ v', e = .returned v' ∧ Own W3.heap.size w'' v' r.l ∧ Below W3.heap.size W3 w'') := copied_any _ r.l W3 x12 (by omega)
      clear ho3 b3 hW3 HRW HLD x12 hp2
      go_wp2_with (rw [← HW3.out])
      refine HCP.out.mono ?_
      rintro e w4 ⟨v4, rfl, ho4, b4⟩
      obtain ⟨a4, n4, c4, rfl⟩ : ∃ a, ∃ n c : Nat, v4 = .slice a n c := by
        obtain ⟨a, c, e, _⟩ := ho4.bs.shape
        exact ⟨a, _, c, e⟩
      have B4 := andThen B3 b4
      have HX4 : Hid (∀ o, GV w2.heap.size (w4.alloc o) rs u4 u5 u6 ls cs ps ∧ Below w2.heap.size w2 (w4.alloc o) ∧ Own w2.heap.size (w4.alloc o) (.slice a4 n4 c4) r.l ∧ Below W3.heap.size W3 (w4.alloc o) ∧ w2.heap.size ≤ (w4.alloc o).heap.size) := fun o => ⟨(HV.out _ (up B4 _)).1, (HV.out _ (up B4 _)).2, (ho4.mono (Nat.le_trans hsz B3.size)).alloc o, up b4 _, (HV.out _ (up B4 _)).2.size⟩
      clear ho4 b4 B4 HCP x11 HD11
      go_wp2_with (at_builtin; refine wpList_append_one _ rfl (.tmp 38) (.tmp 45) 24 rfl w2.heap.size hib Tryd.underlying24 _ cs rfl (HX4.out _).1.irow w4.heap.size (.slice a4 n4 c4) rfl (World.cell?_alloc_new w4 _ _ 0) rfl hpk.1 (HX4.out _).2.2.2.2 ?_)
      intro vi' w5 hr5 hg5 hat5
      have HX5 : Hid (GV w2.heap.size w5 rs u4 vi' u6 ls (cs ++ [.slice a4 n4 c4]) ps ∧ Below w2.heap.size w2 w5 ∧ Own w2.heap.size w5 (.slice (some ⟨g1, 0, none⟩) (r.l.length + 3) p1) (r.l ++ [91, 92, 93]) ∧ Box w5 w3.heap.size r.x r.nm (.slice (some ⟨g1, 0, none⟩) r.l.length p1)) := by
        have h1 := HX4.out (.cells #[.slice a4 n4 c4] 25)
        have h2 := HO3.out _ h1.2.2.2.1
        refine ⟨h1.1.moreI (by rw [HK.out.2.2]; exact HR.out) h1.2.2.1 hr5 hg5 (by rw [heap_one]; exact hat5), h1.2.1.trans (grown_below h1.1.irow hg5 h1.2.2.2.2), own_row (h2.1.mono hsz) h1.1.irow (by decide) hg5, ?_⟩
        refine (hg5.block _ h2.2.lt fun e => ?_).trans h2.2
        rcases h1.1.irow.2 with ⟨e1, _⟩ | ⟨g9, cap9, cur9, e1, _, hg9, _⟩
        · rw [e1] at e; cases e
        · rw [e1] at e
          have e2 : w3.heap.size = g9 := Option.some.inj e
          rw [← e2] at hg9
          have h3 := h2.2
          unfold Box at h3
          rw [hg9] at h3
          simp at h3
      clear hr5 hg5 hat5 HX4 HO3
      have hbx := HX5.out.2.2.2
      obtain ⟨c0, k1, k2, k3, k4, k5, k6, k7, k8, k9, k10, c11⟩ := hbx.cells
      have HRG : Hid ((w5.alloc (.cells #[.int .i64 r.x.v, .int .i64 r.x.k, .int .i64 r.x.s, .int .i64 r.x.p, .int .i64 r.x.t, .int .i64 r.x.a, .int .i64 r.x.l, .int .i64 r.x.c, .int .i64 r.x.n, .int .i64 r.x.i, .string r.nm, .slice (some ⟨g1, 0, none⟩) r.l.length p1] 27)).rangeAt w5.heap.size 0 [.int .i64 r.x.v, .int .i64 r.x.k, .int .i64 r.x.s, .int .i64 r.x.p, .int .i64 r.x.t, .int .i64 r.x.a, .int .i64 r.x.l, .int .i64 r.x.c, .int .i64 r.x.n, .int .i64 r.x.i, .string r.nm, .slice (some ⟨g1, 0, none⟩) r.l.length p1]) := by
        have h9 : (w5.alloc (.cells #[.int .i64 r.x.v, .int .i64 r.x.k, .int .i64 r.x.s, .int .i64 r.x.p, .int .i64 r.x.t, .int .i64 r.x.a, .int .i64 r.x.l, .int .i64 r.x.c, .int .i64 r.x.n, .int .i64 r.x.i, .string r.nm, .slice (some ⟨g1, 0, none⟩) r.l.length p1] 27)).heap[w5.heap.size]? = some (.cells #[.int .i64 r.x.v, .int .i64 r.x.k, .int .i64 r.x.s, .int .i64 r.x.p, .int .i64 r.x.t, .int .i64 r.x.a, .int .i64 r.x.l, .int .i64 r.x.c, .int .i64 r.x.n, .int .i64 r.x.i, .string r.nm, .slice (some ⟨g1, 0, none⟩) r.l.length p1] 27) := heap_new _ _
        exact World.rangeAt_of_block h9 0 12
      have HX5' : Hid (∀ o, GV w2.heap.size (w5.alloc o) rs u4 vi' u6 ls (cs ++ [.slice a4 n4 c4]) ps ∧ Below w2.heap.size w2 (w5.alloc o) ∧ Own w2.heap.size (w5.alloc o) (.slice (some ⟨g1, 0, none⟩) (r.l.length + 3) p1) (r.l ++ [91, 92, 93]) ∧ w2.heap.size ≤ (w5.alloc o).heap.size) := fun o => ⟨HX5.out.1.kept (up0 _ _), up HX5.out.2.1 _, HX5.out.2.2.1.alloc o, (up HX5.out.2.1 o).size⟩
      clear HX5 hbx
      go_wp2_with (at_builtin; refine wpList_append_recs _ rfl (.tmp 47) (.tmp 49) 22 rfl w2.heap.size h12 Tryd.underlying22 _ ps (r, .slice (some ⟨g1, 0, none⟩) r.l.length p1) rfl (HX5'.out _).1.grow w5.heap.size rfl HRG.out rfl hpk.2.2 (HX5'.out _).2.2.2 ?_)
      intro vg' w6 hr6 hg6
      have HX6 : Hid (∀ o, GV w2.heap.size (w6.alloc o) rs u4 vi' vg' ls (cs ++ [.slice a4 n4 c4]) (ps ++ [(r, .slice (some ⟨g1, 0, none⟩) r.l.length p1)]) ∧ Below w2.heap.size w2 (w6.alloc o) ∧ Own w2.heap.size (w6.alloc o) (.slice (some ⟨g1, 0, none⟩) (r.l.length + 3) p1) (r.l ++ [91, 92, 93]) ∧ w2.heap.size ≤ (w6.alloc o).heap.size) := fun o => by
        have h1 := HX5'.out (.cells #[.int .i64 r.x.v, .int .i64 r.x.k, .int .i64 r.x.s, .int .i64 r.x.p, .int .i64 r.x.t, .int .i64 r.x.a, .int .i64 r.x.l, .int .i64 r.x.c, .int .i64 r.x.n, .int .i64 r.x.i, .string r.nm, .slice (some ⟨g1, 0, none⟩) r.l.length p1] 27)
        have h2 := h1.1.moreG (p := (r, .slice (some ⟨g1, 0, none⟩) r.l.length p1)) (by rw [HK.out.1]; exact HR.out) (by have := HK.out; omega) hr6 hg6
        have hb := up (h1.2.1.trans (grown_below h1.1.grow hg6 h1.2.2.2)) o
        exact ⟨h2.kept (up0 _ _), hb, (own_row h1.2.2.1 h1.1.grow (by decide) hg6).alloc o, hb.size⟩
      clear hr6 hg6 HX5' HRG c0 k1 k2 k3 k4 k5 k6 k7 k8 k9 k10 c11
      go_wp2_with (at_builtin; refine wpList_append_one _ rfl (.tmp 51) (.tmp 53) 24 rfl w2.heap.size hib Tryd.underlying24 _ ls rfl (HX6.out _).1.drow w6.heap.size (.slice (some ⟨g1, 0, none⟩) (r.l.length + 3) p1) rfl (World.cell?_alloc_new w6 _ _ 0) rfl hpk.2.1 (HX6.out _).2.2.2 ?_)
      intro vd' w7 hr7 hg7 hat7
      have R : Hid (GV w2.heap.size w7 rs vd' vi' vg' (ls ++ [.slice (some ⟨g1, 0, none⟩) (r.l.length + 3) p1]) (cs ++ [.slice a4 n4 c4]) (ps ++ [(r, .slice (some ⟨g1, 0, none⟩) r.l.length p1)]) ∧ Below w2.heap.size w2 w7 ∧ (ps ++ [(r, Value.slice (some ⟨g1, 0, none⟩) r.l.length p1)]).length = k + 1 ∧ (ls ++ [Value.slice (some ⟨g1, 0, none⟩) (r.l.length + 3) p1]).length = k + 1 ∧ (cs ++ [Value.slice a4 n4 c4]).length = k + 1) := by
        have h1 := HX6.out (.cells #[.slice (some ⟨g1, 0, none⟩) (r.l.length + 3) p1] 25)
        refine ⟨h1.1.moreD (r := r) (by rw [HK.out.2.1]; exact HR.out) h1.2.2.1 (fun q hq => ?_) hr7 hg7 (by rw [heap_one]; exact hat7), h1.2.1.trans (grown_below h1.1.drow hg7 h1.2.2.2), by rw [List.length_append, HK.out.1]; rfl, by rw [List.length_append, HK.out.2.1]; rfl, by rw [List.length_append, HK.out.2.2]; rfl⟩
        rcases snocP hq with hq2 | ⟨_, hq2⟩
        · have := (List.getElem?_eq_some_iff.1 hq2).1
          have := HK.out
          omega
        · rw [hq2]
          exact ⟨g1, p1, rfl, rfl⟩
      clear hr7 hg7 hat7 HX6 HV
      go_wp2
      go_roundw
      case rel => exact ⟨_, _, _, by rw [R.out.2.2.1]; omega, by rw [R.out.2.2.1, R.out.2.2.2.1], by rw [R.out.2.2.1, R.out.2.2.2.2], by rw [R.out.2.2.1]; go_num, R.out.1, R.out.2.1⟩
      case measure => simp [intOf]; omega
    · have hpr : ps.length = rs.length := by omega
      rw [hpr]
      obtain ⟨ag, cg, e6, h61, h62⟩ := row_slice hV.grow
      rw [hpr] at e6 h61
      unfold maxLen at h62
      subst e6
      obtain ⟨ad9, cd9, e4, h41, h42⟩ := row_slice hV.drow
      obtain ⟨ai9, ci9, e5, h51, h52⟩ := row_slice hV.irow
      rw [hll, hpr] at e4 h41
      rw [hcl, hpr] at e5 h51
      unfold maxLen at h42 h52
      subst e4 e5
      generalize wr = wL at *
      have HVL : Hid (∀ w', Below wL.heap.size wL w' → GV w2.heap.size w' rs (.slice ad9 rs.length cd9) (.slice ai9 rs.length ci9) (.slice ag rs.length cg) ls cs ps ∧ RecsAt w' (.slice ag rs.length cg) rs ∧ Below w.heap.size w w') := fun w' hb => by
        have h1 := hV.kept hb
        have h2 := (h1.outs hll).recsAt
        rw [h1.map hpr] at h2
        exact ⟨h1, h2, andThen (andThen B2 hbel) hb⟩
      obtain ⟨hsh, hsl⟩ := hnd_short rs hgg
      have HH : Hid (∀ w', Below wL.heap.size wL w' → Calls Tryd.prog 10 #[.slice ag rs.length cg] w' fun e w'' => ∃ v' ps, e = .returned v' ∧ Ans w'.heap.size w'' v' ps ∧ ps.map Prod.snd = rs.flatMap hndOne ∧ Below w'.heap.size w' w'') := fun w' hb => handed_any _ rs w' (HVL.out _ hb).2.1 (fun r hr => ⟨Nat.le_trans (HGE.out r hr).1 (by decide), (HGE.out r hr).2.1, Nat.le_trans (HGE.out r hr).2.2 (by decide)⟩) hfew (HTT.out _ (HVL.out _ hb).2.2).1 (HTT.out _ (HVL.out _ hb).2.2).2
      generalize rs.flatMap hndOne = L at *
      have HSH : Hid (∀ c ∈ L, c.length ≤ 16777216) := hsh
      have HPN : Hid (L.length = 3 * rs.length) := hsl
      have HPL : Hid (ps.length = rs.length ∧ ls.length = ps.length ∧ cs.length = ps.length) := ⟨hpr, hll, hcl⟩
      clear hV hbel HRS HTT hsh hpr hll hcl hpl hlt
      go_wp2_with fail
      refine (HH.out _ (Below.refl _ _)).mono ?_
      rintro e w3 ⟨v1, ps1, rfl, hR1, hm1, b3⟩
      have hn1 : ps1.length ≤ 9000000 := by rw [← hm1, List.length_map] at hsl; omega
      have hp1 := hR1.ps
      rw [hm1] at hp1
      have HS1 : Hid (∀ p ∈ ps1, p.2.length ≤ 16777216) := fun p hp => HSH.out p.2 (by rw [← hm1]; exact List.mem_map.2 ⟨p, hp, rfl⟩)
      have HLT1 : Hid (∀ p ∈ ps1, ∀ g, p.1.ownBlock = some g → g < w3.heap.size) := hR1.lt.1
      have HB2 : Hid (Calls Tryd.prog 11 #[v1] w3 fun e w' => ∃ v', e = .returned v' ∧ OwnP w3.heap.size w' v' L ∧ Below w3.heap.size w3 w') := bytes2_any v1 L w3 hp1 HSH.out (by omega)
      have HR1 : Hid (∀ w', Below w3.heap.size w3 w' → Ans wL.heap.size w' v1 ps1) := fun w' hb => hR1.kept hb
      obtain ⟨av1, cv1, ev1, _⟩ := row_slice hR1.row
      clear hR1 hm1 hp1 hsl
      subst ev1
      go_wp2_with fail
      refine HB2.out.mono ?_
      rintro e w4 ⟨vws, rfl, hWs, b4⟩
      have HWS : Hid (∀ w', (∀ g, w3.heap.size ≤ g → g < w4.heap.size → w'.heap[g]? = w4.heap[g]?) → Ps w' vws L) := fun w' hs => (ownP_frame hWs hs).ps
      have B34 := andThen b3 b4
      have HF3 : Hid (Calls Tryd.prog 12 #[.slice av1 ps1.length cv1] w4 fun e w' => ∃ vm fs, e = .returned vm ∧ FilR wL.heap.size w' (.slice av1 ps1.length cv1) vm ps1 fs ∧ Below wL.heap.size w4 w' ∧ Frm (ps1.map Prod.fst) w4 w') := filledA (HR1.out _ b4) hn1 HS1.out (Nat.le_refl _) B34.size
      clear hWs HB2 HR1 b3 b4
      go_wp2_with fail
      refine HF3.out.mono ?_
      rintro e w5 ⟨vm1, fs1, rfl, hA1, b5, hF5⟩
      have B5 : Below wL.heap.size wL w5 := B34.trans b5
      have HWS5 : Hid (∀ w', Below w5.heap.size w5 w' → Ps w' vws L) := fun w' hb => (HWS.out w5 fun g h1 h2 => hF5.same g h2 fun d hd e => by
        obtain ⟨p, hp, rfl⟩ := List.mem_map.1 hd
        have := HLT1.out p hp g e
        omega).kept hb
      have HA1 : Hid (∀ w', Below w5.heap.size w5 w' → Calls Tryd.prog 14 #[.slice av1 ps1.length cv1, vm1] w' fun e w'' => e = .returned (.bool true) ∧ w'' = w') := fun w' hb => standR_any (hA1.kept hb) hn1 HS1.out (Nat.le_refl _)
      clear hA1 b5 hF5 HF3 HWS HLT1 B34
      go_wp2_with fail
      refine (HH.out _ B5).mono ?_
      rintro e w6 ⟨v2, ps2, rfl, hR2, hm2, b6⟩
      have hn2 : ps2.length ≤ 9000000 := by rw [← hm2] at HPN; have := HPN.out; rw [List.length_map] at this; omega
      have hp2 := hR2.ps
      rw [hm2] at hp2
      have HS2 : Hid (∀ p ∈ ps2, p.2.length ≤ 16777216) := fun p hp => HSH.out p.2 (by rw [← hm2]; exact List.mem_map.2 ⟨p, hp, rfl⟩)
      obtain ⟨av2, cv2, ev2, _⟩ := row_slice hR2.row
      subst ev2
      have HR2 : Hid (∀ w', Below w6.heap.size w6 w' → Ans w5.heap.size w' (.slice av2 ps2.length cv2) ps2) := fun w' hb => hR2.kept hb
      have HAL : Hid (Calls Tryd.prog 13 #[.slice av2 ps2.length cv2, vws] w6 fun e w' => e = .returned (.bool true) ∧ Below w6.heap.size w6 w') := alikeAll_yes _ _ L w6 hp2 (HWS5.out _ b6)
      clear hR2 hm2 hp2
      go_wp2_with fail
      refine HAL.out.mono ?_
      rintro e w7 ⟨rfl, b7⟩
      have B57 := andThen b6 b7
      clear HAL
      go_wp2_with fail
      refine (HA1.out _ B57).mono ?_
      rintro e w8 ⟨rfl, rfl⟩
      have HF6 : Hid (Calls Tryd.prog 12 #[.slice av2 ps2.length cv2] w8 fun e w' => ∃ vm fs, e = .returned vm ∧ FilR w5.heap.size w' (.slice av2 ps2.length cv2) vm ps2 fs ∧ Below w5.heap.size w8 w' ∧ Frm (ps2.map Prod.fst) w8 w') := filledA (HR2.out _ b7) hn2 HS2.out (Nat.le_refl _) B57.size
      clear HR2
      go_wp2_with fail
      refine HF6.out.mono ?_
      rintro e w9 ⟨vm2, fs2, rfl, hA2, b9, _⟩
      have B59 : Below w5.heap.size w5 w9 := B57.trans b9
      have HA2 : Hid (∀ w', Below w9.heap.size w9 w' → Calls Tryd.prog 14 #[.slice av2 ps2.length cv2, vm2] w' fun e w'' => e = .returned (.bool true) ∧ w'' = w') := fun w' hb => standR_any (hA2.kept hb) hn2 HS2.out (Nat.le_refl _)
      clear hA2 b9 HF6 b6 b7 B57
      go_wp2_with fail
      refine (HH.out _ (andThen B5 B59)).mono ?_
      rintro e w10 ⟨v3, ps3, rfl, hR3, hm3, b10⟩
      have hp3 := hR3.ps
      rw [hm3] at hp3
      have HP3 : Hid (∀ w', Below w10.heap.size w10 w' → Ps w' v3 L ∧ Ps w' vws L ∧ Below w9.heap.size w9 w' ∧ Below w5.heap.size w5 w' ∧ Below wL.heap.size wL w') := fun w' hb => ⟨hp3.kept hb, HWS5.out _ (andThen B59 (andThen b10 hb)), andThen b10 hb, andThen B59 (andThen b10 hb), andThen B5 (andThen B59 (andThen b10 hb))⟩
      clear hR3 hm3 hp3 HH HWS5 B59 B5 b10
      go_wp2
      go_loopw [16] (fun i wr => ∃ k : Nat, k ≤ rs.length ∧ i = .int .i64 (k : Int) ∧ Below w10.heap.size w10 wr) (fun i _ => rs.length - (intOf i).toNat)
      case atStart => exact ⟨0, Nat.zero_le _, rfl, Below.refl _ _⟩
      case round =>
        obtain ⟨k, hk, rfl, hbel⟩ := hrel
        by_cases hlt : k < rs.length
        · obtain ⟨r, hr⟩ : ∃ r, rs[k]? = some r := ⟨rs[k], List.getElem?_eq_getElem hlt⟩
          have hGV := (HVL.out _ (HP3.out _ hbel).2.2.2.2).1
          obtain ⟨p, hp⟩ : ∃ p, ps[k]? = some p := ⟨ps[k]'(by rw [HPL.out.1]; exact hlt), List.getElem?_eq_getElem _⟩
          obtain ⟨lv, hlv⟩ : ∃ lv, ls[k]? = some lv := ⟨ls[k]'(by rw [HPL.out.2.1, HPL.out.1]; exact hlt), List.getElem?_eq_getElem _⟩
          obtain ⟨cv9, hcv9⟩ : ∃ cv9, cs[k]? = some cv9 := ⟨cs[k]'(by rw [HPL.out.2.2, HPL.out.1]; exact hlt), List.getElem?_eq_getElem _⟩
          have hpr1 : p.1 = r := Option.some.inj ((hGV.recs k p hp).symm.trans hr)
          obtain ⟨g9, c9x, el, ep⟩ := hGV.view k p lv hp hlv
          rw [hpr1] at el ep
          subst el
          have hgr := hGV.grow
          obtain ⟨gG, rfl⟩ : ∃ g, ag = some ⟨g, 0, none⟩ := by
            rcases hgr.2 with ⟨e, h1⟩ | ⟨g, cap, cur, e, _⟩
            · rw [HPL.out.1] at h1; omega
            · simp only [Value.slice.injEq] at e
              exact ⟨g, e.1⟩
          obtain ⟨gD, rfl⟩ : ∃ g, ad9 = some ⟨g, 0, none⟩ := by
            rcases hGV.drow.2 with ⟨e, h1⟩ | ⟨g, cap, cur, e, _⟩
            · rw [HPL.out.2.1, HPL.out.1] at h1; omega
            · simp only [Value.slice.injEq] at e
              exact ⟨g, e.1⟩
          obtain ⟨gI, rfl⟩ : ∃ g, ai9 = some ⟨g, 0, none⟩ := by
            rcases hGV.irow.2 with ⟨e, h1⟩ | ⟨g, cap, cur, e, _⟩
            · rw [HPL.out.2.2, HPL.out.1] at h1; omega
            · simp only [Value.slice.injEq] at e
              exact ⟨g, e.1⟩
          obtain ⟨ac9, nc9, cc9, rfl⟩ : ∃ a, ∃ n c : Nat, cv9 = .slice a n c := by
            obtain ⟨a, c, e, _⟩ := (hGV.cop k _ r hcv9 hr).bs.shape
            exact ⟨a, _, c, e⟩
          obtain ⟨av, cv, hav⟩ : ∃ av, ∃ cv : Nat, (Value.slice (some ⟨g9, 0, none⟩) r.l.length c9x) = .slice av r.l.length cv := ⟨_, _, rfl⟩
          have hpq : p = (r, .slice av r.l.length cv) := by rw [← hav, ← ep, ← hpr1]
          have HC : Hid (∀ w', Below w10.heap.size w10 w' → (w'.cell? ⟨gG, k * 12, none⟩ = some (.int .i64 r.x.v) ∧ w'.cell? ⟨gG, k * 12 + 1, none⟩ = some (.int .i64 r.x.k) ∧ w'.cell? ⟨gG, k * 12 + 2, none⟩ = some (.int .i64 r.x.s) ∧ w'.cell? ⟨gG, k * 12 + 3, none⟩ = some (.int .i64 r.x.p) ∧ w'.cell? ⟨gG, k * 12 + 4, none⟩ = some (.int .i64 r.x.t) ∧ w'.cell? ⟨gG, k * 12 + 5, none⟩ = some (.int .i64 r.x.a) ∧ w'.cell? ⟨gG, k * 12 + 6, none⟩ = some (.int .i64 r.x.l) ∧ w'.cell? ⟨gG, k * 12 + 7, none⟩ = some (.int .i64 r.x.c) ∧ w'.cell? ⟨gG, k * 12 + 8, none⟩ = some (.int .i64 r.x.n) ∧ w'.cell? ⟨gG, k * 12 + 9, none⟩ = some (.int .i64 r.x.i) ∧ w'.cell? ⟨gG, k * 12 + 10, none⟩ = some (.string r.nm) ∧ w'.cell? ⟨gG, k * 12 + 11, none⟩ = some (.slice av r.l.length cv)) ∧ w'.cell? ⟨gD, k, none⟩ = some (.slice (some ⟨g9, 0, none⟩) (r.l.length + 3) c9x) ∧ w'.cell? ⟨gI, k, none⟩ = some (.slice ac9 nc9 cc9)) := fun w' hb => by
            have h1 := (HVL.out _ (HP3.out _ hb).2.2.2.2).1
            have hgr2 := h1.grow
            have hx : ∀ j u, (rcl p)[j]? = some u → w'.cell? ⟨gG, k * 12 + j, none⟩ = some u := fun j u hj => by
              obtain ⟨ao9, cap9, e9, _, _, hrg9⟩ := (h1.outs HPL.out.2.1).shape
              simp only [Value.slice.injEq] at e9
              obtain ⟨e9, _, _⟩ := e9
              subst e9
              have hkl : k < ps.length := by rw [HPL.out.1]; exact hlt
              have hpk9 : ps[k] = p := Option.some.inj ((List.getElem?_eq_getElem hkl).symm.trans hp)
              have h9 := hrg9 gG rfl k hkl
              rw [hpk9] at h9
              exact h9 j u hj
            rw [hpq] at hx
            refine ⟨⟨hx 0 _ rfl, hx 1 _ rfl, hx 2 _ rfl, hx 3 _ rfl, hx 4 _ rfl, hx 5 _ rfl, hx 6 _ rfl, hx 7 _ rfl, hx 8 _ rfl, hx 9 _ rfl, hx 10 _ rfl, hx 11 _ rfl⟩, ?_, ?_⟩
            · have h2 := h1.drow
              rw [HPL.out.2.1, HPL.out.1] at h2
              rw [World.ownsRow.cellAt h2 k (by omega)]
              exact hlv
            · have h2 := h1.irow
              rw [HPL.out.2.2, HPL.out.1] at h2
              rw [World.ownsRow.cellAt h2 k (by omega)]
              exact hcv9
          have hll9 := (HGE.out r (List.mem_of_getElem? hr)).2.2
          have HBV : Hid (∀ w', Below w10.heap.size w10 w' → Bs w' (.slice av r.l.length cv) r.l ∧ Bs w' (.slice (some ⟨g9, 0, none⟩) (r.l.length + 3) c9x) (r.l ++ [91, 92, 93]) ∧ Bs w' (.slice ac9 nc9 cc9) r.l) := fun w' hb => by
            have h1 := (HVL.out _ (HP3.out _ hb).2.2.2.2).1
            have h2 := h1.long k _ r hlv hr
            refine ⟨?_, h2.bs, (h1.cop k _ r hcv9 hr).bs⟩
            rw [← hav]
            exact own_prefix (x := [91, 92, 93]) h2
          have HCLN : Hid (∀ w', Below w10.heap.size w10 w' → Calls Tryd.prog 16 #[.agg #[.int .i64 r.x.v, .int .i64 r.x.k, .int .i64 r.x.s, .int .i64 r.x.p, .int .i64 r.x.t, .int .i64 r.x.a, .int .i64 r.x.l, .int .i64 r.x.c, .int .i64 r.x.n, .int .i64 r.x.i, .string r.nm, .slice av r.l.length cv]] w' fun e w'' => ∃ (a : Option Addr) (n c : Nat), e = .returned (.agg #[.int .i64 r.x.v, .int .i64 r.x.k, .int .i64 r.x.s, .int .i64 r.x.p, .int .i64 r.x.t, .int .i64 r.x.a, .int .i64 r.x.l, .int .i64 r.x.c, .int .i64 r.x.n, .int .i64 r.x.i, .string r.nm, .slice a n c]) ∧ Bs w'' (.slice a n c) r.l ∧ Below w'.heap.size w' w'') := fun w' hb => (rclone_any r.x r.nm _ r.l w' (HBV.out _ hb).1 (by omega)).mono fun e w'' ⟨d', he, ho, hb''⟩ => by
            obtain ⟨a, c, rfl, _⟩ := ho.bs.shape
            exact ⟨a, _, c, he, ho.bs, hb''⟩
          have HSM : Hid (∀ w' (a : Option Addr) (n c : Nat), Below w10.heap.size w10 w' → Bs w' (.slice a n c) r.l → Calls Tryd.prog 15 #[.agg #[.int .i64 r.x.v, .int .i64 r.x.k, .int .i64 r.x.s, .int .i64 r.x.p, .int .i64 r.x.t, .int .i64 r.x.a, .int .i64 r.x.l, .int .i64 r.x.c, .int .i64 r.x.n, .int .i64 r.x.i, .string r.nm, .slice av r.l.length cv], .agg #[.int .i64 r.x.v, .int .i64 r.x.k, .int .i64 r.x.s, .int .i64 r.x.p, .int .i64 r.x.t, .int .i64 r.x.a, .int .i64 r.x.l, .int .i64 r.x.c, .int .i64 r.x.n, .int .i64 r.x.i, .string r.nm, .slice a n c]] w' fun e w'' => e = .returned (.bool true) ∧ Below w'.heap.size w' w'') := fun w' a n c hb hbs => (rsame_any r.x r.x r.nm r.nm _ _ r.l r.l w' (HBV.out _ hb).1 hbs).mono fun e w'' ⟨he, hk⟩ => ⟨by rw [he]; simp [recEq], hk⟩
          have HUN : Hid (∀ w', Below w10.heap.size w10 w' → Calls Tryd.prog 17 #[.slice (some ⟨g9, 0, none⟩) (r.l.length + 3) c9x, .slice ac9 nc9 cc9] w' fun e w'' => e = .returned (.bool true) ∧ Below w'.heap.size w' w'') := fun w' hb => untouched3_yes _ _ r.l w' (HBV.out _ hb).2.1 (HBV.out _ hb).2.2 (by omega)
          have hki : (k : Int) < (rs.length : Int) := by omega
          obtain ⟨⟨y0, y1, y2, y3, y4, y5, y6, y7, y8, y9, y10, y11⟩, yD, yI⟩ := HC.out _ hbel
          clear hGV hgr hp hlv hcv9 hpr1 ep hav hpq hr HBV hll9
          go_upto_region 26 with fail
          go_cut [106] from 78 to 106 (fun s wx => s = .bool false ∧ Below w10.heap.size w10 wx)
          case first =>
            go_region_held (fun w' => (w'.cell? ⟨gG, k * 12, none⟩ = some (.int .i64 r.x.v) ∧ w'.cell? ⟨gG, k * 12 + 1, none⟩ = some (.int .i64 r.x.k) ∧ w'.cell? ⟨gG, k * 12 + 2, none⟩ = some (.int .i64 r.x.s) ∧ w'.cell? ⟨gG, k * 12 + 3, none⟩ = some (.int .i64 r.x.p) ∧ w'.cell? ⟨gG, k * 12 + 4, none⟩ = some (.int .i64 r.x.t) ∧ w'.cell? ⟨gG, k * 12 + 5, none⟩ = some (.int .i64 r.x.a) ∧ w'.cell? ⟨gG, k * 12 + 6, none⟩ = some (.int .i64 r.x.l) ∧ w'.cell? ⟨gG, k * 12 + 7, none⟩ = some (.int .i64 r.x.c) ∧ w'.cell? ⟨gG, k * 12 + 8, none⟩ = some (.int .i64 r.x.n) ∧ w'.cell? ⟨gG, k * 12 + 9, none⟩ = some (.int .i64 r.x.i) ∧ w'.cell? ⟨gG, k * 12 + 10, none⟩ = some (.string r.nm) ∧ w'.cell? ⟨gG, k * 12 + 11, none⟩ = some (.slice av r.l.length cv)) ∧ w'.cell? ⟨gD, k, none⟩ = some (.slice (some ⟨g9, 0, none⟩) (r.l.length + 3) c9x) ∧ w'.cell? ⟨gI, k, none⟩ = some (.slice ac9 nc9 cc9)) (first | (exact HC.out _ (Below.drew hbel)) | (exact HC.out _ Bc) | (exact HC.out _ Bb) | (exact HC.out _ Ba) | go_keep)
              (first
                | (go_at_call 16; refine (HCLN.out _ ?_).mono ?_; (exact Below.drew hbel); rintro e wa ⟨a9, n9, c9, rfl, hb9, ba⟩; have Ba := andThen (Below.drew hbel) ba)
                | (go_at_call 15; refine (HSM.out _ _ _ _ ?_ ?_).mono ?_; (exact Ba); (exact hb9); rintro e wb ⟨rfl, bb⟩; have Bb := andThen Ba bb)
                | (go_at_call 17; refine (HUN.out _ ?_).mono ?_; (exact Bb); rintro e wc ⟨rfl, bc⟩; have Bc := andThen Bb bc))
            go_wp2_with fail
            go_meet
            exact ⟨rfl, Bc⟩
          case rest =>
            obtain ⟨rfl, hb2⟩ := hcut
            clear hbel HC HCLN HSM HUN y0 y1 y2 y3 y4 y5 y6 y7 y8 y9 y10 y11 yD yI
            go_wp2
            go_roundw
            case rel => exact ⟨k + 1, by omega, by go_num, hb2⟩
            case measure => simp [intOf]; omega
        · obtain rfl : k = rs.length := by omega
          have H3 := HP3.out _ hbel
          have HAL3 : Hid (Calls Tryd.prog 13 #[v3, vws] wr fun e w' => e = .returned (.bool true) ∧ Below wr.heap.size wr w') := alikeAll_yes _ _ L wr H3.1 H3.2.1
          have HBL : Hid (∀ w', Below wr.heap.size wr w' → Below w9.heap.size w9 w' ∧ Below w5.heap.size w5 w' ∧ Below w.heap.size w w') := fun w' hb => ⟨(HP3.out _ (andThen hbel hb)).2.2.1, (HP3.out _ (andThen hbel hb)).2.2.2.1, (HVL.out _ (HP3.out _ (andThen hbel hb)).2.2.2.2).2.2⟩
          clear H3 hbel
          go_wp2_with fail
          refine HAL3.out.mono ?_
          rintro e w11 ⟨rfl, b11⟩
          go_wp2_with fail
          refine (HA1.out _ (HBL.out _ b11).2.1).mono ?_
          rintro e w12 ⟨rfl, rfl⟩
          go_wp2_with fail
          refine (HA2.out _ (HBL.out _ b11).1).mono ?_
          rintro e w13 ⟨rfl, rfl⟩
          have B13 := (HBL.out _ b11).2.2
          clear HAL3 b11
          go_wp2
          go_ret
          exact ⟨rfl, B13⟩
end Go.Proofs.YtebklbijpdphaaaDoor
