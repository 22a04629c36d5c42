import Derived.Test.YtjhgjlnckidjkaaDoorQO8
import Derived.Test.YtjhgjlnckidjkaaDoorQO5
/-
  LiftEmpty: the pieces of its walk.
-/
namespace Go.Proofs.YtjhgjlnckidjkaaDoor
open Go Go.RowKit
open Wb

set_option maxRecDepth 100000 in
set_option maxHeartbeats 1000000 in
theorem lstartedE_any (w : World) (hT : ETabs w) : Calls Tryd.prog 14 #[] w fun e w' => e = .returned (.bool true) ∧ Below w.heap.size w w' := by
  have HU : Hid (∀ w', Below w.heap.size w w' → Calls Tryd.prog 26 #[.agg #[.int .i64 1, .int .i64 7, .int .i64 5, .int .i64 0, .int .i64 0, .int .i64 0, .int .i64 0, .int .i64 0, .int .i64 0, .int .i64 0, .string ⟨#[]⟩, .slice none 0 0], .int .i64 3] w' fun e w'' => ∃ ao, ∃ cap : Nat, e = .returned (.tuple #[.agg #[.int .i64 3, .int .i64 7, .int .i64 5, .int .i64 0, .int .i64 0, .int .i64 0, .int .i64 0, .int .i64 0, .int .i64 0, .int .i64 0, .string ⟨#[]⟩, .slice ao 0 cap], .int .i64 0]) ∧ Bs w'' (.slice ao 0 cap) [] ∧ Below w'.heap.size w' w'') := fun w' hb => by
    have h := up_O 3 endR (.slice none 0 0) w' (Bs.nil w') (hT.kept hb) (by decide) end_fit
    rw [end_up] at h
    exact h.mono fun e w'' ⟨a, c, e1, o1, b1⟩ => ⟨a, c, e1, o1.bs, b1⟩
  have HS : Hid (∀ w' ao (cap : Nat), Bs w' (.slice ao 0 cap) [] → Calls Tryd.prog 30 #[.agg #[.int .i64 3, .int .i64 7, .int .i64 5, .int .i64 0, .int .i64 0, .int .i64 0, .int .i64 0, .int .i64 0, .int .i64 0, .int .i64 0, .string ⟨#[]⟩, .slice ao 0 cap], .agg #[.int .i64 3, .int .i64 7, .int .i64 5, .int .i64 0, .int .i64 0, .int .i64 0, .int .i64 0, .int .i64 0, .int .i64 0, .int .i64 0, .string ⟨#[]⟩, .slice none 0 0]] w' fun e w'' => e = .returned (.bool true) ∧ Below w'.heap.size w' w'') := fun w' ao cap hb => (refsame_any ⟨3, 7, 5, 0, 0, 0, 0, 0, 0, 0⟩ ⟨3, 7, 5, 0, 0, 0, 0, 0, 0, 0⟩ ⟨#[]⟩ ⟨#[]⟩ _ _ [] [] w' hb (Bs.nil _)).mono fun e w'' ⟨he, hk⟩ => ⟨by rw [he, recEq_self], hk⟩
  clear hT
  go_enter Tryd.func14, Tryd.ntmps14
  go_wp2_with fail
  refine (HU.out _ (Below.refl _ _)).mono ?_
  rintro e w1 ⟨ao, cap, rfl, hbs, b1⟩
  have HW : Hid (∀ o, Bs (w1.alloc o) (.slice ao 0 cap) [] ∧ Below w.heap.size w (w1.alloc o)) := fun o => ⟨hbs.alloc o, up b1 o⟩
  clear hbs b1
  go_wp2_with fail
  refine (lnum_any 0 _).mono ?_
  rintro e w2 ⟨rfl, rfl⟩
  go_wp2_with fail
  refine (HS.out _ _ _ (HW.out _).1).mono ?_
  rintro e w3 ⟨rfl, b3⟩
  have B3 := andThen (HW.out _).2 b3
  clear b3
  go_wp2
  go_ret
  exact ⟨rfl, B3⟩
/-- a record's data is cut to nothing in its row -/
theorem Outs.cut {B : Nat} {w : World} {g cap : Nat} {ps : List (Rec × Value)} (h : Outs B w (.slice (some ⟨g, 0, none⟩) ps.length cap) ps) (i : Nat) (hi : i < ps.length) (gd cd : Nat) (hcd : cd ≤ maxLen) :
    Outs B (w.setCell ⟨g, i * 12 + 11, none⟩ (.slice (some ⟨gd, 0, none⟩) 0 cd)) (.slice (some ⟨g, 0, none⟩) ps.length cap) (ps.set i (⟨ps[i].1.x, ps[i].1.nm, []⟩, .slice (some ⟨gd, 0, none⟩) 0 cd)) := by
  have hpi : ps[i]? = some ps[i] := List.getElem?_eq_getElem hi
  have hst := World.ownsRow.stored h.1 (i * 12 + 11) (.slice (some ⟨gd, 0, none⟩) 0 cd)
  have hfl : (ps.set i (⟨ps[i].1.x, ps[i].1.nm, []⟩, .slice (some ⟨gd, 0, none⟩) 0 cd)).flatMap rcl = (ps.flatMap rcl).set (i * 12 + 11) (.slice (some ⟨gd, 0, none⟩) 0 cd) := flat_set ps i hi _ 11 (by decide) _ (fun p hp => by
    obtain rfl : ps[i] = p := Option.some.inj (hpi.symm.trans hp)
    rfl)
  refine ⟨by rw [hfl, List.length_set]; exact hst.1, fun q hq => ?_⟩
  rcases List.mem_or_eq_of_mem_set hq with hq | rfl
  · exact ⟨bs_grown (h.2 q hq).1 hst.2 fun g' hg' => (h.2 q hq).2 g' hg', (h.2 q hq).2⟩
  · exact ⟨⟨⟨some ⟨gd, 0, none⟩, cd, rfl, Nat.zero_le _, hcd, (fun e => by cases e), (fun e => absurd rfl e)⟩, ok_nil⟩, fun g' hg' e => absurd rfl e⟩
theorem Outs.grown {B : Nat} {w w' : World} {v : Value} {ps : List (Rec × Value)} {row : Option Nat} (h : Outs B w v ps) (hg : w.grownBy w' row) (hv : ∀ g, v.ownBlock = some g → row ≠ some g) (hq : ∀ g, row = some g → ∀ p ∈ ps, Off g p.2 p.1.l) : Outs B w' v ps :=
  ⟨owns_block h.1 fun g e => hg.block g (World.ownsRow.lt h.1 g e).2 (fun e' => hv g e e'.symm), fun p hp => ⟨bs_grown (h.2 p hp).1 hg fun g e => hq g e p hp, (h.2 p hp).2⟩⟩
theorem Rows1.cell {B : Nat} {w : World} {v : Value} {qs : List (List Nat × Value)} (h : Rows1 B w v qs) (g j : Nat) (u : Value) (hv : v.ownBlock ≠ some g) (hq : ∀ q ∈ qs, Off g q.2 q.1) : Rows1 B (w.setCell ⟨g, j, none⟩ u) v qs :=
  ⟨owns_block h.1 fun g' hg' => set_other w _ _ g' fun e => hv (hg'.trans (congrArg some e)), fun q hm => ⟨bs_off (h.2 q hm).1 g j [u] (hq q hm), (h.2 q hm).2⟩⟩
theorem own80 {B : Nat} {w : World} {v : Value} (h : Own B w v (List.replicate 80 211)) : ∃ g, ∃ cd : Nat, v = .slice (some ⟨g, 0, none⟩) 80 cd ∧ 80 ≤ cd ∧ cd ≤ maxLen := by
  rcases h.row.2 with ⟨_, h1⟩ | ⟨g, cap, cur, e, _, _, h3, h4, _⟩
  · rw [List.length_replicate] at h1; cases h1
  · rw [List.length_replicate] at e h3
    exact ⟨g, cap, e, h3, h4⟩
theorem LGood.o {rs : List Rec} (h : LGood rs) : OGood rs := ⟨fun r hr => ⟨Nat.le_trans (h.each r hr).1 (by decide), (h.each r hr).2.1, Nat.le_trans (h.each r hr).2.2 (by decide)⟩, h.few⟩
/-- the lists that lifted makes are short -/
theorem lifted_short {to : Int} {rs ps0 : List Rec} {i z : Int} (hU : UaAns to rs ps0 i z) (hg : OGood rs) : (∀ r ∈ ps0 ++ liftedL to rs, r.l.length ≤ 1048576) ∧ (ps0 ++ liftedL to rs).length ≤ 3 * rs.length := by
  have hL : (liftedL to rs).length = 2 * rs.length := by
    clear hg hU
    unfold liftedL
    induction rs with
    | nil => rfl
    | cons r rs ih =>
      simp only [List.flatMap_cons, List.length_append, List.length_cons, List.length_nil, ih]
      omega
  have h0 : (∀ r ∈ ps0, r.l.length ≤ 1048576) ∧ ps0.length ≤ rs.length := by
    unfold UaAns at hU
    by_cases ht : 1 ≤ to ∧ to ≤ 3
    · rw [if_pos ht] at hU
      rcases hU with ⟨_, e, _⟩ | ⟨_, _, _, _, _, e, _⟩
      · rw [e]
        refine ⟨fun r hr => ?_, by rw [List.length_map]; exact Nat.le_refl _⟩
        obtain ⟨r0, hr0, rfl⟩ := List.mem_map.1 hr
        exact Nat.le_trans (upP_len to r0 (hg.each r0 hr0).2.1) (by decide)
      · rw [e]; exact ⟨(fun r hr => nomatch hr), Nat.zero_le _⟩
    · rw [if_neg ht] at hU
      rw [hU.1]; exact ⟨(fun r hr => nomatch hr), Nat.zero_le _⟩
  refine ⟨fun r hr => ?_, by rw [List.length_append, hL]; omega⟩
  rcases List.mem_append.1 hr with hr | hr
  · exact h0.1 r hr
  · obtain ⟨r0, hr0, hm⟩ := List.mem_flatMap.1 hr
    simp only [List.mem_cons, List.not_mem_nil, or_false] at hm
    rcases hm with rfl | rfl
    · exact Nat.le_trans (upP_len to r0 (hg.each r0 hr0).2.1) (by decide)
    · exact Nat.le_trans (downP_len to r0 (hg.each r0 hr0).2.1) (by decide)
/-- what the i-th record's data holds -/
def cOf (ps : List (Rec × Value)) (i : Nat) : List Nat := match ps[i]? with | some p => p.1.l | none => []
theorem cOf_some {ps : List (Rec × Value)} {i : Nat} {p : Rec × Value} (h : ps[i]? = some p) : cOf ps i = p.1.l := by unfold cOf; rw [h]
theorem cOf_len {ps : List (Rec × Value)} (h : ∀ p ∈ ps, p.1.l.length ≤ 1048576) (i : Nat) : (cOf ps i).length ≤ 1048576 := by
  unfold cOf
  split
  · rename_i p hp
    exact h p (List.mem_of_getElem? hp)
  · exact Nat.zero_le _
theorem snd_get {ps : List (Rec × Value)} {i : Nat} {d : Value} (h : (ps.map Prod.snd)[i]? = some d) : ∃ p, ps[i]? = some p ∧ p.2 = d := by
  rw [List.getElem?_map] at h
  cases hp : ps[i]? with
  | none => rw [hp] at h; cases h
  | some p => rw [hp] at h; exact ⟨p, rfl, Option.some.inj h⟩
theorem ownsBase {B : Nat} {w : World} {v : Value} {n : Nat} {xs : List Value} (h : w.ownsRow B 36 1 v n xs) : w.ownsRow 0 36 1 v n xs := by
  refine ⟨h.1, ?_⟩
  rcases h.2 with h1 | ⟨g, cap, cur, e, _, rest⟩
  · exact .inl h1
  · exact .inr ⟨g, cap, cur, e, Nat.zero_le _, rest⟩
theorem snd_map (ps : List (Rec × Value)) : (ps.map fun p => (p.1.l, p.2)).map Prod.snd = ps.map Prod.snd := by rw [List.map_map]; rfl
/-- the list of the data, with the data apart -/
theorem lst_of {B B1 : Nat} {w : World} {v vl : Value} {ps : List (Rec × Value)} (h : Rws B w v ps) (hr : Rows1 B1 w vl (ps.map fun p => (p.1.l, p.2))) (hlt : ∀ p ∈ ps, ∀ g, p.2.ownBlock = some g → g < B1) : Lst B w vl (ps.map Prod.snd) (cOf ps) := by
  refine ⟨?_, fun i d hd => ?_, fun i j d e hd he hij => ?_, fun d hd g hg => ?_⟩
  · have h1 := hr.1
    rw [snd_map, List.length_map] at h1
    rw [List.length_map]
    exact ownsBase h1
  · obtain ⟨p, hp, rfl⟩ := snd_get hd
    rw [cOf_some hp]
    exact h.own p (List.mem_of_getElem? hp)
  · obtain ⟨p, hp, rfl⟩ := snd_get hd
    obtain ⟨q, hq, rfl⟩ := snd_get he
    exact h.apart i j p q hp hq hij
  · obtain ⟨p, hp, rfl⟩ := List.mem_map.1 hd
    intro e
    have h1 := (World.ownsRow.lt hr.1 g hg).1
    have h2 := hlt p hp g e
    omega
/-- the records with their data as filled leaves it -/
def mkd (ps : List (Rec × Value)) : List (Rec × Value) := ps.mapIdx fun i p => (⟨p.1.x, p.1.nm, mks p.1.l.length (mkA i) 0 (mkT i)⟩, p.2)
theorem mkd_get (ps : List (Rec × Value)) (i : Nat) : (mkd ps)[i]? = (ps[i]?).map fun p => (⟨p.1.x, p.1.nm, mks p.1.l.length (mkA i) 0 (mkT i)⟩, p.2) := by
  unfold mkd
  rw [List.getElem?_mapIdx]
theorem mkd_some {ps : List (Rec × Value)} {i : Nat} {q : Rec × Value} (h : (mkd ps)[i]? = some q) : ∃ p, ps[i]? = some p ∧ q.2 = p.2 ∧ q.1.l = mks p.1.l.length (mkA i) 0 (mkT i) := by
  rw [mkd_get] at h
  cases hp : ps[i]? with
  | none => rw [hp] at h; cases h
  | some p =>
    rw [hp] at h
    obtain rfl := Option.some.inj h
    exact ⟨p, rfl, rfl, rfl⟩
theorem mkd_len (ps : List (Rec × Value)) : (mkd ps).length = ps.length := by unfold mkd; rw [List.length_mapIdx]
theorem mkd_snd (ps : List (Rec × Value)) : (mkd ps).map Prod.snd = ps.map Prod.snd := by
  apply List.ext_getElem?
  intro i
  rw [List.getElem?_map, List.getElem?_map, mkd_get]
  cases ps[i]? <;> rfl
theorem mkd_rcl (ps : List (Rec × Value)) : (mkd ps).flatMap rcl = ps.flatMap rcl := by
  rw [List.flatMap_def, List.flatMap_def]
  congr 1
  apply List.ext_getElem?
  intro i
  rw [List.getElem?_map, List.getElem?_map, mkd_get]
  cases ps[i]? <;> rfl
/-- the records stand when their data has been filled -/
theorem rws_filled {B : Nat} {w w' : World} {v : Value} {ps : List (Rec × Value)} {fs : List (Value × Value × Value)} (h : Rws B w v ps) (hf : Fams B w' (ps.map Prod.snd) (fun i => (cOf ps i).length) fs) (hr : Frm (ps.map Prod.snd) w w') : Rws B w' v (mkd ps) := by
  have hown : ∀ q ∈ mkd ps, Own B w' q.2 q.1.l := fun q hq => by
    obtain ⟨i, hi⟩ := List.mem_iff_getElem?.1 hq
    obtain ⟨p, hp, e1, e2⟩ := mkd_some hi
    have h1 := hf.base i p.2 (by rw [List.getElem?_map, hp]; rfl)
    rw [cOf_some hp] at h1
    rw [e1, e2]
    exact h1
  have hrow : ∀ q ∈ mkd ps, ∀ g, v.ownBlock = some g → q.2.ownBlock ≠ some g := fun q hq g hg => by
    obtain ⟨i, hi⟩ := List.mem_iff_getElem?.1 hq
    obtain ⟨p, hp, e1, _⟩ := mkd_some hi
    rw [e1]
    exact h.row p (List.mem_of_getElem? hp) g hg
  refine ⟨⟨?_, fun q hq => ⟨(hown q hq).bs, fun g hg => off_block (hrow q hq g hg)⟩⟩, hown, fun i j p q hp hq hij => ?_, hrow⟩
  · rw [mkd_len, mkd_rcl]
    exact owns_block h.recs.1 fun g hg => hr.same g (World.ownsRow.lt h.recs.1 g hg).2 fun d hd => by
      obtain ⟨p, hp, rfl⟩ := List.mem_map.1 hd
      exact h.row p hp g hg
  · obtain ⟨p0, hp0, e1, _⟩ := mkd_some hp
    obtain ⟨q0, hq0, e2, _⟩ := mkd_some hq
    rw [e1, e2]
    exact h.apart i j p0 q0 hp0 hq0 hij
/-- to be read: the data's new list and the views -/
theorem stn_of {B B1 B2 : Nat} {w : World} {vl vm : Value} {ps : List (Rec × Value)} {fs : List (Value × Value × Value)} (hr : Rows1 B1 w vl ((mkd ps).map fun p => (p.1.l, p.2))) (hm : w.ownsRow B2 36 1 vm (3 * fs.length) (fs.flatMap vw)) (hl : fs.length = ps.length) (hf : Fams B w (ps.map Prod.snd) (fun i => (cOf ps i).length) fs) :
    Stn w vl vm (ps.map Prod.snd) (fun i => (cOf ps i).length) fs := by
  refine ⟨?_, ?_, by rw [List.length_map]; exact hl, fun i d hd => (hf.base i d hd).bs, fun i x hx => ⟨(hf.views i x hx).1.bs, (hf.views i x hx).2.1.bs, (hf.views i x hx).2.2.bs⟩⟩
  · have h1 := hr.1
    have e9 : (ps.map Prod.snd).length = ps.length := List.length_map _
    rw [snd_map, mkd_snd, List.length_map, mkd_len, ← e9] at h1
    exact rowV_of h1
  · rw [← flat3_len] at hm
    exact rowV_of hm
end Go.Proofs.YtjhgjlnckidjkaaDoor

/-
  LiftEmpty: the law's walk.
-/
namespace Go.Proofs.YtjhgjlnckidjkaaDoor
open Go Go.RowKit
open Wb

/-- a family: the records, their data and its views, marked -/
structure Fam5 (B : Nat) (w : World) (v vm : Value) (ps : List (Rec × Value)) (fs : List (Value × Value × Value)) : Prop where
  rws : Rws B w v (mkd ps)
  fam : Fams B w (ps.map Prod.snd) (fun i => (cOf ps i).length) fs
  row : w.ownsRow 0 36 1 vm (3 * fs.length) (fs.flatMap vw)
  len : fs.length = ps.length
theorem Fam5.kept {B : Nat} {w w' : World} {v vm : Value} {ps : List (Rec × Value)} {fs : List (Value × Value × Value)} (h : Fam5 B w v vm ps fs) (hb : Below w.heap.size w w') : Fam5 B w' v vm ps fs := ⟨h.rws.kept hb, h.fam.kept hb, owns_kept h.row hb, h.len⟩
theorem dataL {B : Nat} {w : World} {v : Value} {ps : List (Rec × Value)} (h : Rws B w v ps) (hn : ps.length ≤ 9000000) :
    Calls Tryd.prog 20 #[v] w fun e w' => ∃ vl, e = .returned vl ∧ Lst B w' vl (ps.map Prod.snd) (cOf ps) ∧ Rws B w' v ps ∧ Below w.heap.size w w' :=
  (data_any v B ps w h hn).mono fun _ _ ⟨vl, he, hr, hb⟩ => ⟨vl, he, lst_of (h.kept hb) hr (fun p hp g hg => (World.ownsRow.lt (h.own p hp).row g hg).2), h.kept hb, hb⟩
theorem filledL {B : Nat} {w : World} {v vl : Value} {ps : List (Rec × Value)} (h : Rws B w v ps) (hL : Lst B w vl (ps.map Prod.snd) (cOf ps)) (hn : ps.length ≤ 9000000) (hc : ∀ p ∈ ps, p.1.l.length ≤ 1048576) (hB : B ≤ w.heap.size) :
    Calls Tryd.prog 19 #[vl] w fun e w' => ∃ vm fs, e = .returned vm ∧ Fam5 B w' v vm ps fs ∧ Below B w w' :=
  (filled_any B vl (ps.map Prod.snd) (cOf ps) w hL (by rw [List.length_map]; exact hn) (cOf_len hc) hB).mono fun e w' ⟨vm, fs, he, hl, hf, hr, hF, hb⟩ => ⟨vm, fs, he, ⟨rws_filled h hf hF, hf, ownsBase hr, by rw [hl, List.length_map]⟩, hb⟩
theorem dataS {B : Nat} {w : World} {v vm : Value} {ps : List (Rec × Value)} {fs : List (Value × Value × Value)} (h : Fam5 B w v vm ps fs) (hn : ps.length ≤ 9000000) :
    Calls Tryd.prog 20 #[v] w fun e w' => ∃ vl, e = .returned vl ∧ Stn w' vl vm (ps.map Prod.snd) (fun i => (cOf ps i).length) fs ∧ Below w.heap.size w w' :=
  (data_any v B (mkd ps) w h.rws (by rw [mkd_len]; exact hn)).mono fun e w' ⟨vl, he, hr, hb⟩ => ⟨vl, he, stn_of hr (owns_kept h.row hb) h.len (h.fam.kept hb), hb⟩
theorem liftedE (to : Int) (v : Value) (rs : List Rec) (w : World) (h : RecsAt w v rs) (hg : LGood rs) (hT : ETabs w) :
    Calls Tryd.prog 17 #[.int .i64 to, v] w fun e w' => ∃ v' ps, e = .returned v' ∧ Rws w.heap.size w' v' ps ∧ (∀ p ∈ ps, p.1.l.length ≤ 1048576) ∧ ps.length ≤ 9000000 ∧ Below w.heap.size w w' :=
  (lifted_any to v rs w h hg.o hT).mono fun e w' ⟨v', ps, ps0, i, z, he, hR, hU, hm, hb⟩ => ⟨v', ps, he, hR, fun p hp => (lifted_short hU hg.o).1 p.1 (by rw [← hm]; exact List.mem_map.2 ⟨p, hp, rfl⟩), by
    have h1 := (lifted_short hU hg.o).2
    rw [← hm, List.length_map] at h1
    have h2 := hg.few
    omega, hb⟩
set_option maxRecDepth 100000 in
set_option maxHeartbeats 16000000 in
theorem lempty_any (to : Int) (v : Value) (rs0 : List Rec) (w : World) (h : RecsAt w v rs0) (hg : LGood rs0) (hT : ETabs w) :
    Calls Tryd.prog 5 #[.int .i64 to, v] w fun e w' => e = .returned (.bool true) ∧ Below w.heap.size w w' := by
  have hib := infoBS
  have HT : Hid (∀ w', Below w.heap.size w w' → ETabs w') := fun w' hb => hT.kept hb
  have HCL : Hid (Calls Tryd.prog 22 #[v] w fun e w' => ∃ v' ps, e = .returned v' ∧ Rws w.heap.size w' v' ps ∧ ps.map Prod.fst = rs0 ∧ Below w.heap.size w w') := cloneAll_any v rs0 w h hg
  have HG0 : Hid (LGood rs0) := hg
  obtain ⟨av, cv, rfl, _⟩ := h
  clear hg hT
  go_enter Tryd.func5, Tryd.ntmps5
  go_wp2_with fail
  refine HCL.out.mono ?_
  rintro e w1 ⟨v0, ps0, rfl, hR0, hm0, b1⟩
  obtain ⟨a0, c0, rfl, hc0, _⟩ := hR0.recs.shape
  obtain ⟨n, hn⟩ : ∃ n, ps0.length = n := ⟨_, rfl⟩
  rw [hn] at hR0 ⊢
  have hn1 : n ≤ 1048576 := by
    have h9 := congrArg List.length hm0
    rw [List.length_map, hn] at h9
    rw [h9]
    exact HG0.out.few
  have HGL : Hid (∀ g, a0 = some ⟨g, 0, none⟩ → w.heap.size ≤ g ∧ g < w1.heap.size) := fun g e => by
    subst e
    exact World.ownsRow.lt hR0.recs.1 g rfl
  have HR0 : Hid (Outs w.heap.size w1 (.slice a0 n c0) ps0 ∧ LGood (ps0.map Prod.fst) ∧ (∀ p ∈ ps0, ∀ g, w1.heap.size ≤ g → Off g p.2 p.1.l) ∧ Below w.heap.size w w1) := ⟨hR0.recs, by rw [hm0]; exact HG0.out, fun p hp g hg => off_of (hR0.own p hp).bs g hg, b1⟩
  have hsz1 : w.heap.size ≤ w1.heap.size := b1.size
  clear hR0 hm0 b1 HCL HG0
  unfold maxLen at hc0
  go_wp2
  go_loopw [6, 7] (fun u i wr => ∃ (k : Nat) (ps : List (Rec × Value)) (qs : List (List Nat × Value)), k ≤ n ∧ i = .int .i64 (k : Int) ∧ Outs w.heap.size wr (.slice a0 n c0) ps ∧ ps.length = n ∧ LGood (ps.map Prod.fst) ∧ (∀ p ∈ ps, ∀ g, w1.heap.size ≤ g → Off g p.2 p.1.l) ∧ Rows1 w1.heap.size wr u qs ∧ qs.length = k ∧ (∀ q ∈ qs, q.1 = List.replicate 80 211 ∧ ∀ g, g < w1.heap.size → Off g q.2 q.1) ∧ Below w.heap.size w wr ∧ w1.heap.size ≤ wr.heap.size) (fun _ i _ => n - (intOf i).toNat)
  case atStart => exact ⟨0, ps0, [], Nat.zero_le _, rfl, HR0.out.1, hn, HR0.out.2.1, HR0.out.2.2.1, Rows1.nil _ _, rfl, (fun q hq => nomatch hq), HR0.out.2.2.2, Nat.le_refl _⟩
  case round =>
    obtain ⟨k, ps, qs, hk, rfl, hO, hpn, hG, hPo, hQ, hqn, hqq, hbel, hsz⟩ := hrel
    clear HR0 hn
    by_cases hlt : k < n
    · obtain ⟨g, rfl⟩ : ∃ g, a0 = some ⟨g, 0, none⟩ := by
        obtain ⟨a9, c9, e, _, h9, _⟩ := hO.shape
        simp only [Value.slice.injEq] at e
        obtain ⟨rfl, _, _⟩ := e
        exact h9 k (by omega)
      obtain ⟨hg1, hg2⟩ := HGL.out g rfl
      have HH : Hid (Calls Tryd.prog 23 #[] wr fun e w' => ∃ g, ∃ cd : Nat, e = .returned (.slice (some ⟨g, 0, none⟩) 80 cd) ∧ 80 ≤ cd ∧ cd ≤ maxLen ∧ Own wr.heap.size w' (.slice (some ⟨g, 0, none⟩) 80 cd) (List.replicate 80 211) ∧ Below wr.heap.size wr w') := (hollow_any wr).mono fun e w' ⟨v', e1, o1, b1⟩ => by
        obtain ⟨g, cd, rfl, h1, h2⟩ := own80 o1
        exact ⟨g, cd, e1, h1, h2, o1, b1⟩
      have HO : Hid (Outs w.heap.size wr (.slice (some ⟨g, 0, none⟩) n c0) ps ∧ Rows1 w1.heap.size wr u6 qs ∧ Below w.heap.size w wr) := ⟨hO, hQ, hbel⟩
      have HPG : Hid (LGood (ps.map Prod.fst) ∧ (∀ p ∈ ps, ∀ g, w1.heap.size ≤ g → Off g p.2 p.1.l) ∧ (∀ q ∈ qs, q.1 = List.replicate 80 211 ∧ ∀ g, g < w1.heap.size → Off g q.2 q.1)) := ⟨hG, hPo, hqq⟩
      have HOB : Hid (∀ g', u6.ownBlock = some g' → w1.heap.size ≤ g' ∧ g' < wr.heap.size) := fun g' hg' => World.ownsRow.lt hQ.1 g' hg'
      clear hO hQ hbel hG hPo hqq
      go_wp2_with fail
      refine HH.out.mono ?_
      rintro e w2 ⟨gd, cd, rfl, hcd1, hcd2, ho2, b2⟩
      have HOW : Hid (∀ o, Rows1 w1.heap.size (w2.alloc o) u6 qs ∧ Outs w.heap.size (w2.alloc o) (.slice (some ⟨g, 0, none⟩) n c0) ps ∧ Below w.heap.size w (w2.alloc o) ∧ w1.heap.size ≤ (w2.alloc o).heap.size ∧ Bs (w2.alloc o) (.slice (some ⟨gd, 0, none⟩) 80 cd) (List.replicate 80 211)) := fun o => ⟨(HO.out.2.1.kept b2).kept (up0 _ _), (HO.out.1.kept b2).kept (up0 _ _), up (andThen HO.out.2.2 b2) _, Nat.le_trans hsz (Nat.le_trans b2.size (up0 w2 o).size), ho2.bs.alloc o⟩
      have HOF : Hid (∀ g', g' < wr.heap.size → Off g' (.slice (some ⟨gd, 0, none⟩) 80 cd) (List.replicate 80 211)) := fun g' hg' => off_own ho2 g' hg'
      have HC2 : Hid (∀ w' : World, (w'.alloc (.cells #[.slice (some ⟨gd, 0, none⟩) 80 cd] 36)).cell? ⟨w'.heap.size, 0, none⟩ = some (.slice (some ⟨gd, 0, none⟩) 80 cd)) := fun w' => by rw [World.cell?_alloc_new]; rfl
      have HCD : Hid (cd ≤ maxLen) := hcd2
      unfold maxLen at hcd2
      clear ho2 b2 HO HH
      go_wp2_with (at_builtin; refine wpList_append_bs2 _ rfl (.tmp 23) (.tmp 25) 45 rfl w1.heap.size hib Tryd.underlying45 _ qs (List.replicate 80 211, .slice (some ⟨gd, 0, none⟩) 80 cd) rfl (HOW.out _).1 _ rfl (HC2.out _) rfl (HOW.out _).2.2.2.2 (fun g' hg' => HOF.out g' (HOB.out g' hg').2) (by omega) (HOW.out _).2.2.2.1 ?_)
      intro v3 w3 hr3 hg3 _
      have hO3 : Outs w.heap.size w3 (.slice (some ⟨g, 0, none⟩) n c0) ps := (HOW.out _).2.1.grown hg3 (fun g' hg' e => by
        have h1 := (HOB.out g' e).1
        obtain rfl : g = g' := Option.some.inj hg'
        omega) (fun g' hg' p hp => HPG.out.2.1 p hp g' (HOB.out g' hg').1)
      have hb3 : Below w.heap.size w w3 := (HOW.out _).2.2.1.trans (grown_below ((HOW.out _).1.1) hg3 (HOW.out _).2.2.2.1 |>.mono hsz1)
      have hs3 : w1.heap.size ≤ w3.heap.size := Nat.le_trans (HOW.out _).2.2.2.1 hg3.size
      obtain ⟨p, hp⟩ : ∃ p, ps[k]? = some p := ⟨ps[k]'(by omega), List.getElem?_eq_getElem _⟩
      have hpk : k < ps.length := by omega
      have hpe : ps[k] = p := (List.getElem?_eq_some_iff.1 hp).2
      have hw3 : w3.ownsRow w.heap.size 38 12 (.slice (some ⟨g, 0, none⟩) n c0) n (ps.flatMap rcl) := by
        have h9 := hO3.1
        rw [hpn] at h9
        exact h9
      have cj : w3.cell? ⟨g, k * 12 + 11, none⟩ = some p.2 := by
        rw [World.ownsRow.cellAt hw3 (k * 12 + 11) (by omega), rcls_get ps k hpk 11 (by decide), hpe]
        rfl
      have fj : w3.frozen? ⟨g, k * 12 + 11, none⟩ = false := World.ownsRow.frozenAt hw3 _
      have HX : Hid (∃ ps', Outs w.heap.size (w3.setCell ⟨g, k * 12 + 11, none⟩ (.slice (some ⟨gd, 0, none⟩) 0 cd)) (.slice (some ⟨g, 0, none⟩) n c0) ps' ∧ ps'.length = n ∧ LGood (ps'.map Prod.fst) ∧ (∀ p ∈ ps', ∀ g, w1.heap.size ≤ g → Off g p.2 p.1.l) ∧ Rows1 w1.heap.size (w3.setCell ⟨g, k * 12 + 11, none⟩ (.slice (some ⟨gd, 0, none⟩) 0 cd)) v3 (qs ++ [(List.replicate 80 211, .slice (some ⟨gd, 0, none⟩) 80 cd)]) ∧ Below w.heap.size w (w3.setCell ⟨g, k * 12 + 11, none⟩ (.slice (some ⟨gd, 0, none⟩) 0 cd)) ∧ w1.heap.size ≤ (w3.setCell ⟨g, k * 12 + 11, none⟩ (.slice (some ⟨gd, 0, none⟩) 0 cd)).heap.size) := by
        have hx := Outs.cut (ps := ps) (by rw [hpn]; exact hO3) k hpk gd cd HCD.out
        rw [hpn] at hx
        have hr := HPG.out.1.each ps[k].1 (List.mem_map.2 ⟨_, List.getElem_mem hpk, rfl⟩)
        refine ⟨_, hx, by rw [List.length_set]; exact hpn, good_set HPG.out.1 k _ ⟨hr.1, hr.2.1, Nat.zero_le _⟩, fun q hq => ?_, hr3.cell g _ _ (fun e => ?_) (fun q hq => ?_), Below.setCell hb3 (show w.heap.size ≤ g from hg1) _, ?_⟩
        · rcases List.mem_or_eq_of_mem_set hq with hq | rfl
          · exact HPG.out.2.1 q hq
          · exact fun _ _ e => absurd rfl e
        · have := (World.ownsRow.lt hr3.1 g e).1
          omega
        · rcases List.mem_append.1 hq with hq | hq
          · exact (HPG.out.2.2 q hq).2 g hg2
          · obtain rfl := List.mem_singleton.1 hq
            exact HOF.out g (by omega)
        · exact Nat.le_trans hs3 (World.ownsRow.stored hw3 (k * 12 + 11) (.slice (some ⟨gd, 0, none⟩) 0 cd)).2.size
      have HQ : Hid (∀ q ∈ qs ++ [(List.replicate 80 211, Value.slice (some ⟨gd, 0, none⟩) 80 cd)], q.1 = List.replicate 80 211 ∧ ∀ g, g < w1.heap.size → Off g q.2 q.1) := fun q hq => by
        rcases List.mem_append.1 hq with hq | hq
        · exact HPG.out.2.2 q hq
        · obtain rfl := List.mem_singleton.1 hq
          exact ⟨rfl, fun g' hg' => HOF.out g' (by omega)⟩
      clear hw3 hO3 hb3 hs3 hr3 hg3 HOW HOF HC2 HPG HOB hp hpe
      obtain ⟨pr, pd⟩ := p
      simp only at cj
      go_wp2
      obtain ⟨ps', x1, x2, x3, x4, x5, x6, x7⟩ := HX.out
      go_roundw
      case rel => exact ⟨k + 1, ps', _, by omega, by go_num, x1, x2, x3, x4, x5, by rw [List.length_append, hqn]; rfl, HQ.out, x6, x7⟩
      case measure => simp [intOf]; omega
    · obtain rfl : k = n := by omega
      have hra := hO.recsAt
      obtain ⟨rs, hrs⟩ : ∃ rs, ps.map Prod.fst = rs := ⟨_, rfl⟩
      rw [hrs] at hra hG
      have HRM : Hid (∀ w', Below wr.heap.size wr w' → Rows1 w1.heap.size w' u6 qs) := fun w' hb => hQ.kept hb
      have HQQ : Hid (∀ q ∈ qs, q.1 = List.replicate 80 211) := fun q hq => (hqq q hq).1
      have HL : Hid (∀ w', Below wr.heap.size wr w' → Calls Tryd.prog 17 #[.int .i64 to, .slice a0 k c0] w' fun e w'' => ∃ v' ps, e = .returned v' ∧ Rws w'.heap.size w'' v' ps ∧ (∀ p ∈ ps, p.1.l.length ≤ 1048576) ∧ ps.length ≤ 9000000 ∧ Below w'.heap.size w' w'') := fun w' hb => liftedE to _ rs w' (hra.kept hb) hG (HT.out _ (andThen hbel hb))
      have HST : Hid (∀ w', Below wr.heap.size wr w' → Calls Tryd.prog 14 #[] w' fun e w'' => e = .returned (.bool true) ∧ Below w'.heap.size w' w'') := fun w' hb => lstartedE_any w' (HT.out _ (andThen hbel hb))
      have HB : Hid (Below w.heap.size w wr) := hbel
      obtain ⟨a6, c6, e6, hc6⟩ : ∃ a6, ∃ c6 : Nat, u6 = .slice a6 k c6 ∧ c6 ≤ 9223372036854775807 := by
        have h1 := hQ.1
        rw [hqn] at h1
        rcases h1.2 with ⟨e, h2⟩ | ⟨g, cap, cur, e, _, _, h3, h4, _⟩
        · exact ⟨none, 0, by rw [e, h2], by decide⟩
        · exact ⟨_, cap, e, by unfold maxLen at h4; omega⟩
      subst e6
      clear hra hO hPo hQ hqq hbel hG hrs hpn HT HGL
      generalize wr = w5 at *
      go_wp2_with fail
      refine (HL.out _ (Below.refl _ _)).mono ?_
      rintro e w6 ⟨v1, ps1, rfl, hR1, hs1, hl1, b6⟩
      have HD1 : Hid (Calls Tryd.prog 20 #[v1] w6 fun e w' => ∃ vl, e = .returned vl ∧ Lst w5.heap.size w' vl (ps1.map Prod.snd) (cOf ps1) ∧ Rws w5.heap.size w' v1 ps1 ∧ Below w6.heap.size w6 w') := dataL hR1 hl1
      clear hR1
      go_wp2_with fail
      refine HD1.out.mono ?_
      rintro e w7 ⟨vl1, rfl, hL1, hR1, b7⟩
      have B7 := andThen b6 b7
      have HF1 : Hid (Calls Tryd.prog 19 #[vl1] w7 fun e w' => ∃ vm fs, e = .returned vm ∧ Fam5 w5.heap.size w' v1 vm ps1 fs ∧ Below w5.heap.size w7 w') := filledL hR1 hL1 hl1 hs1 B7.size
      clear hL1 hR1 b6 b7 HD1
      go_wp2_with fail
      refine HF1.out.mono ?_
      rintro e w8 ⟨vm1, fs1, rfl, hA1, b8⟩
      have B8 := B7.trans b8
      clear b8 B7 HF1
      go_wp2_with fail
      refine (HL.out _ B8).mono ?_
      rintro e w9 ⟨v2, ps2, rfl, hR2, hs2, hl2, b9⟩
      have HD2 : Hid (Calls Tryd.prog 20 #[v2] w9 fun e w' => ∃ vl, e = .returned vl ∧ Lst w8.heap.size w' vl (ps2.map Prod.snd) (cOf ps2) ∧ Rws w8.heap.size w' v2 ps2 ∧ Below w9.heap.size w9 w') := dataL hR2 hl2
      clear hR2
      go_wp2_with fail
      refine HD2.out.mono ?_
      rintro e w10 ⟨vl2, rfl, hL2, hR2, b10⟩
      have B10 := andThen b9 b10
      have HF2 : Hid (Calls Tryd.prog 19 #[vl2] w10 fun e w' => ∃ vm fs, e = .returned vm ∧ Fam5 w8.heap.size w' v2 vm ps2 fs ∧ Below w8.heap.size w10 w') := filledL hR2 hL2 hl2 hs2 B10.size
      clear hL2 hR2 b9 b10 HD2
      go_wp2_with fail
      refine HF2.out.mono ?_
      rintro e w11 ⟨vm2, fs2, rfl, hA2, b11⟩
      have B11 := B10.trans b11
      have hA1' := hA1.kept B11
      have BB := andThen B8 B11
      have HA : Hid (Fam5 w5.heap.size w11 v1 vm1 ps1 fs1 ∧ Fam5 w8.heap.size w11 v2 vm2 ps2 fs2 ∧ Below w5.heap.size w5 w11 ∧ (∀ p ∈ ps1, p.1.l.length ≤ 1048576) ∧ (∀ p ∈ ps2, p.1.l.length ≤ 1048576)) := ⟨hA1', hA2, BB, hs1, hs2⟩
      have hrm := HRM.out _ BB
      have HST11 : Hid (Calls Tryd.prog 14 #[] w11 fun e w'' => e = .returned (.bool true) ∧ Below w11.heap.size w11 w'') := HST.out _ BB
      clear B8 b11 B10 B11 hA1 hA1' hA2 BB hs1 hs2 HF2 HL HRM HST
      have HRC : Hid (∀ j, j < k → ∃ g6 ad, ∃ cd : Nat, a6 = some ⟨g6, 0, none⟩ ∧ w11.cell? ⟨g6, j, none⟩ = some (.slice ad 80 cd) ∧ Bs w11 (.slice ad 80 cd) (List.replicate 80 211)) := fun j hj => by
        obtain ⟨q, hq⟩ : ∃ q, qs[j]? = some q := ⟨qs[j]'(by omega), List.getElem?_eq_getElem _⟩
        have h1 := hrm.1
        have hqm := List.mem_of_getElem? hq
        have e9 : (qs.map Prod.snd).length = qs.length := List.length_map _
        rw [← e9] at h1
        obtain ⟨ao, cap, e, hcell⟩ := rowV_of h1
        obtain ⟨g6, e2, hc⟩ := hcell j q.2 (by rw [List.getElem?_map, hq]; rfl)
        have hb := (hrm.2 q hqm).1
        rw [HQQ.out q hqm] at hb
        obtain ⟨ad, cd, e3, _⟩ := hb.shape
        rw [List.length_replicate] at e3
        rw [e3] at hb hc
        simp only [Value.slice.injEq] at e
        exact ⟨g6, ad, cd, e.1.trans e2, hc, hb⟩
      clear hrm HQQ
      go_wp2
      go_loopw [13] (fun i wr => wr = w11 ∧ ∃ j : Nat, j ≤ k ∧ i = .int .i64 (j : Int)) (fun i _ => k - (intOf i).toNat)
      case atStart => exact ⟨rfl, 0, Nat.zero_le _, rfl⟩
      case round =>
        obtain ⟨rfl, j, hj, rfl⟩ := hrel
        by_cases hlj : j < k
        · obtain ⟨g6, ad, cd, rfl, cj, hbj⟩ := HRC.out j hlj
          have HU : Hid (Calls Tryd.prog 24 #[.slice ad 80 cd] wr fun e w' => e = .returned (.bool true) ∧ w' = wr) := unspoilt_any _ wr hbj
          clear HRC hbj HA HST11
          generalize wr = w12 at *
          go_wp2_with fail
          refine HU.out.mono ?_
          rintro e w13 ⟨rfl, rfl⟩
          go_wp2
          go_roundw
          case rel => exact ⟨trivial, j + 1, by omega, by go_num⟩
          case measure => simp [intOf]; omega
        · clear HRC
          generalize wr = w12 at *
          go_wp2_with fail
          refine HST11.out.mono ?_
          rintro e w13 ⟨rfl, b13⟩
          have HE1 : Hid (Calls Tryd.prog 20 #[v1] w13 fun e w' => ∃ vl, e = .returned vl ∧ Stn w' vl vm1 (ps1.map Prod.snd) (fun i => (cOf ps1 i).length) fs1 ∧ Below w13.heap.size w13 w') := dataS (HA.out.1.kept b13) hl1
          go_wp2_with fail
          refine HE1.out.mono ?_
          rintro e w14 ⟨vl3, rfl, hS1, b14⟩
          have HE2 : Hid (Calls Tryd.prog 21 #[vl3, vm1] w14 fun e w' => e = .returned (.bool true) ∧ w' = w14) := stand_any vl3 vm1 _ _ fs1 w14 hS1 (by rw [List.length_map]; exact hl1) (cOf_len HA.out.2.2.2.1)
          clear hS1 HE1
          go_wp2_with fail
          refine HE2.out.mono ?_
          rintro e w15 ⟨rfl, rfl⟩
          have B15 := andThen b13 b14
          have HE3 : Hid (Calls Tryd.prog 20 #[v2] w15 fun e w' => ∃ vl, e = .returned vl ∧ Stn w' vl vm2 (ps2.map Prod.snd) (fun i => (cOf ps2 i).length) fs2 ∧ Below w15.heap.size w15 w') := dataS (HA.out.2.1.kept B15) hl2
          clear HE2
          go_wp2_with fail
          refine HE3.out.mono ?_
          rintro e w16 ⟨vl4, rfl, hS2, b16⟩
          have HE4 : Hid (Calls Tryd.prog 21 #[vl4, vm2] w16 fun e w' => e = .returned (.bool true) ∧ w' = w16) := stand_any vl4 vm2 _ _ fs2 w16 hS2 (by rw [List.length_map]; exact hl2) (cOf_len HA.out.2.2.2.2)
          clear hS2 HE3
          go_wp2_with fail
          refine HE4.out.mono ?_
          rintro e w17 ⟨rfl, rfl⟩
          have B17 : Below w.heap.size w w17 := andThen HB.out (andThen HA.out.2.2.1 (andThen B15 b16))
          clear HE4
          go_wp2
          go_ret
          exact ⟨rfl, B17⟩
end Go.Proofs.YtjhgjlnckidjkaaDoor
