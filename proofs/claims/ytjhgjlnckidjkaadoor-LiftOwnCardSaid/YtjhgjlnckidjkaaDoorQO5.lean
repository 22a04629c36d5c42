import Derived.Test.YtjhgjlnckidjkaaDoorQO2
import Derived.Test.YtjhgjlnckidjkaaDoorQU3
import Derived.Test.YtjhgjlnckidjkaaDoorQA3
/-
  LiftEmpty, LiftOwn: lifted.
-/
namespace Go.Proofs.YtjhgjlnckidjkaaDoor
open Go Go.RowKit
open Wb

/-- two records more -/
theorem Rws.more2 {B n0 : Nat} {w w' : World} {v v' : Value} {ps : List (Rec × Value)} (h : Rws B w v ps) (p q : Rec × Value) (h1 : Outs B w' v' (ps ++ [p, q])) (h2 : w.grownBy w' v.ownBlock) (h3 : v'.ownBlock = v.ownBlock ∨ v'.ownBlock = some w.heap.size)
    (hp : Own n0 w p.2 p.1.l) (hq : Own n0 w q.2 q.1.l) (hpq : ∀ g, p.2.ownBlock = some g → q.2.ownBlock ≠ some g) (hB : B ≤ n0) (hn : ∀ q ∈ ps, ∀ g, q.2.ownBlock = some g → g < n0) (hv : ∀ g, v.ownBlock = some g → g < n0) : Rws B w' v' (ps ++ [p, q]) := by
  have hpl : ∀ s ∈ [p, q], ∀ g, s.2.ownBlock = some g → n0 ≤ g ∧ g < w.heap.size := fun s hs g hg => by
    simp only [List.mem_cons, List.not_mem_nil, or_false] at hs
    rcases hs with rfl | rfl
    · exact World.ownsRow.lt hp.row g hg
    · exact World.ownsRow.lt hq.row g hg
  have hnew : ∀ g, v'.ownBlock = some g → v.ownBlock = some g ∨ w.heap.size = g := fun g hg => by
    rcases h3 with e | e
    · exact .inl (e ▸ hg)
    · exact .inr (Option.some.inj (e.symm.trans hg))
  have hkeep : ∀ (q : Rec × Value) b, Own b w q.2 q.1.l → (∀ g, v.ownBlock = some g → q.2.ownBlock ≠ some g) → Own b w' q.2 q.1.l := fun q b hq hne => own_kept2 hq fun g hg => h2.block g (World.ownsRow.lt hq.row g hg).2 fun e => hne g e.symm hg
  have hprow : ∀ s ∈ [p, q], ∀ g, v.ownBlock = some g → s.2.ownBlock ≠ some g := fun s hs g hg e => by
    have := (hpl s hs g e).1
    have := hv g hg
    omega
  have hpo : ∀ s ∈ [p, q], Own n0 w s.2 s.1.l := fun s hs => by
    simp only [List.mem_cons, List.not_mem_nil, or_false] at hs
    rcases hs with rfl | rfl
    · exact hp
    · exact hq
  refine ⟨h1, fun s hs => ?_, fun i j s t hi hj hij g hg ht => ?_, fun s hs g hg e => ?_⟩
  · rcases List.mem_append.1 hs with hs | hs
    · exact hkeep s B (h.own s hs) (h.row s hs)
    · exact (hkeep s n0 (hpo s hs) (hprow s hs)).mono hB
  · have hcase : ∀ (k : Nat) (s : Rec × Value), (ps ++ [p, q])[k]? = some s → ps[k]? = some s ∨ (s ∈ [p, q] ∧ ([p, q])[k - ps.length]? = some s ∧ ps.length ≤ k) := fun k s hk => by
      by_cases hlt : k < ps.length
      · rw [List.getElem?_append_left hlt] at hk
        exact .inl hk
      · rw [List.getElem?_append_right (by omega)] at hk
        exact .inr ⟨List.mem_of_getElem? hk, hk, by omega⟩
    rcases hcase i s hi with hi1 | ⟨hi1, hi2, hi3⟩
    · rcases hcase j t hj with hj1 | ⟨hj1, _, _⟩
      · exact h.apart i j s t hi1 hj1 hij g hg ht
      · have := hn s (List.mem_of_getElem? hi1) g hg
        have := (hpl t hj1 g ht).1
        omega
    · rcases hcase j t hj with hj1 | ⟨_, hj2, hj3⟩
      · have := hn t (List.mem_of_getElem? hj1) g ht
        have := (hpl s hi1 g hg).1
        omega
      · have hi4 : i - ps.length < 2 := by have := (List.getElem?_eq_some_iff.1 hi2).1; simpa using this
        have hj4 : j - ps.length < 2 := by have := (List.getElem?_eq_some_iff.1 hj2).1; simpa using this
        obtain hi5 | hi5 : i - ps.length = 0 ∨ i - ps.length = 1 := by omega
        · obtain hj5 | hj5 : j - ps.length = 0 ∨ j - ps.length = 1 := by omega
          · omega
          · rw [hi5] at hi2
            rw [hj5] at hj2
            obtain rfl : p = s := by simpa using hi2
            obtain rfl : q = t := by simpa using hj2
            exact hpq g hg ht
        · obtain hj5 | hj5 : j - ps.length = 0 ∨ j - ps.length = 1 := by omega
          · rw [hi5] at hi2
            rw [hj5] at hj2
            obtain rfl : q = s := by simpa using hi2
            obtain rfl : p = t := by simpa using hj2
            exact hpq g ht hg
          · omega
  · rcases List.mem_append.1 hs with hs | hs
    · rcases hnew g hg with e1 | e1
      · exact h.row s hs g e1 e
      · have := (World.ownsRow.lt (h.own s hs).row g e).2
        omega
    · rcases hnew g hg with e1 | e1
      · exact hprow s hs g e1 e
      · have := (hpl s hs g e).2
        omega
/-- append(v, x, y) of two records -/
theorem wpList_append_two {P : Program} (w : World) {ops : Array Oper} {rest : List Oper} {o : Oper} {a : Act} {Q : Exit → Act → World → Prop} (hgd : o.guard = none) (s x : Operand) (t : TypeId)
    (ho : o.op = .call { callee := .builtin .append, args := #[s, x], argTypes := #[t, t] })
    (B : Nat) (hinfo : (P.info? 38).map (fun i => (i.zero, i.size, i.bytes)) = some (some (.agg #[.int .i64 0, .int .i64 0, .int .i64 0, .int .i64 0, .int .i64 0, .int .i64 0, .int .i64 0, .int .i64 0, .int .i64 0, .int .i64 0, .string ⟨#[]⟩, .slice none 0 0]), 12, 120)) (ht : P.underlying t = some (.slice 38))
    (v : Value) (ps : List (Rec × Value)) (p q : Rec × Value) (hv : a.eval s = v) (h : Outs B w v ps) (g : Nat) (hx : a.eval x = .slice (some ⟨g, 0, none⟩) 2 2)
    (hc : w.rangeAt g 0 (rcl p ++ rcl q)) (hp : p.2.oneCell' = true) (hq : q.2.oneCell' = true) (hp2 : Bs w p.2 p.1.l) (hq2 : Bs w q.2 q.1.l) (hpo : ∀ g, v.ownBlock = some g → Off g p.2 p.1.l) (hqo : ∀ g, v.ownBlock = some g → Off g q.2 q.1.l)
    (hmax : (ps.length + 2) * 120 ≤ 140737488355328) (hB : B ≤ w.heap.size)
    (hK : ∀ v' w', Outs B w' v' (ps ++ [p, q]) → w.grownBy w' v.ownBlock → (v'.ownBlock = v.ownBlock ∨ v'.ownBlock = some w.heap.size) → wpList P ops Q rest (a.put o.dst v') w') : wpList P ops Q (o :: rest) a w := by
  obtain ⟨i0, hi, hz0, hz1, hz2⟩ := Lft.info_parts3 hinfo
  refine wpList_append_own_at w hgd s x t ho B 38 i0 _ 12 120 ht hi hz0 hz1 hz2 rfl (by decide) v ps.length (ps.flatMap rcl) hv h.1 ⟨g, 0, none⟩ 2 2 (rcl p ++ rcl q) hx rfl ?_ ?_ (by unfold maxLen; omega) (by omega) hB ?_
  · intro j u hj
    have := hc j u hj
    rw [Addr.add_lit]
    exact this
  · intro u hu
    simp only [rcl, List.mem_append, List.mem_cons, List.not_mem_nil, or_false] at hu
    rcases hu with (rfl | rfl | rfl | rfl | rfl | rfl | rfl | rfl | rfl | rfl | rfl | rfl) | rfl | rfl | rfl | rfl | rfl | rfl | rfl | rfl | rfl | rfl | rfl | rfl
    all_goals first | rfl | exact hp | exact hq
  · intro v' w' h2 h3 _ h5
    have hown : w'.ownsRow B 38 12 v' (ps ++ [p, q]).length ((ps ++ [p, q]).flatMap rcl) := by
      rw [List.length_append, List.flatMap_append]
      simpa using h2
    have hof : ∀ s : Rec × Value, Bs w s.2 s.1.l → (∀ g, v.ownBlock = some g → Off g s.2 s.1.l) → Bs w' s.2 s.1.l ∧ ∀ g, v'.ownBlock = some g → Off g s.2 s.1.l := fun s hb ho => ⟨bs_grown hb h3 ho, fun g hg => by
      rcases h5 with e | e
      · exact ho g (e ▸ hg)
      · rw [e] at hg
        exact off_of hb g (Nat.le_of_eq (Option.some.inj hg))⟩
    refine hK v' w' ⟨hown, fun s hs => ?_⟩ h3 h5
    rcases List.mem_append.1 hs with hs | hs
    · exact hof s (h.2 s hs).1 (h.2 s hs).2
    · simp only [List.mem_cons, List.not_mem_nil, or_false] at hs
      rcases hs with rfl | rfl
      · exact hof _ hp2 hpo
      · exact hof _ hq2 hqo
theorem upP_len (to : Int) (r : Rec) (hf : r.x.fit) : (upP to r).2.l.length ≤ 20000 := by
  by_cases h : (upP to r).1 = 0
  · rw [(up_zero h).2.2.2.2]
    exact (carL_small _ _ (small_of r hf (up_zero h).1)).2
  · unfold upP at h ⊢
    by_cases h1 : lckE to r ≠ 0
    · rw [if_pos h1]; exact Nat.zero_le _
    · rw [if_neg h1] at h ⊢
      by_cases h2 : to < r.x.v
      · rw [if_pos h2]; exact Nat.zero_le _
      · rw [if_neg h2] at h
        exact absurd rfl h
theorem downP_len (to : Int) (r : Rec) (hf : r.x.fit) : (downP to r).2.l.length ≤ 20000 := by
  by_cases h : (downP to r).1 = 0
  · rw [(down_zero h).2.2.2.2.2]
    exact (carL_small _ _ (small_of r hf (down_zero h).1)).2
  · unfold downP at h ⊢
    by_cases h1 : lckE to r ≠ 0
    · rw [if_pos h1]; exact Nat.zero_le _
    · rw [if_neg h1] at h ⊢
      by_cases h2 : r.x.v < to
      · rw [if_pos h2]; exact Nat.zero_le _
      · rw [if_neg h2] at h ⊢
        split
        · rename_i h3
          rw [if_pos h3] at h
          exact absurd rfl h
        · exact Nat.zero_le _
/-- what lifted makes of the records, one by one -/
def liftedL (to : Int) (rs : List Rec) : List Rec := rs.flatMap fun r => [(upP to r).2, (downP to r).2]
theorem upall_L (to : Int) (v : Value) (rs : List Rec) (w : World) (h : RecsAt w v rs) (hg : OGood rs) (hT : ETabs w) :
    Calls Tryd.prog 9 #[.int .i64 to, v] w fun e w' => ∃ vl ps i z, e = .returned (.tuple #[vl, .int .i64 i, .int .i64 z]) ∧ Rws w.heap.size w' vl ps ∧ UaAns to rs (ps.map Prod.fst) i z ∧ Below w.heap.size w w' := by
  by_cases ht : 1 ≤ to ∧ to ≤ 3
  · refine (upall_O to ht v rs w h hg hT).mono fun e w' hp => ?_
    obtain ⟨hb, ⟨ps, v', hall, he, ho, hm⟩ | ⟨k, r, hk, hbf, hz, he⟩⟩ := hp
    · exact ⟨v', ps, 0, 0, he, ho, uaAns_in ht (.inl ⟨hall, hm, rfl, rfl⟩), hb⟩
    · exact ⟨_, [], _, _, he, Rws.nil _ _, uaAns_in ht (.inr ⟨k, r, hk, hbf, hz, rfl, rfl, rfl⟩), hb⟩
  · obtain ⟨ao, cap, e, _⟩ := h
    exact (upall_ver to ht v _ _ _ w e).mono fun e w' ⟨he, hb⟩ => ⟨_, [], 0, 3, he, Rws.nil _ _, uaAns_out rs ht, hb⟩
set_option maxRecDepth 100000 in
set_option maxHeartbeats 4000000 in
theorem lifted_any (to : Int) (v : Value) (rs : List Rec) (w : World) (h : RecsAt w v rs) (hg : OGood rs) (hT : ETabs w) :
    Calls Tryd.prog 17 #[.int .i64 to, v] w fun e w' => ∃ v' ps ps0 i z, e = .returned v' ∧ Rws w.heap.size w' v' ps ∧ UaAns to rs ps0 i z ∧ ps.map Prod.fst = ps0 ++ liftedL to rs ∧ Below w.heap.size w w' := by
  have hin := infoR12
  have HIR : Hid ((Tryd.prog.info? 38).map (·.size) = some 12) := infoRec
  have HT : Hid (∀ w', Below w.heap.size w w' → ETabs w') := fun w' hb => hT.kept hb
  have HGE : Hid (∀ r ∈ rs, r.nm.size ≤ 140737488355000 ∧ r.x.fit ∧ r.l.length ≤ 4194304) := hg.each
  have hfew := hg.few
  have HRS : Hid (∀ w', Below w.heap.size w w' → RecsAt w' v rs) := fun w' hb => h.kept hb
  have HUA : Hid (Calls Tryd.prog 9 #[.int .i64 to, v] w fun e w' => ∃ vl ps i z, e = .returned (.tuple #[vl, .int .i64 i, .int .i64 z]) ∧ Rws w.heap.size w' vl ps ∧ UaAns to rs (ps.map Prod.fst) i z ∧ Below w.heap.size w w') := upall_L to v rs w h hg hT
  obtain ⟨ao, cap, rfl, hm, _⟩ := h
  unfold maxLen at hm
  clear hT hg
  go_enter Tryd.func17, Tryd.ntmps17
  go_wp2_with fail
  refine HUA.out.mono ?_
  rintro e w1 ⟨vl, ps0, i0, z0, rfl, hR0, hU0, b1⟩
  have hp0 : ps0.length ≤ rs.length := by
    have h9 : (ps0.map Prod.fst).length ≤ rs.length := by
      unfold UaAns at hU0
      by_cases ht : 1 ≤ to ∧ to ≤ 3
      · rw [if_pos ht] at hU0
        rcases hU0 with ⟨_, e, _⟩ | ⟨_, _, _, _, _, e, _⟩
        · rw [e, List.length_map]; exact Nat.le_refl _
        · rw [e]; exact Nat.zero_le _
      · rw [if_neg ht] at hU0
        rw [hU0.1]; exact Nat.zero_le _
    rwa [List.length_map] at h9
  have H0 : Hid (Rws w.heap.size w1 vl ps0 ∧ Below w.heap.size w w1) := ⟨hR0, b1⟩
  have HU0 : Hid (UaAns to rs (ps0.map Prod.fst) i0 z0) := hU0
  clear hR0 hU0 b1 HUA
  go_wp2
  go_loopw [5, 8] (fun o i wr => ∃ (k : Nat) (ps : List (Rec × Value)), k ≤ rs.length ∧ i = .int .i64 (k : Int) ∧ Rws w.heap.size wr o ps ∧ ps.map Prod.fst = ps0.map Prod.fst ++ liftedL to (rs.take k) ∧ ps.length = ps0.length + 2 * k ∧ Below w.heap.size w wr) (fun _ i _ => rs.length - (intOf i).toNat)
  case atStart => exact ⟨0, ps0, Nat.zero_le _, rfl, H0.out.1, by simp [liftedL], rfl, H0.out.2⟩
  case round =>
    obtain ⟨k, ps, hk, rfl, hown, hmap, hpl, hbel⟩ := hrel
    clear H0
    by_cases hlt : k < rs.length
    · obtain ⟨r, hr⟩ : ∃ r, rs[k]? = some r := ⟨rs[k], List.getElem?_eq_getElem hlt⟩
      obtain ⟨b, off, d, rfl, hrg, hbs⟩ := (HRS.out _ hbel).spot k r hr
      have hnf := HGE.out r (List.mem_of_getElem? hr)
      have HTK : Hid (liftedL to (rs.take (k + 1)) = liftedL to (rs.take k) ++ [(upP to r).2, (downP to r).2]) := by show _ = _; unfold liftedL; rw [List.take_add_one, hr, List.flatMap_append]; rfl
      have HMP : Hid (ps.map Prod.fst = ps0.map Prod.fst ++ liftedL to (rs.take k)) := hmap
      obtain ⟨Q, hQ⟩ : ∃ Q, (upP to r).2 = Q := ⟨_, rfl⟩
      obtain ⟨z, hz⟩ : ∃ z, (upP to r).1 = z := ⟨_, rfl⟩
      obtain ⟨D, hD⟩ : ∃ D, (downP to r).2 = D := ⟨_, rfl⟩
      obtain ⟨y, hy⟩ : ∃ y, (downP to r).1 = y := ⟨_, rfl⟩
      rw [hQ, hD] at HTK
      have HX1 : Hid (∀ w', Below wr.heap.size wr w' → Calls Tryd.prog 26 #[rv r.x r.nm d, .int .i64 to] w' fun e w'' => ∃ a1, ∃ p1 : Nat, e = .returned (.tuple #[rv Q.x Q.nm (.slice a1 Q.l.length p1), .int .i64 z]) ∧ Own w'.heap.size w'' (.slice a1 Q.l.length p1) Q.l ∧ Below w'.heap.size w' w'') := fun w' hb => (up_O to r d w' (hbs.kept hb) (HT.out _ (andThen hbel hb)) hnf.1 hnf.2.1).mono fun e w'' ⟨a1, p1, e1, e2, e4⟩ => by
        rw [hQ] at e1 e2
        rw [hz] at e1
        exact ⟨a1, p1, e1, e2, e4⟩
      have HX2 : Hid (∀ w', Below wr.heap.size wr w' → Calls Tryd.prog 28 #[rv r.x r.nm d, .int .i64 to] w' fun e w'' => ∃ a1, ∃ p1 : Nat, e = .returned (.tuple #[rv D.x D.nm (.slice a1 D.l.length p1), .int .i64 y]) ∧ Own w'.heap.size w'' (.slice a1 D.l.length p1) D.l ∧ Below w'.heap.size w' w'') := fun w' hb => (down_O to r d w' (hbs.kept hb) (HT.out _ (andThen hbel hb)) hnf.1 hnf.2.1).mono fun e w'' ⟨a1, p1, e1, e2, e4⟩ => by
        rw [hD] at e1 e2
        rw [hy] at e1
        exact ⟨a1, p1, e1, e2, e4⟩
      obtain ⟨ad, cd, rfl, _⟩ := hbs.shape
      have HA : Hid (∀ w', Below wr.heap.size wr w' → w'.rangeAt b (off + k * 12) [.int .i64 r.x.v, .int .i64 r.x.k, .int .i64 r.x.s, .int .i64 r.x.p, .int .i64 r.x.t, .int .i64 r.x.a, .int .i64 r.x.l, .int .i64 r.x.c, .int .i64 r.x.n, .int .i64 r.x.i, .string r.nm, .slice ad r.l.length cd]) := fun w' hb => Lft.rng_alloc hrg hb
      have HR0 : Hid (wr.rangeAt b (off + k * 12) [.int .i64 r.x.v, .int .i64 r.x.k, .int .i64 r.x.s, .int .i64 r.x.p, .int .i64 r.x.t, .int .i64 r.x.a, .int .i64 r.x.l, .int .i64 r.x.c, .int .i64 r.x.n, .int .i64 r.x.i, .string r.nm, .slice ad r.l.length cd]) := hrg
      have HOB : Hid ((∀ g, u5.ownBlock = some g → g < wr.heap.size) ∧ ∀ q ∈ ps, ∀ g, q.2.ownBlock = some g → g < wr.heap.size) := ⟨fun g hg => (World.ownsRow.lt hown.recs.1 g hg).2, fun q hq g hg => (World.ownsRow.lt (hown.own q hq).row g hg).2⟩
      have HOW : Hid (Rws w.heap.size wr u5 ps ∧ Below w.heap.size w wr) := ⟨hown, hbel⟩
      have hsz : w.heap.size ≤ wr.heap.size := hbel.size
      clear hrg hbs hown hbel hnf HGE HRS HT hmap hr hQ hz hD hy
      unfold rv at *
      go_wp2_with (refine wpList_load_mid rfl 38 _ rfl b (off + k * 12) rfl [.int .i64 r.x.v, .int .i64 r.x.k, .int .i64 r.x.s, .int .i64 r.x.p, .int .i64 r.x.t, .int .i64 r.x.a, .int .i64 r.x.l, .int .i64 r.x.c, .int .i64 r.x.n, .int .i64 r.x.i, .string r.nm, .slice ad r.l.length cd] _ HR0.out Tryd.underlying38 rfl HIR.out ?_)
      refine (HX1.out _ (Below.refl _ _)).mono ?_
      rintro e wa ⟨a1, p1, rfl, hq1, ba⟩
      have HK : Hid (Box (wa.alloc (.cells #[.int .i64 Q.x.v, .int .i64 Q.x.k, .int .i64 Q.x.s, .int .i64 Q.x.p, .int .i64 Q.x.t, .int .i64 Q.x.a, .int .i64 Q.x.l, .int .i64 Q.x.c, .int .i64 Q.x.n, .int .i64 Q.x.i, .string Q.nm, .slice a1 Q.l.length p1] 38)) wa.heap.size Q.x Q.nm (.slice a1 Q.l.length p1) ∧ Own wr.heap.size (wa.alloc (.cells #[.int .i64 Q.x.v, .int .i64 Q.x.k, .int .i64 Q.x.s, .int .i64 Q.x.p, .int .i64 Q.x.t, .int .i64 Q.x.a, .int .i64 Q.x.l, .int .i64 Q.x.c, .int .i64 Q.x.n, .int .i64 Q.x.i, .string Q.nm, .slice a1 Q.l.length p1] 38)) (.slice a1 Q.l.length p1) Q.l ∧ Below wr.heap.size wr (wa.alloc (.cells #[.int .i64 Q.x.v, .int .i64 Q.x.k, .int .i64 Q.x.s, .int .i64 Q.x.p, .int .i64 Q.x.t, .int .i64 Q.x.a, .int .i64 Q.x.l, .int .i64 Q.x.c, .int .i64 Q.x.n, .int .i64 Q.x.i, .string Q.nm, .slice a1 Q.l.length p1] 38))) := ⟨heap_new _ _, hq1.alloc _, up ba _⟩
      clear hq1 ba HX1 HR0
      go_upto_region 6 with fail
      have HK' := HK.out
      clear HK
      generalize wa.alloc (.cells #[.int .i64 Q.x.v, .int .i64 Q.x.k, .int .i64 Q.x.s, .int .i64 Q.x.p, .int .i64 Q.x.t, .int .i64 Q.x.a, .int .i64 Q.x.l, .int .i64 Q.x.c, .int .i64 Q.x.n, .int .i64 Q.x.i, .string Q.nm, .slice a1 Q.l.length p1] 38) = Wa at HK' ⊢
      generalize wa.heap.size = g1 at HK' ⊢
      obtain ⟨x1, q1, B1⟩ := HK'
      have HR1 : Hid (Wa.rangeAt b (off + k * 12) [.int .i64 r.x.v, .int .i64 r.x.k, .int .i64 r.x.s, .int .i64 r.x.p, .int .i64 r.x.t, .int .i64 r.x.a, .int .i64 r.x.l, .int .i64 r.x.c, .int .i64 r.x.n, .int .i64 r.x.i, .string r.nm, .slice ad r.l.length cd]) := HA.out _ B1
      have HQL : Hid (∀ g, (Value.slice a1 Q.l.length p1).ownBlock = some g → g < Wa.heap.size) := fun g hg => (World.ownsRow.lt q1.row g hg).2
      have hsa : wr.heap.size ≤ Wa.heap.size := B1.size
      go_wp2_with (refine wpList_load_mid rfl 38 _ rfl b (off + k * 12) rfl [.int .i64 r.x.v, .int .i64 r.x.k, .int .i64 r.x.s, .int .i64 r.x.p, .int .i64 r.x.t, .int .i64 r.x.a, .int .i64 r.x.l, .int .i64 r.x.c, .int .i64 r.x.n, .int .i64 r.x.i, .string r.nm, .slice ad r.l.length cd] _ HR1.out Tryd.underlying38 rfl HIR.out ?_)
      refine (HX2.out _ B1).mono ?_
      rintro e wb ⟨a2, p2, rfl, hq2, bb⟩
      have HDL : Hid (∀ g, (Value.slice a2 D.l.length p2).ownBlock = some g → Wa.heap.size ≤ g) := fun g hg => (World.ownsRow.lt hq2.row g hg).1
      have HK : Hid (Box (wb.alloc (.cells #[.int .i64 D.x.v, .int .i64 D.x.k, .int .i64 D.x.s, .int .i64 D.x.p, .int .i64 D.x.t, .int .i64 D.x.a, .int .i64 D.x.l, .int .i64 D.x.c, .int .i64 D.x.n, .int .i64 D.x.i, .string D.nm, .slice a2 D.l.length p2] 38)) g1 Q.x Q.nm (.slice a1 Q.l.length p1) ∧ Own wr.heap.size (wb.alloc (.cells #[.int .i64 D.x.v, .int .i64 D.x.k, .int .i64 D.x.s, .int .i64 D.x.p, .int .i64 D.x.t, .int .i64 D.x.a, .int .i64 D.x.l, .int .i64 D.x.c, .int .i64 D.x.n, .int .i64 D.x.i, .string D.nm, .slice a2 D.l.length p2] 38)) (.slice a1 Q.l.length p1) Q.l ∧ Box (wb.alloc (.cells #[.int .i64 D.x.v, .int .i64 D.x.k, .int .i64 D.x.s, .int .i64 D.x.p, .int .i64 D.x.t, .int .i64 D.x.a, .int .i64 D.x.l, .int .i64 D.x.c, .int .i64 D.x.n, .int .i64 D.x.i, .string D.nm, .slice a2 D.l.length p2] 38)) wb.heap.size D.x D.nm (.slice a2 D.l.length p2) ∧ Own wr.heap.size (wb.alloc (.cells #[.int .i64 D.x.v, .int .i64 D.x.k, .int .i64 D.x.s, .int .i64 D.x.p, .int .i64 D.x.t, .int .i64 D.x.a, .int .i64 D.x.l, .int .i64 D.x.c, .int .i64 D.x.n, .int .i64 D.x.i, .string D.nm, .slice a2 D.l.length p2] 38)) (.slice a2 D.l.length p2) D.l ∧ Below wr.heap.size wr (wb.alloc (.cells #[.int .i64 D.x.v, .int .i64 D.x.k, .int .i64 D.x.s, .int .i64 D.x.p, .int .i64 D.x.t, .int .i64 D.x.a, .int .i64 D.x.l, .int .i64 D.x.c, .int .i64 D.x.n, .int .i64 D.x.i, .string D.nm, .slice a2 D.l.length p2] 38))) := ⟨(x1.kept bb).kept (up0 _ _), (q1.kept bb).alloc _, heap_new _ _, (hq2.alloc _).mono hsa, up (andThen B1 bb) _⟩
      clear hq2 bb x1 q1 B1 HX2 HR1 HA
      go_upto_region 7 with fail
      have HK' := HK.out
      clear HK
      generalize wb.alloc (.cells #[.int .i64 D.x.v, .int .i64 D.x.k, .int .i64 D.x.s, .int .i64 D.x.p, .int .i64 D.x.t, .int .i64 D.x.a, .int .i64 D.x.l, .int .i64 D.x.c, .int .i64 D.x.n, .int .i64 D.x.i, .string D.nm, .slice a2 D.l.length p2] 38) = Wb at HK' ⊢
      generalize wb.heap.size = g2 at HK' ⊢
      obtain ⟨x1, q1, x2, q2, B2⟩ := HK'
      obtain ⟨s0, s1, s2, s3, s4, s5, s6, s7, s8, s9, s10, s11⟩ := x1.cells
      obtain ⟨t0, t1, t2, t3, t4, t5, t6, t7, t8, t9, t10, t11⟩ := x2.cells
      have HO1 : Hid (∀ o, Rws w.heap.size (Wb.alloc o) u5 ps ∧ Own wr.heap.size (Wb.alloc o) (.slice a1 Q.l.length p1) Q.l ∧ Own wr.heap.size (Wb.alloc o) (.slice a2 D.l.length p2) D.l ∧ Below w.heap.size w (Wb.alloc o) ∧ w.heap.size ≤ (Wb.alloc o).heap.size) := fun o => ⟨(HOW.out.1.kept B2).kept (up0 _ _), q1.alloc _, q2.alloc _, up (andThen HOW.out.2 B2) _, (up (andThen HOW.out.2 B2) o).size⟩
      have HOF : Hid ((∀ g, u5.ownBlock = some g → Off g (.slice a1 Q.l.length p1) Q.l) ∧ ∀ g, u5.ownBlock = some g → Off g (.slice a2 D.l.length p2) D.l) := ⟨fun g hg => off_own q1 g (HOB.out.1 g hg), fun g hg => off_own q2 g (HOB.out.1 g hg)⟩
      have HR3 : Hid ((Wb.alloc (.cells #[.int .i64 Q.x.v, .int .i64 Q.x.k, .int .i64 Q.x.s, .int .i64 Q.x.p, .int .i64 Q.x.t, .int .i64 Q.x.a, .int .i64 Q.x.l, .int .i64 Q.x.c, .int .i64 Q.x.n, .int .i64 Q.x.i, .string Q.nm, .slice a1 Q.l.length p1, .int .i64 D.x.v, .int .i64 D.x.k, .int .i64 D.x.s, .int .i64 D.x.p, .int .i64 D.x.t, .int .i64 D.x.a, .int .i64 D.x.l, .int .i64 D.x.c, .int .i64 D.x.n, .int .i64 D.x.i, .string D.nm, .slice a2 D.l.length p2] 38)).rangeAt Wb.heap.size 0 (rcl (Q, .slice a1 Q.l.length p1) ++ rcl (D, .slice a2 D.l.length p2))) := new_range Wb #[.int .i64 Q.x.v, .int .i64 Q.x.k, .int .i64 Q.x.s, .int .i64 Q.x.p, .int .i64 Q.x.t, .int .i64 Q.x.a, .int .i64 Q.x.l, .int .i64 Q.x.c, .int .i64 Q.x.n, .int .i64 Q.x.i, .string Q.nm, .slice a1 Q.l.length p1, .int .i64 D.x.v, .int .i64 D.x.k, .int .i64 D.x.s, .int .i64 D.x.p, .int .i64 D.x.t, .int .i64 D.x.a, .int .i64 D.x.l, .int .i64 D.x.c, .int .i64 D.x.n, .int .i64 D.x.i, .string D.nm, .slice a2 D.l.length p2]
      clear x1 q1 x2 q2 B2 HOW
      go_wp2_with (at_builtin; refine wpList_append_two _ rfl (.tmp 44) (.tmp 47) 22 rfl w.heap.size hin Tryd.underlying22 _ ps (Q, .slice a1 Q.l.length p1) (D, .slice a2 D.l.length p2) rfl (HO1.out _).1.recs _ rfl HR3.out rfl rfl (HO1.out _).2.1.bs (HO1.out _).2.2.1.bs HOF.out.1 HOF.out.2 (by omega) (HO1.out _).2.2.2.2 ?_)
      intro v2 w2 hr2 hg2 he2
      have R2 : Hid (Rws w.heap.size w2 v2 (ps ++ [(Q, .slice a1 Q.l.length p1), (D, .slice a2 D.l.length p2)]) ∧ Below w.heap.size w w2) := ⟨(HO1.out _).1.more2 _ _ hr2 hg2 (by rw [heap_one]; exact he2) (HO1.out _).2.1 (HO1.out _).2.2.1 (fun g h1 h2 => by
        have := HQL.out g h1
        have := HDL.out g h2
        omega) hsz HOB.out.2 HOB.out.1, (HO1.out _).2.2.2.1.trans (grown_below (HO1.out _).1.recs.1 hg2 (HO1.out _).2.2.2.2)⟩
      clear hr2 hg2 he2 HO1 HOF HOB HR3 HQL HDL s0 s1 s2 s3 s4 s5 s6 s7 s8 s9 s10 s11 t0 t1 t2 t3 t4 t5 t6 t7 t8 t9 t10 t11
      go_wp2
      go_roundw
      case rel => exact ⟨k + 1, _, by omega, by go_num, R2.out.1, by rw [HTK.out, List.map_append, HMP.out, List.append_assoc]; rfl, by rw [List.length_append, hpl]; simp; omega, R2.out.2⟩
      case measure => simp [intOf]; omega
    · obtain rfl : k = rs.length := by omega
      rw [List.take_length] at hmap
      clear HRS HGE HT
      go_wp2
      go_ret
      exact ⟨_, ps, _, i0, z0, rfl, hown, HU0.out, hmap, hbel⟩
end Go.Proofs.YtjhgjlnckidjkaaDoor
