/-
  RewriteLent: the walk.
-/
import Derived.Test.YtggenlnknnhjgaaRy5
import Derived.Deep.RegionHeld
namespace Go.Proofs.Ytggenlnknnhjgaa
open Go Go.RowKit Go.ChangeShapes
open Wb
open Cb
/-- turns among the arguments -/
def TurnsL (w : World) (v : Value) (n : Nat) : Prop := ∃ ao cap, v = .slice ao n cap ∧ n ≤ 9223372036854775807 ∧ ∀ k, k < n → ∃ b off at1 kd by1, ao = some ⟨b, off, none⟩ ∧ w.rangeAt b (off + k * 3) [.int .i64 at1, .int .i64 kd, .int .i64 by1] ∧ -9223372036854775808 ≤ by1 ∧ by1 ≤ 9223372036854775807
theorem recsAt_take {w : World} {ao : Option Addr} {cap : Nat} {rs : List Rec} (h : RecsAt w (.slice ao rs.length cap) rs) (m : Nat) (hm : m ≤ rs.length) : RecsAt w (.slice ao m cap) (rs.take m) := by
  obtain ⟨ao', cap', e, h1, h2⟩ := h
  simp only [Value.slice.injEq] at e
  obtain ⟨rfl, -, rfl⟩ := e
  have hl : (rs.take m).length = m := by rw [List.length_take, Nat.min_eq_left hm]
  refine ⟨ao, cap, by rw [hl], by rw [hl]; exact Nat.le_trans hm h1, fun k r hk => h2 k r ?_⟩
  have hkm := (List.getElem?_eq_some_iff.1 hk).1
  rw [List.getElem?_take, if_pos (by omega)] at hk
  exact hk
/-- two records behind a list -/
theorem two_run {B : Nat} {w : World} {v : Value} {ps : List (Rec × Value)} (h : Rws B w v ps) (hn : ps.length ≤ 1000) (hB : B ≤ w.heap.size) :
    ∃ g c W, (Builtin.append_ #[22, 22] 22 #[v, .slice (some ⟨w.heap.size, 0, none⟩) 2 2]).run Try.prog (w.alloc (.cells #[.int .i64 (-7), .int .i64 (-77), .int .i64 0, .int .i64 0, .int .i64 0, .int .i64 0, .int .i64 0, .int .i64 0, .int .i64 0, .int .i64 0, .string ⟨#[]⟩, .slice none 0 0, .int .i64 (-8), .int .i64 (-78), .int .i64 0, .int .i64 0, .int .i64 0, .int .i64 0, .int .i64 0, .int .i64 0, .int .i64 0, .int .i64 0, .string ⟨#[]⟩, .slice none 0 0] 25)) = .ok (.slice (some ⟨g, 0, none⟩) (ps.length + 2) c) W ∧ Rws B W (.slice (some ⟨g, 0, none⟩) (ps.length + 2) c) (ps ++ [mA, mB]) ∧ Below B w W ∧ ps.length + 2 ≤ c ∧ c ≤ maxLen := by
  obtain ⟨i0, hi, hz0, hs0, hb0⟩ := Lft.info_parts3 infoR12
  have b0 := up0 w (.cells #[.int .i64 (-7), .int .i64 (-77), .int .i64 0, .int .i64 0, .int .i64 0, .int .i64 0, .int .i64 0, .int .i64 0, .int .i64 0, .int .i64 0, .string ⟨#[]⟩, .slice none 0 0, .int .i64 (-8), .int .i64 (-78), .int .i64 0, .int .i64 0, .int .i64 0, .int .i64 0, .int .i64 0, .int .i64 0, .int .i64 0, .int .i64 0, .string ⟨#[]⟩, .slice none 0 0] 25)
  have hl := lb_new w [.int .i64 (-7), .int .i64 (-77), .int .i64 0, .int .i64 0, .int .i64 0, .int .i64 0, .int .i64 0, .int .i64 0, .int .i64 0, .int .i64 0, .string ⟨#[]⟩, .slice none 0 0, .int .i64 (-8), .int .i64 (-78), .int .i64 0, .int .i64 0, .int .i64 0, .int .i64 0, .int .i64 0, .int .i64 0, .int .i64 0, .int .i64 0, .string ⟨#[]⟩, .slice none 0 0] 25
  have h0 := h.kept b0
  obtain ⟨v', W, hrun, q1, q2, -, q3⟩ := run_append_own_at (P := Try.prog) (w.alloc (.cells #[.int .i64 (-7), .int .i64 (-77), .int .i64 0, .int .i64 0, .int .i64 0, .int .i64 0, .int .i64 0, .int .i64 0, .int .i64 0, .int .i64 0, .string ⟨#[]⟩, .slice none 0 0, .int .i64 (-8), .int .i64 (-78), .int .i64 0, .int .i64 0, .int .i64 0, .int .i64 0, .int .i64 0, .int .i64 0, .int .i64 0, .int .i64 0, .string ⟨#[]⟩, .slice none 0 0] 25)) B 22 22 25 i0 _ 12 120 Try.underlying22 hi hz0 hs0 hb0 rfl (by omega) v ps.length (ps.flatMap rcl) h0.recs.1 ⟨w.heap.size, 0, none⟩ 2 2 [.int .i64 (-7), .int .i64 (-77), .int .i64 0, .int .i64 0, .int .i64 0, .int .i64 0, .int .i64 0, .int .i64 0, .int .i64 0, .int .i64 0, .string ⟨#[]⟩, .slice none 0 0, .int .i64 (-8), .int .i64 (-78), .int .i64 0, .int .i64 0, .int .i64 0, .int .i64 0, .int .i64 0, .int .i64 0, .int .i64 0, .int .i64 0, .string ⟨#[]⟩, .slice none 0 0] rfl (fun j u hj => by
    rw [Addr.add_lit, Nat.zero_add]
    exact hl.cell j u hj) (fun u hu => by
    simp only [List.mem_cons, List.not_mem_nil, or_false] at hu
    rcases hu with rfl | rfl | rfl | rfl | rfl | rfl | rfl | rfl | rfl | rfl | rfl | rfl | rfl | rfl | rfl | rfl | rfl | rfl | rfl | rfl | rfl | rfl | rfl | rfl <;> rfl) (by unfold maxLen; omega) (by omega) (Nat.le_trans hB b0.size)
  have hq : Rws B W v' (ps ++ [mA, mB]) := h0.app2 q1 q2 (q3.imp id .inl)
  rcases q1.2 with ⟨-, h9⟩ | ⟨g, c, cur, e, h1, h2, h3, h4, -⟩
  · omega
  · subst e
    exact ⟨g, c, W, hrun, hq, (b0.mono hB).trans ((Below.refl B _).grown q2 (Nat.le_trans hB b0.size) fun k e => (World.ownsRow.lt h0.recs.1 k e).1), h3, h4⟩
/-- the lists of lists speak of the same records -/
def HEq2 (xs ys : List RL) : Prop := xs.map (fun x => x.2.map Prod.fst) = ys.map (fun x => x.2.map Prod.fst)
theorem HEq2.snoc {xs ys : List RL} (h : HEq2 xs ys) {a b c d : RL} (h1 : a.2.map Prod.fst = c.2.map Prod.fst) (h2 : b.2.map Prod.fst = d.2.map Prod.fst) : HEq2 (xs ++ [a, b]) (ys ++ [c, d]) := by
  unfold HEq2 at *
  rw [List.map_append, List.map_append, h]
  simp [h1, h2]
theorem HEq2.at {xs ys : List RL} (h : HEq2 xs ys) {j : Nat} {x y : RL} (hx : xs[j]? = some x) (hy : ys[j]? = some y) : x.2.map Prod.fst = y.2.map Prod.fst := by
  have := congrArg (fun l => l[j]?) h
  simp only [List.getElem?_map, hx, hy, Option.map_some] at this
  exact Option.some.inj this
theorem HEq2.len {xs ys : List RL} (h : HEq2 xs ys) : xs.length = ys.length := by
  have := congrArg List.length h
  simpa using this
/-- what the told lists are -/
def Sml (xs : List RL) : Prop := ∀ x ∈ xs, x.2.length ≤ 100 ∧ (∀ p ∈ x.2, p.1.l.length ≤ 2000) ∧ ∃ a c, x.1 = .slice a x.2.length c
theorem sml_of {rs : List Rec} (h : LS2 rs) {nl : List Rec} (hs : ∀ r ∈ nl, r ∈ rs) (hl : nl.length ≤ rs.length) {ps : List (Rec × Value)} (hp : ps.map Prod.fst = nl) : ps.length ≤ 100 ∧ ∀ p ∈ ps, p.1.l.length ≤ 2000 := by
  refine ⟨?_, ps_fst (P := fun r => r.l.length ≤ 2000) hp fun r hr => (h.each r (hs r hr)).2⟩
  have := congrArg List.length hp
  rw [List.length_map] at this
  have := h.few
  omega
/-- a list is marked; what lies apart stays -/
theorem mkput_so {B g : Nat} {wL w : World} {C : Nat → Option Cl} {V : List Value} {l f : List En} {lh fh : List (Value × Nat)} {ys zs : List RL} {v : Value} {ps : List (Rec × Value)} {E : Nat → Prop} (h : SX B wL w C g V l f lh fh (ys ++ (v, ps) :: zs)) (s : Int) (hn : ps.length ≤ 1048576) (hd : ∀ p ∈ ps, p.1.l.length ≤ 5000000) (hl : l.length ≤ 3145728) (hf : f.length ≤ 1000) (hE : Out w C g V E) (hx : ∀ q, E q → ¬ Rq v ps q) :
    Calls Try.prog 9 #[.pointer (some ⟨g, 0, none⟩), v, .int .i64 s] w fun e w' => e = .returned (.tuple #[]) ∧ ∃ C' V' l', SX B wL w' C' g V' (l ++ l') (f ++ [(v, ps.length, .int .i64 s)]) lh fh (ys ++ zs) ∧ l'.length = ps.length ∧ Out w' C' g V' E ∧ ∀ q, E q → w'.heap[q]? = w.heap[q]? := by
  have hm : (v, ps) ∈ ys ++ (v, ps) :: zs := List.mem_append_right _ List.mem_cons_self
  refine (mkput_any B g C V l f lh fh v ps s w h.bk (h.rw _ hm) (by omega) hd (by omega) (by omega) (h.ou _ hm) h.lo).mono ?_
  rintro e w' ⟨rfl, C', V', l', hbk, hl', hst⟩
  obtain ⟨h1, h2⟩ := hst.same hE hx
  exact ⟨rfl, C', V', l', h.drop hst hbk, hl', h2, h1⟩
set_option maxRecDepth 100000 in
set_option maxHeartbeats 32000000 in
theorem rewriteLent_walk (v vt : Value) (rs0 : List Rec) (T : Nat) (w : World) (h : RecsAt w v rs0) (hg : ∀ r ∈ rs0, r.x.fit ∧ r.l.length ≤ 140737488355000) (hcap : ∀ ao (len cap : Nat), v = .slice ao len cap → len ≤ cap ∧ cap ≤ maxLen) (ht : TurnsL w vt T) :
    Calls Try.prog 4 #[v, vt] w fun e w' => e = .returned (.bool true) ∧ Below w.heap.size w w' := by
  obtain ⟨at_, ct, rfl, hT9, htu⟩ := ht
  obtain ⟨ao, cap, rfl, hm, h9⟩ := h
  obtain ⟨hc1, hc2⟩ := hcap _ _ _ rfl
  have hrs : RecsAt w (.slice ao rs0.length cap) rs0 := ⟨ao, cap, rfl, hm, h9⟩
  unfold maxLen at hm hc2
  have HTU : Hid (∀ k, k < T → ∃ b off at1 kd by1, at_ = some ⟨b, off, none⟩ ∧ (∀ W, Below w.heap.size w W → W.rangeAt b (off + k * 3) [.int .i64 at1, .int .i64 kd, .int .i64 by1]) ∧ -9223372036854775808 ≤ by1 ∧ by1 ≤ 9223372036854775807) := fun k hk => by
    obtain ⟨b, off, at1, kd, by1, e, hr, h1, h2⟩ := htu k hk
    exact ⟨b, off, at1, kd, by1, e, fun W hW => range_kept (D := [.int .i64 at1, .int .i64 kd, .int .i64 by1]) hr hW, h1, h2⟩
  obtain ⟨m, hm1⟩ : ∃ m, m = min rs0.length 100 := ⟨_, rfl⟩
  have hm100 : m ≤ 100 := by omega
  have hmr : m ≤ rs0.length := by omega
  have HM : Hid ((rs0.length ≤ 100 → m = rs0.length) ∧ (100 < rs0.length → m = 100)) := ⟨fun h => by omega, fun h => by omega⟩
  obtain ⟨rs1, hr1⟩ : ∃ rs1, rs1 = rs0.take m := ⟨_, rfl⟩
  have hl1 : rs1.length = m := by rw [hr1, List.length_take, Nat.min_eq_left hmr]
  have HCL : Hid (Calls Try.prog 12 #[.slice ao m cap] w fun e w' => ∃ a1, ∃ c1 : Nat, ∃ ps, e = .returned (.slice a1 m c1) ∧ Rws w.heap.size w' (.slice a1 m c1) ps ∧ ps.length = m ∧ (∀ p ∈ ps, p.1.x.fit) ∧ Below w.heap.size w w') := by
    have hR := recsAt_take hrs m hmr
    rw [← hr1] at hR
    refine (cloneAllB_any _ rs1 w hR ⟨fun r hr => hg r (by rw [hr1] at hr; exact List.mem_of_mem_take hr), by omega⟩).mono ?_
    rintro e w' ⟨v', ps, rfl, h1, h2, h3⟩
    obtain ⟨a1, c1, e1, -⟩ := h1.recs.shape
    have hpl : ps.length = m := by rw [← hl1, ← h2, List.length_map]
    rw [hpl] at e1
    subst e1
    exact ⟨a1, c1, ps, rfl, h1, hpl, ps_fst (P := fun r => r.x.fit) h2 fun r hr => (hg r (by rw [hr1] at hr; exact List.mem_of_mem_take hr)).1, h3⟩
  have hcc : (100 : Int) ≤ (cap : Int) ∨ rs0.length ≤ 100 := by omega
  have HCC : Hid ((100 : Int) ≤ (cap : Int) ∨ rs0.length ≤ 100) := hcc
  obtain ⟨D, hD⟩ : ∃ D : Bool, D = decide ((100 : Int) < (rs0.length : Int)) := ⟨_, rfl⟩
  have HDD : Hid (D = decide ((100 : Int) < (rs0.length : Int))) := hD
  clear hg hcap htu h9 hrs hm1 hr1 hl1 hcc hmr
  go_enter Try.func4, Try.ntmps4
  go_upto_if 25 with fail
  rw [← hD]
  clear hD
  go_cut [0] from 26 to 27 (fun s wx => s = .slice ao m cap ∧ w = wx)
  case first =>
    cases D with
    | true =>
      have hlt : (100 : Int) < (rs0.length : Int) := of_decide_eq_true HDD.out.symm
      have t4 : (100 : Int) ≤ (cap : Int) := HCC.out.resolve_right (by omega)
      have HE : Hid (m = 100) := HM.out.2 (by omega)
      clear hlt
      go_wp2_with fail
      all_goals go_meet
      all_goals exact ⟨by rw [HE.out], rfl⟩
    | false =>
      have hlt : ¬ (100 : Int) < (rs0.length : Int) := of_decide_eq_false HDD.out.symm
      have HE : Hid (m = rs0.length) := HM.out.1 (by omega)
      clear hlt
      go_wp2_with fail
      all_goals go_meet
      all_goals exact ⟨by rw [HE.out], rfl⟩
  case rest =>
  obtain ⟨rfl, rfl⟩ := hcut
  clear HM HCC HDD
  go_wp2_with fail
  refine HCL.out.mono ?_
  rintro e w1 ⟨a1, c1, ps0, rfl, hrw0, hpl0, hfit0, b1⟩
  have H1 : Hid (Rws w.heap.size w1 (.slice a1 m c1) ps0 ∧ ps0.length = m ∧ (∀ p ∈ ps0, p.1.x.fit) ∧ Below w.heap.size w w1) := ⟨hrw0, hpl0, hfit0, b1⟩
  clear hrw0 hpl0 hfit0 b1 HCL
  go_wp2_with fail
  go_loopw [5] (fun i wr => ∃ (k : Nat) (ps : List (Rec × Value)), k ≤ m ∧ i = .int .i64 (k : Int) ∧ Rws w.heap.size wr (.slice a1 m c1) ps ∧ ps.length = m ∧ (∀ p ∈ ps, p.1.x.fit) ∧ (∀ (j : Nat) (p : Rec × Value), j < k → ps[j]? = some p → p.1.l.length ≤ 2000) ∧ Below w.heap.size w wr) (fun i _ => m - (intOf i).toNat)
  case atStart => exact ⟨0, ps0, Nat.zero_le _, rfl, H1.out.1, H1.out.2.1, H1.out.2.2.1, fun j p hj => absurd hj (Nat.not_lt_zero _), H1.out.2.2.2⟩
  case round =>
    obtain ⟨k, ps, hk, rfl, hrw, hpl, hfit, hsm, hbel⟩ := hrel
    have HF : Hid (Rws w.heap.size wr (.slice a1 m c1) ps ∧ ps.length = m ∧ (∀ p ∈ ps, p.1.x.fit) ∧ (∀ (j : Nat) (p : Rec × Value), j < k → ps[j]? = some p → p.1.l.length ≤ 2000) ∧ Below w.heap.size w wr) := ⟨hrw, hpl, hfit, hsm, hbel⟩
    clear hrw hpl hfit hsm hbel
    by_cases hlt : k < m
    · have hkp : k < ps.length := by rw [HF.out.2.1]; exact hlt
      obtain ⟨p, hp⟩ : ∃ p, ps[k]? = some p := ⟨ps[k], List.getElem?_eq_getElem hkp⟩
      have hpm := List.mem_of_getElem? hp
      obtain ⟨ga, hga⟩ : ∃ ga, a1 = some ⟨ga, 0, none⟩ := by
        rcases HF.out.1.recs.1.2 with ⟨e, h0⟩ | ⟨ga, cap', cur, e, -⟩
        · omega
        · simp only [Value.slice.injEq] at e
          exact ⟨ga, e.1⟩
      subst hga
      have hrow := HF.out.1.recs.1
      rw [HF.out.2.1] at hrow
      have hcl : wr.cell? ⟨ga, k * 12 + 11, none⟩ = some p.2 := by
        rw [World.ownsRow.cellAt hrow (k * 12 + 11) (by omega), rcls_get ps k hkp 11 (by decide), (List.getElem?_eq_some_iff.1 hp).2]
        rfl
      have hfz : wr.frozen? ⟨ga, k * 12 + 11, none⟩ = false := World.ownsRow.frozenAt hrow _
      obtain ⟨r, d⟩ := p
      obtain ⟨ad, cd, ed, hd1, hd2⟩ := Mg.row_shape (HF.out.1.own (r, d) hpm).row
      simp only at ed hcl
      obtain ⟨n9, hn9⟩ : ∃ n9, n9 = r.l.length := ⟨_, rfl⟩
      have HP : Hid (ps[k]? = some (r, .slice ad n9 cd) ∧ n9 = r.l.length) := ⟨by rw [hn9, ← ed]; exact hp, hn9⟩
      rw [ed, ← hn9] at hcl
      have hd1' : n9 ≤ cd := by rw [hn9]; exact hd1
      unfold maxLen at hd2
      clear hrow hp hpm ed hn9 hd1
      by_cases hbig : 2000 < n9
      · obtain ⟨gd, hgd⟩ : ∃ gd, ad = some ⟨gd, 0, none⟩ := by
          have h8 := HF.out.1.own _ (List.mem_of_getElem? HP.out.1)
          rcases h8.row.2 with ⟨e, h0⟩ | ⟨gd, cap', cur, e, -⟩
          · have := HP.out.2
            simp only at h0
            omega
          · simp only [Value.slice.injEq] at e
            exact ⟨gd, e.1⟩
        subst hgd
        have hgt : ((n9 : Int) > 2000) = True := eq_true (by omega)
        have t5 : ((2000 : Int) ≤ (cd : Int)) = True := eq_true (by omega)
        have HN : Hid (Rws w.heap.size (wr.setCell ⟨ga, k * 12 + 11, none⟩ (.slice (some ⟨gd, 0, none⟩) 2000 cd)) (.slice (some ⟨ga, 0, none⟩) m c1) (ps.set k (⟨r.x, r.nm, r.l.take 2000⟩, .slice (some ⟨gd, 0, none⟩) 2000 cd)) ∧ (ps.set k (⟨r.x, r.nm, r.l.take 2000⟩, .slice (some ⟨gd, 0, none⟩) 2000 cd)).length = m ∧ (∀ p ∈ ps.set k (⟨r.x, r.nm, r.l.take 2000⟩, .slice (some ⟨gd, 0, none⟩) 2000 cd), p.1.x.fit) ∧ (∀ (j : Nat) (p : Rec × Value), j < k + 1 → (ps.set k (⟨r.x, r.nm, r.l.take 2000⟩, .slice (some ⟨gd, 0, none⟩) 2000 cd))[j]? = some p → p.1.l.length ≤ 2000) ∧ Below w.heap.size w (wr.setCell ⟨ga, k * 12 + 11, none⟩ (.slice (some ⟨gd, 0, none⟩) 2000 cd))) := by
          have hpk := HP.out.1
          rw [HP.out.2] at hpk
          refine ⟨HF.out.1.cut HF.out.2.1.symm k 2000 r gd cd hpk (by have := HP.out.2; omega), by rw [List.length_set]; exact HF.out.2.1, fun p hp => ?_, fun j p hj hjp => ?_, Below.setCell HF.out.2.2.2.2 (World.ownsRow.lt HF.out.1.recs.1 ga rfl).1 _⟩
          · rcases List.mem_or_eq_of_mem_set hp with hp | rfl
            · exact HF.out.2.2.1 p hp
            · exact HF.out.2.2.1 (r, .slice (some ⟨gd, 0, none⟩) r.l.length cd) (List.mem_of_getElem? hpk)
          · rcases get_set_cases hjp with ⟨rfl, rfl⟩ | ⟨hne, hjp⟩
            · show (r.l.take 2000).length ≤ 2000
              rw [List.length_take]
              omega
            · exact HF.out.2.2.2.1 j p (by omega) hjp
        clear hbig
        go_wp2_with fail
        go_roundw
        case rel => exact ⟨k + 1, _, by omega, by go_num, HN.out⟩
        case measure => simp [intOf]; omega
      · have hgt : ((n9 : Int) > 2000) = False := eq_false (by omega)
        have HN : Hid (∀ (j : Nat) (p : Rec × Value), j < k + 1 → ps[j]? = some p → p.1.l.length ≤ 2000) := fun j p hj hjp => by
          by_cases hjk : j = k
          · subst hjk
            have e := HP.out.1
            rw [hjp] at e
            have e2 := Option.some.inj e
            rw [e2]
            show r.l.length ≤ 2000
            have := HP.out.2
            omega
          · exact HF.out.2.2.2.1 j p (by omega) hjp
        clear hbig
        go_wp2_with fail
        go_roundw
        case rel => exact ⟨k + 1, ps, by omega, by go_num, HF.out.1, HF.out.2.1, HF.out.2.2.1, HN.out, HF.out.2.2.2.2⟩
        case measure => simp [intOf]; omega
    · obtain rfl : k = m := by omega
      have HG2 : Hid (LS2 (ps.map Prod.fst)) := ⟨fun r hr => by
        obtain ⟨p, hp, rfl⟩ := List.mem_map.1 hr
        obtain ⟨j, hj⟩ := List.mem_iff_getElem?.1 hp
        exact ⟨HF.out.2.2.1 p hp, HF.out.2.2.2.1 j p (by rw [← HF.out.2.1]; exact (List.getElem?_eq_some_iff.1 hj).1) hj⟩, by rw [List.length_map, HF.out.2.1]; exact hm100⟩
      have hlen2 : (ps.map Prod.fst).length = k := by rw [List.length_map]; exact HF.out.2.1
      have HLD : Hid (Calls Try.prog 6 #[.slice a1 k c1] wr fun e w' => ∃ ag ul, ∃ cg : Nat, ∃ psg, e = .returned (.tuple #[.slice ag k cg, ul]) ∧ Rws wr.heap.size w' (.slice ag k cg) psg ∧ psg.map Prod.fst = ps.map Prod.fst ∧ psg.length = k ∧ Below wr.heap.size wr w') := by
        refine (rwlaidO_any _ (ps.map Prod.fst) wr HF.out.1.recsAt HG2.out.sm.big (fun r hr => by have := (HG2.out.each r hr).2; omega)).mono ?_
        rintro e w' ⟨mv, u, psg, qs, rfl, -, hR, h1, -, hb⟩
        obtain ⟨ag, cg, e1, -⟩ := hR.recs.shape
        have hp : psg.length = k := by
          have := congrArg List.length h1
          rw [List.length_map, List.length_map] at this
          rw [this]
          exact HF.out.2.1
        rw [hp] at e1
        subst e1
        exact ⟨ag, u, cg, psg, rfl, hR, h1, hp, hb⟩
      have HBW : Hid (Below w.heap.size w wr) := HF.out.2.2.2.2
      clear hlen2 hlt
      go_wp2_with fail
      refine HLD.out.mono ?_
      rintro e w3 ⟨ag, ul, cg, psg, rfl, hRg, hfg, hlg, b3⟩
      obtain ⟨gA, cA, W4, hr4, hR4, hb4, hcA, hcA2⟩ := two_run hRg (by omega) b3.size
      have HB2 : Hid (Below w.heap.size w W4) := (andThen HBW.out b3).trans (hb4.mono HBW.out.size)
      have HLE0 : Hid (LE wr.heap.size W4.heap.size W4 gA cA psg [] [] [] [] (.slice none 0 0) (.slice none 0 0) ∧ psg.length = k) := by
        refine ⟨⟨hR4, fun q hq => (hR4.lt hq).2, by rw [hfg]; exact HG2.out, fun x hx => (nomatch hx), List.Pairwise.nil, World.ownsRow_nil _ _ _ _, World.ownsRow_nil _ _ _ _, fun q e => (nomatch e), Nat.le_refl _, ?_⟩, hlg⟩
        have := (hR4.lt (.inl rfl : Rq (.slice (some ⟨gA, 0, none⟩) (psg.length + 2) cA) (psg ++ [mA, mB]) gA))
        omega
      rw [hlg] at hr4 hcA
      unfold maxLen at hcA2
      obtain ⟨bA, hbA⟩ : ∃ b, b = wr.heap.size := ⟨_, rfl⟩
      obtain ⟨B2, hB2⟩ : ∃ b, b = W4.heap.size := ⟨_, rfl⟩
      rw [← hbA, ← hB2] at HLE0
      have HWB : Hid (w.heap.size ≤ bA ∧ w.heap.size ≤ B2) := ⟨by rw [hbA]; exact HBW.out.size, by rw [hB2]; exact HB2.out.size⟩
      have hsl : ((k : Int) ≤ (cA : Int)) = True := eq_true (by omega)
      clear hRg hfg hlg b3 hR4 hb4 hbA hB2 HLD HG2 HF HBW H1
      go_wp2_with (at_builtin; refine wpList_appRun rfl (.tmp 60) (.tmp 63) 22 rfl rfl rfl hr4 ?_)
      go_loopw [10, 11, 12] (fun sv wv i wr => ∃ (j : Nat) (ps : List (Rec × Value)) (xs ys : List RL), j ≤ 30 ∧ j ≤ T + 1 ∧ i = .int .i64 (j : Int) ∧ (∃ a c, sv = .slice a (2 * j) c) ∧ (∃ a c, wv = .slice a (2 * j) c) ∧ LE bA B2 wr gA cA ps xs [] [] ys sv wv ∧ ps.length = k ∧ xs.length = 2 * j ∧ HEq2 xs ys ∧ Sml xs ∧ Below w.heap.size w wr) (fun _ _ i _ => 31 - (intOf i).toNat)
      case atStart => exact ⟨0, psg, [], [], by omega, by omega, rfl, ⟨none, 0, rfl⟩, ⟨none, 0, rfl⟩, HLE0.out.1, HLE0.out.2, rfl, rfl, fun x hx => (nomatch hx), HB2.out⟩
      case round =>
        obtain ⟨j, ps, xs, ys, hj30, hjT, rfl, ⟨as_, cs, rfl⟩, ⟨aw, cw, rfl⟩, hle, hpl, hxl, heq, hsm, hbel⟩ := hrel
        have HL : Hid (LE bA B2 wr gA cA ps xs [] [] ys (.slice as_ (2 * j) cs) (.slice aw (2 * j) cw) ∧ ps.length = k ∧ xs.length = 2 * j ∧ HEq2 xs ys ∧ Sml xs ∧ Below w.heap.size w wr) := ⟨hle, hpl, hxl, heq, hsm, hbel⟩
        clear hle hpl hxl heq hsm hbel
        by_cases hgo : j ≤ T ∧ j < 30
        · obtain ⟨hg1, hg2⟩ := hgo
          have t1 : ((j : Int) ≤ (T : Int)) = True := eq_true (by omega)
          have t2 : ((j : Int) < 30) = True := eq_true (by omega)
          have HW0 : Hid (Calls Try.prog 12 #[.slice (some ⟨gA, 0, none⟩) k cA] wr fun e w' => ∃ a5, ∃ c5 : Nat, e = .returned (.slice a5 k c5) ∧ (∀ W, Below w'.heap.size w' W → RecsAt W (.slice a5 k c5) (ps.map Prod.fst)) ∧ Below wr.heap.size wr w') := by
            have hR := HL.out.1.list
            rw [HL.out.2.1] at hR
            refine (cloneAllB_any _ _ wr hR HL.out.1.ls.sm.big).mono ?_
            rintro e w' ⟨v', pw, rfl, h1, h2, h3⟩
            obtain ⟨a5, c5, e5, -⟩ := h1.recs.shape
            have hpw : pw.length = k := by
              have := congrArg List.length h2
              rw [List.length_map, List.length_map] at this
              rw [this]
              exact HL.out.2.1
            rw [hpw] at e5
            subst e5
            exact ⟨a5, c5, rfl, fun W hW => by have := (h1.kept hW).recsAt; rw [h2] at this; exact this, h3⟩
          go_wp2_with fail
          refine HW0.out.mono ?_
          rintro e wa ⟨a5, c5, rfl, hwas, ba⟩
          have HWS : Hid (∀ W, Below wa.heap.size wa W → RecsAt W (.slice a5 k c5) (ps.map Prod.fst)) := hwas
          have HLa : Hid (LE bA B2 wa gA cA ps xs [] [] ys (.slice as_ (2 * j) cs) (.slice aw (2 * j) cw) ∧ Below w.heap.size w wa) := ⟨HL.out.1.kept ba, andThen HL.out.2.2.2.2.2 ba⟩
          obtain ⟨rs, hrs⟩ : ∃ rs, rs = ps.map Prod.fst := ⟨_, rfl⟩
          have HRS : Hid (rs = ps.map Prod.fst ∧ LS2 rs) := ⟨hrs, by rw [hrs]; exact HL.out.1.ls⟩
          have HSP : Hid (Calls Try.prog 5 #[.slice (some ⟨gA, 0, none⟩) k cA] wa (SpPost (Rz.live rs rs) (Rz.dead rs rs) wa)) := by
            have hR := HLa.out.1.list
            rw [HL.out.2.1, ← hrs] at hR
            exact (rwsplit_any _ rs wa hR HRS.out.2.sm.big).mono fun e w' h9 => sp_post h9
          clear hwas ba HW0 hrs
          go_wp2_with fail
          refine HSP.out.mono ?_
          rintro e wb ⟨aa, ab, ca, cb, psa, psb, rfl, tw1, fa, fb, bb⟩
          have HLb : Hid (LE bA B2 wb gA cA ps xs [(.slice aa (Rz.live rs rs).length ca, psa), (.slice ab (Rz.dead rs rs).length cb, psb)] [] ys (.slice as_ (2 * j) cs) (.slice aw (2 * j) cw) ∧ Below w.heap.size w wb ∧ Below wa.heap.size wa wb ∧ psa.map Prod.fst = Rz.live rs rs ∧ psb.map Prod.fst = Rz.dead rs rs) := ⟨HLa.out.1.addZ tw1 bb, andThen HLa.out.2 bb, bb, fa, fb⟩
          have HRP : Hid (Calls Try.prog 7 #[.slice a5 k c5] wb (SpPost (Rz.live rs rs) (Rz.dead rs rs) wb)) := by
            have hR := HWS.out wb bb
            rw [← HRS.out.1] at hR
            exact (r12split_any _ rs wb hR HRS.out.2.sm.big).mono fun e w' h9 => sp_post h9
          clear tw1 fa fb bb HSP HLa
          go_wp2_with fail
          refine HRP.out.mono ?_
          rintro e wc ⟨al2, ad, cl2, cd, psl, psd, rfl, tw2, fl, fd, bc⟩
          have HLc : Hid (LE bA B2 wc gA cA ps xs [(.slice aa (Rz.live rs rs).length ca, psa), (.slice ab (Rz.dead rs rs).length cb, psb)] [(.slice al2 (Rz.live rs rs).length cl2, psl), (.slice ad (Rz.dead rs rs).length cd, psd)] ys (.slice as_ (2 * j) cs) (.slice aw (2 * j) cw) ∧ Below w.heap.size w wc ∧ Below wa.heap.size wa wc ∧ psa.map Prod.fst = Rz.live rs rs ∧ psb.map Prod.fst = Rz.dead rs rs ∧ psl.map Prod.fst = Rz.live rs rs ∧ psd.map Prod.fst = Rz.dead rs rs) := by
            refine ⟨HLb.out.1.addU [(.slice al2 (Rz.live rs rs).length cl2, psl), (.slice ad (Rz.dead rs rs).length cd, psd)] bc (fun x hx => ?_), andThen HLb.out.2.1 bc, andThen HLb.out.2.2.1 bc, HLb.out.2.2.2.1, HLb.out.2.2.2.2, fl, fd⟩
            simp only [List.mem_cons, List.not_mem_nil, or_false] at hx
            rcases hx with rfl | rfl
            · exact tw2.one
            · exact tw2.two
          clear tw2 fl fd bc HRP HLb
          obtain ⟨nl, hnl⟩ : ∃ nl, nl = Rz.live rs rs := ⟨_, rfl⟩
          obtain ⟨nd, hnd⟩ : ∃ nd, nd = Rz.dead rs rs := ⟨_, rfl⟩
          rw [← hnl, ← hnd] at HLc ⊢
          have HNN : Hid ((∀ r ∈ nl, r ∈ rs) ∧ (∀ r ∈ nd, r ∈ rs) ∧ nl.length ≤ rs.length ∧ nd.length ≤ rs.length) := by
            rw [hnl, hnd]
            exact ⟨live_sub, dead_sub, live_len rs, dead_len rs⟩
          clear hnl hnd
          have HC1 : Hid (∀ W, Below wc.heap.size wc W → Calls Try.prog 8 #[.slice aa nl.length ca, .slice al2 nl.length cl2] W fun e w' => e = .returned (.bool true) ∧ Below W.heap.size W w') := fun W hW => by
            have hk := HLc.out.1.kept hW
            have h1 := (hk.rw (.slice aa nl.length ca, psa) (by simp)).recsAt
            have h2 := (hk.rw (.slice al2 nl.length cl2, psl) (by simp)).recsAt
            rw [HLc.out.2.2.2.1] at h1
            rw [HLc.out.2.2.2.2.2.1] at h2
            exact sameAll3_ok _ _ nl W h1 h2
          have HC2 : Hid (∀ W, Below wc.heap.size wc W → Calls Try.prog 8 #[.slice ab nd.length cb, .slice ad nd.length cd] W fun e w' => e = .returned (.bool true) ∧ Below W.heap.size W w') := fun W hW => by
            have hk := HLc.out.1.kept hW
            have h1 := (hk.rw (.slice ab nd.length cb, psb) (by simp)).recsAt
            have h2 := (hk.rw (.slice ad nd.length cd, psd) (by simp)).recsAt
            rw [HLc.out.2.2.2.2.1] at h1
            rw [HLc.out.2.2.2.2.2.2] at h2
            exact sameAll3_ok _ _ nd W h1 h2
          have HC3 : Hid (∀ W, Below wc.heap.size wc W → Calls Try.prog 8 #[.slice (some ⟨gA, 0, none⟩) k cA, .slice a5 k c5] W fun e w' => e = .returned (.bool true) ∧ Below W.heap.size W w') := fun W hW => by
            have h1 := (HLc.out.1.kept hW).list
            rw [HL.out.2.1] at h1
            exact sameAll3_ok _ _ _ W h1 (HWS.out W (andThen HLc.out.2.2.1 hW))
          have HC1' := HC1.out wc (Below.refl _ _)
          go_wp2_with fail
          refine HC1'.mono ?_
          rintro e wd ⟨rfl, bd⟩
          have HBd : Hid (Below wc.heap.size wc wd) := bd
          have HC2' := HC2.out wd bd
          clear bd HC1' HC1
          go_wp2_with fail
          refine HC2'.mono ?_
          rintro e we ⟨rfl, be⟩
          have HBe : Hid (Below wc.heap.size wc we) := andThen HBd.out be
          have HC3' := HC3.out we HBe.out
          clear be HC2' HC2 HBd
          go_wp2_with fail
          refine HC3'.mono ?_
          rintro e wf ⟨rfl, bf⟩
          have HLf := HLc.out.1.kept (andThen HBe.out bf)
          have HBf : Hid (Below w.heap.size w wf) := andThen HLc.out.2.1 (andThen HBe.out bf)
          obtain ⟨vs, Wg, hrs2, hLg, ⟨as2, cs2, es2⟩, hFg⟩ := HLf.said (by have := HL.out.2.2.1; omega) rfl rfl
          rw [HL.out.2.2.1] at es2
          subst es2
          have HLg : Hid (LE bA B2 Wg gA cA ps (xs ++ [(.slice aa nl.length ca, psa), (.slice ab nd.length cb, psb)]) [] [(.slice al2 nl.length cl2, psl), (.slice ad nd.length cd, psd)] ys (.slice as2 (2 * j + 2) cs2) (.slice aw (2 * j) cw) ∧ Below w.heap.size w Wg) := ⟨hLg, HBf.out.trans (hFg.below HBf.out.size fun q e => by have := HWB.out.2; omega)⟩
          have HK1 : Hid (Calls Try.prog 12 #[.slice al2 nl.length cl2] Wg fun e w' => ∃ a6, ∃ c6 : Nat, ∃ pk, e = .returned (.slice a6 nl.length c6) ∧ Rws Wg.heap.size w' (.slice a6 nl.length c6) pk ∧ pk.map Prod.fst = nl ∧ Below Wg.heap.size Wg w') := by
            have h1 := (HLg.out.1.rw (.slice al2 nl.length cl2, psl) (by simp)).recsAt
            rw [HLc.out.2.2.2.2.2.1] at h1
            refine (cloneAllB_any _ nl Wg h1 ⟨fun r hr => ⟨(HRS.out.2.each r (HNN.out.1 r hr)).1, by have := (HRS.out.2.each r (HNN.out.1 r hr)).2; omega⟩, by have := HRS.out.2.few; have := HNN.out.2.2.1; omega⟩).mono ?_
            rintro e w' ⟨v', pk, rfl, q1, q2, q3⟩
            obtain ⟨a6, c6, e6, -⟩ := q1.recs.shape
            rw [show pk.length = nl.length by rw [← q2, List.length_map]] at e6
            subst e6
            exact ⟨a6, c6, pk, rfl, q1, q2, q3⟩
          clear bf HC3' HC3 HBe HLf hLg hFg
          go_wp2_with (at_builtin; refine wpList_appRun rfl (.tmp 109) (.tmp 112) 34 rfl rfl rfl hrs2 ?_)
          refine HK1.out.mono ?_
          rintro e wh ⟨a6, c6, pk, rfl, rk1, fk1, bh⟩
          have HLh : Hid (LE bA B2 wh gA cA ps (xs ++ [(.slice aa nl.length ca, psa), (.slice ab nd.length cb, psb)]) [] [(.slice a6 nl.length c6, pk), (.slice al2 nl.length cl2, psl), (.slice ad nd.length cd, psd)] ys (.slice as2 (2 * j + 2) cs2) (.slice aw (2 * j) cw) ∧ Below w.heap.size w wh ∧ pk.map Prod.fst = nl) := ⟨HLg.out.1.addU [(.slice a6 nl.length c6, pk)] bh (fun x hx => by rw [List.mem_singleton.1 hx]; exact rk1), andThen HLg.out.2 bh, fk1⟩
          have HK2 : Hid (Calls Try.prog 12 #[.slice ad nd.length cd] wh fun e w' => ∃ a7, ∃ c7 : Nat, ∃ pk2, e = .returned (.slice a7 nd.length c7) ∧ Rws wh.heap.size w' (.slice a7 nd.length c7) pk2 ∧ pk2.map Prod.fst = nd ∧ Below wh.heap.size wh w') := by
            have h1 := (HLh.out.1.rw (.slice ad nd.length cd, psd) (by simp)).recsAt
            rw [HLc.out.2.2.2.2.2.2] at h1
            refine (cloneAllB_any _ nd wh h1 ⟨fun r hr => ⟨(HRS.out.2.each r (HNN.out.2.1 r hr)).1, by have := (HRS.out.2.each r (HNN.out.2.1 r hr)).2; omega⟩, by have := HRS.out.2.few; have := HNN.out.2.2.2; omega⟩).mono ?_
            rintro e w' ⟨v', pk2, rfl, q1, q2, q3⟩
            obtain ⟨a7, c7, e7, -⟩ := q1.recs.shape
            rw [show pk2.length = nd.length by rw [← q2, List.length_map]] at e7
            subst e7
            exact ⟨a7, c7, pk2, rfl, q1, q2, q3⟩
          clear rk1 fk1 bh HK1 HLg
          go_wp2_with fail
          refine HK2.out.mono ?_
          rintro e wi ⟨a7, c7, pk2, rfl, rk2, fk2, bi⟩
          have hLi : LE bA B2 wi gA cA ps (xs ++ [(.slice aa nl.length ca, psa), (.slice ab nd.length cb, psb)]) [] [(.slice a6 nl.length c6, pk), (.slice a7 nd.length c7, pk2)] ys (.slice as2 (2 * j + 2) cs2) (.slice aw (2 * j) cw) := (HLh.out.1.addU [(.slice a7 nd.length c7, pk2)] bi (fun x hx => by rw [List.mem_singleton.1 hx]; exact rk2)).dropU _ (fun x hx => by
            simp only [List.mem_cons, List.not_mem_nil, or_false] at hx
            rcases hx with rfl | rfl <;> simp)
          obtain ⟨vw, Wj, hrs3, hLj, ⟨aw2, cw2, ew2⟩, hFj⟩ := hLi.want (by have := HL.out.2.2.1; have := HL.out.2.2.2.1.len; omega) rfl rfl
          rw [← HL.out.2.2.2.1.len, HL.out.2.2.1] at ew2
          subst ew2
          have HBi := andThen HLh.out.2.1 bi
          obtain ⟨xs2, hxs2⟩ : ∃ l, l = xs ++ [(Value.slice aa nl.length ca, psa), (Value.slice ab nd.length cb, psb)] := ⟨_, rfl⟩
          obtain ⟨ys2, hys2⟩ : ∃ l, l = ys ++ [(Value.slice a6 nl.length c6, pk), (Value.slice a7 nd.length c7, pk2)] := ⟨_, rfl⟩
          have HLj : Hid (LE bA B2 Wj gA cA ps xs2 [] [] ys2 (.slice as2 (2 * j + 2) cs2) (.slice aw2 (2 * j + 2) cw2) ∧ Below w.heap.size w Wj ∧ xs2.length = 2 * j + 2 ∧ HEq2 xs2 ys2 ∧ Sml xs2) := by
            refine ⟨by rw [hxs2, hys2]; exact hLj, HBi.trans (hFj.below HBi.size fun q e => by have := HWB.out.2; omega), by rw [hxs2, List.length_append, HL.out.2.2.1]; rfl, ?_, ?_⟩
            · rw [hxs2, hys2]
              exact HL.out.2.2.2.1.snoc (HLc.out.2.2.2.1.trans HLh.out.2.2.symm) (HLc.out.2.2.2.2.1.trans fk2.symm)
            · rw [hxs2]
              intro x hx
              rcases List.mem_append.1 hx with hx | hx
              · exact HL.out.2.2.2.2.1 x hx
              · simp only [List.mem_cons, List.not_mem_nil, or_false] at hx
                rcases hx with rfl | rfl
                · obtain ⟨q1, q2⟩ := sml_of HRS.out.2 HNN.out.1 HNN.out.2.2.1 HLc.out.2.2.2.1
                  exact ⟨q1, q2, aa, ca, by show _ = Value.slice aa psa.length ca; rw [← HLc.out.2.2.2.1, List.length_map]⟩
                · obtain ⟨q1, q2⟩ := sml_of HRS.out.2 HNN.out.2.1 HNN.out.2.2.2 HLc.out.2.2.2.2.1
                  exact ⟨q1, q2, ab, cb, by show _ = Value.slice ab psb.length cb; rw [← HLc.out.2.2.2.2.1, List.length_map]⟩
          have HPL : Hid (ps.length = k) := HL.out.2.1
          clear rk2 fk2 bi hLi hLj hFj HK2 HLh HLc HL HBi hxs2 hys2 HRS HNN HWS HBf
          obtain ⟨D2, hD2⟩ : ∃ D : Bool, D = decide (j < T) := ⟨_, rfl⟩
          have HD2 : Hid (D2 = decide (j < T)) := hD2
          go_upto_if 124 with (at_builtin; refine wpList_appRun rfl (.tmp 114) (.tmp 119) 34 rfl rfl rfl hrs3 ?_)
          rw [← hD2]
          clear hD2 hrs2 hrs3 hr4
          go_cut [] from 125 to 132 (fun wx => ∃ ps', LE bA B2 wx gA cA ps' xs2 [] [] ys2 (.slice as2 (2 * j + 2) cs2) (.slice aw2 (2 * j + 2) cw2) ∧ ps'.length = k ∧ Below w.heap.size w wx)
          case first =>
            cases D2 with
            | true =>
              have hlt : j < T := by have := of_decide_eq_true HD2.out.symm; omega
              obtain ⟨b, off, at1, kd, by1, rfl, htr, hy1, hy2⟩ := HTU.out j hlt
              have HTR : Hid (∀ W, Below w.heap.size w W → W.cell? ⟨b, off + j * 3, none⟩ = some (.int .i64 at1) ∧ W.cell? ⟨b, off + j * 3 + 1, none⟩ = some (.int .i64 kd) ∧ W.cell? ⟨b, off + j * 3 + 2, none⟩ = some (.int .i64 by1)) := fun W hW => ⟨htr W hW 0 _ rfl, htr W hW 1 _ rfl, htr W hW 2 _ rfl⟩
              have HTT : Hid (∀ W, Below Wj.heap.size Wj W → Calls Try.prog 13 #[.slice (some ⟨gA, 0, none⟩) k cA, .agg #[.int .i64 at1, .int .i64 kd, .int .i64 by1]] W fun e w' => e = .returned (.tuple #[]) ∧ Below w.heap.size w w' ∧ ∃ ps', LE bA B2 w' gA cA ps' xs2 [] [] ys2 (.slice as2 (2 * j + 2) cs2) (.slice aw2 (2 * j + 2) cw2) ∧ ps'.length = k ∧ Below w.heap.size w w') := fun W hW => by
                have hk := HLj.out.1.kept hW
                have h9 := rwturned_any at1 kd by1 bA W gA (ps.length + 2) cA ps [mA, mB] hk.al (by simp) hk.ls hy1 hy2
                rw [HPL.out] at h9
                refine h9.mono ?_
                rintro e w' ⟨ps', rfl, q1, q2, q3, q4, q5⟩
                rw [← HPL.out] at q1 q4 q5
                have hb9 : Below w.heap.size w w' := (andThen HLj.out.2.1 hW).trans (q4.below (andThen HLj.out.2.1 hW).size fun q e => by have := (hk.al.lt e).1; have := HWB.out.1; omega)
                exact ⟨rfl, hb9, ps', hk.turn q1 q2 q3 q4 q5, by rw [q2]; exact HPL.out, hb9⟩
              have HQ := HTR.out Wj HLj.out.2.1
              clear htr
              go_wp2_with fail
              go_region_held (fun w' => w'.cell? ⟨b, off + j * 3, none⟩ = some (.int .i64 at1) ∧ w'.cell? ⟨b, off + j * 3 + 1, none⟩ = some (.int .i64 kd) ∧ w'.cell? ⟨b, off + j * 3 + 2, none⟩ = some (.int .i64 by1)) (first | go_keep | (exact HTR.out _ hb8))
                (first | (go_at_call 13; refine (HTT.out _ (Below.drew (Below.refl _ _))).mono ?_; rintro e w8 ⟨rfl, hb8, hps8⟩))
              all_goals go_wp2_with fail
              all_goals go_meet
              all_goals exact hps8
            | false =>
              go_wp2_with fail
              all_goals go_meet
              all_goals exact ⟨ps, HLj.out.1, HPL.out, HLj.out.2.1⟩
          case rest =>
          obtain ⟨ps9, hL9, hp9, hB9⟩ := hcut
          have H9 : Hid (LE bA B2 wc gA cA ps9 xs2 [] [] ys2 (.slice as2 (2 * j + 2) cs2) (.slice aw2 (2 * j + 2) cw2) ∧ ps9.length = k ∧ Below w.heap.size w wc) := ⟨hL9, hp9, hB9⟩
          have HX : Hid (xs2.length = 2 * j + 2 ∧ HEq2 xs2 ys2 ∧ Sml xs2) := ⟨HLj.out.2.2.1, HLj.out.2.2.2.1, HLj.out.2.2.2.2⟩
          obtain ⟨wz, hwz⟩ : ∃ x, x = wc := ⟨_, rfl⟩
          rw [← hwz] at H9 ⊢
          clear hL9 hp9 hB9 HLj hwz HD2 HPL
          go_wp2_with fail
          go_loopw [18] (fun i wr => ∃ q : Nat, q ≤ 2 * j + 2 ∧ i = .int .i64 (q : Int) ∧ Below wz.heap.size wz wr) (fun i _ => 2 * j + 2 - (intOf i).toNat)
          case atStart => exact ⟨0, Nat.zero_le _, rfl, Below.refl _ _⟩
          case round =>
            obtain ⟨q, hq, rfl, hbq⟩ := hrel
            have HBq : Hid (Below wz.heap.size wz wr) := hbq
            clear hbq
            by_cases hql : q < 2 * j + 2
            · have tq : ((q : Int) < 2 * (j : Int) + 2) = True := eq_true (by omega)
              obtain ⟨x, hx⟩ : ∃ x, xs2[q]? = some x := ⟨xs2[q]'(by rw [HX.out.1]; exact hql), List.getElem?_eq_getElem _⟩
              obtain ⟨y, hy⟩ : ∃ y, ys2[q]? = some y := ⟨ys2[q]'(by rw [← HX.out.2.1.len, HX.out.1]; exact hql), List.getElem?_eq_getElem _⟩
              have hxm := List.mem_of_getElem? hx
              have hym := List.mem_of_getElem? hy
              obtain ⟨ax, cx, ex⟩ := (HX.out.2.2 x hxm).2.2
              have hrd : ∃ bs bw, as2 = some ⟨bs, 0, none⟩ ∧ aw2 = some ⟨bw, 0, none⟩ ∧ (∀ W, Below wz.heap.size wz W → W.cell? ⟨bs, q, none⟩ = some x.1 ∧ W.cell? ⟨bw, q, none⟩ = some y.1) := by
                have h1 := H9.out.1.srow
                have h2 := H9.out.1.wrow
                have hxl := HX.out.1
                have hyl := HX.out.2.1.len
                rcases h1.2 with ⟨-, h0⟩ | ⟨bs, c8, cur, e8, -⟩
                · omega
                · rcases h2.2 with ⟨-, h0⟩ | ⟨bw, c9, cur9, e9, -⟩
                  · omega
                  · simp only [Value.slice.injEq] at e8 e9
                    refine ⟨bs, bw, e8.1, e9.1, fun W hW => ?_⟩
                    have hk := H9.out.1.kept hW
                    have h1 := hk.srow
                    have h2 := hk.wrow
                    rw [e8.1, hxl] at h1
                    rw [e9.1, ← hyl, hxl] at h2
                    rw [World.ownsRow.cellAt h1 q (by omega), World.ownsRow.cellAt h2 q (by omega), List.getElem?_map, List.getElem?_map, hx, hy]
                    exact ⟨rfl, rfl⟩
              obtain ⟨bs, bw, rfl, rfl, hrd⟩ := hrd
              obtain ⟨ay, cy, ey, -⟩ := (H9.out.1.rw y (by simp [hym])).recs.shape
              have hxy := HX.out.2.1.at hx hy
              have hlen : y.2.length = x.2.length := by
                have := congrArg List.length hxy
                rw [List.length_map, List.length_map] at this
                exact this.symm
              obtain ⟨nx, hnx⟩ : ∃ n, n = x.2.length := ⟨_, rfl⟩
              rw [hlen, ← hnx] at ey
              rw [← hnx] at ex
              have HRD : Hid (∀ W, Below wz.heap.size wz W → W.cell? ⟨bs, q, none⟩ = some (.slice ax nx cx) ∧ W.cell? ⟨bw, q, none⟩ = some (.slice ay nx cy)) := fun W hW => by
                have h8 := hrd W hW
                rw [ex, ey] at h8
                exact h8
              have HSM : Hid (∀ W, Below wz.heap.size wz W → Calls Try.prog 8 #[.slice ax nx cx, .slice ay nx cy] W fun e w' => e = .returned (.bool true) ∧ Below wz.heap.size wz w') := fun W hW => by
                have hk := H9.out.1.kept hW
                have h1 := (hk.rw x (by simp [hxm])).recsAt
                have h2 := (hk.rw y (by simp [hym])).recsAt
                rw [ex] at h1
                rw [ey, ← hxy] at h2
                exact (sameAll3_ok _ _ _ W h1 h2).mono fun e w' ⟨he, hb⟩ => ⟨he, andThen hW hb⟩
              have HQ := HRD.out wr HBq.out
              have HBQ := HBq.out
              clear hx hy hxm hym ex ey hrd hxy hlen hnx
              go_wp2_with fail
              go_region_held (fun w' => w'.cell? ⟨bs, q, none⟩ = some (.slice ax nx cx) ∧ w'.cell? ⟨bw, q, none⟩ = some (.slice ay nx cy)) (first | go_keep | (exact HRD.out _ hb8))
                (first | (go_at_call 8; refine (HSM.out _ (Below.drew HBQ)).mono ?_; rintro e w8 ⟨rfl, hb8⟩))
              have HB8 : Hid (Below wz.heap.size wz w8) := hb8
              clear hb8 HBQ HQ
              go_wp2_with fail
              go_roundw
              case rel => exact ⟨q + 1, by omega, by go_num, HB8.out⟩
              case measure => simp [intOf]; omega
            · obtain rfl : q = 2 * j + 2 := by omega
              have tq : (((2 * j + 2 : Nat) : Int) < 2 * (j : Int) + 2) = False := eq_false (by omega)
              have hk9 := H9.out.1.kept HBq.out
              have hm9 := hk9.behind
              rw [H9.out.2.1] at hm9
              obtain ⟨m7, m77, m8, m78⟩ := hm9
              have HE9 : Hid (LE bA B2 wr gA cA ps9 xs2 [] [] ys2 (.slice as2 (2 * j + 2) cs2) (.slice aw2 (2 * j + 2) cw2) ∧ Below w.heap.size w wr) := ⟨hk9, andThen H9.out.2.2 HBq.out⟩
              clear hk9
              go_wp2_with fail
              go_roundw
              case rel => exact ⟨j + 1, ps9, xs2, ys2, by omega, by omega, by go_num, ⟨as2, cs2, rfl⟩, ⟨aw2, cw2, rfl⟩, HE9.out.1, H9.out.2.1, HX.out.1, HX.out.2.1, HX.out.2.2, HE9.out.2⟩
              case measure => simp [intOf]; omega
        · have HXS : Hid (XS B2 wr wr xs) := ⟨fun x hx => HL.out.1.rw x (by simp [hx]), by have := HL.out.1.ap; rw [List.append_nil] at this; exact this, Below.refl _ _, HL.out.1.lo⟩
          have hsblk : ∀ q, (Value.slice as_ (2 * j) cs).ownBlock = some q → q < wr.heap.size ∧ ∀ x ∈ xs, ¬ Rq x.1 x.2 q := fun q e => ⟨(World.ownsRow.lt HL.out.1.srow q e).2, fun x hx h9 => HL.out.1.kinds HL.out.1.srow x (by simp [hx]) q h9 e⟩
          have hsrd : ∀ (q : Nat) (x : RL), xs[q]? = some x → ∃ bs, as_ = some ⟨bs, 0, none⟩ ∧ wr.cell? ⟨bs, q, none⟩ = some x.1 := fun q x hx => by
            have h1 := HL.out.1.srow
            have hxl := HL.out.2.2.1
            have hq := (List.getElem?_eq_some_iff.1 hx).1
            rcases h1.2 with ⟨-, h0⟩ | ⟨bs, c8, cur, e8, -⟩
            · omega
            · simp only [Value.slice.injEq] at e8
              rw [e8.1, hxl] at h1
              refine ⟨bs, e8.1, ?_⟩
              rw [World.ownsRow.cellAt h1 q (by omega), List.getElem?_map, hx]
              rfl
          have HS : Hid ((∀ q, (Value.slice as_ (2 * j) cs).ownBlock = some q → q < wr.heap.size ∧ ∀ x ∈ xs, ¬ Rq x.1 x.2 q) ∧ ∀ (q : Nat) (x : RL), xs[q]? = some x → ∃ bs, as_ = some ⟨bs, 0, none⟩ ∧ wr.cell? ⟨bs, q, none⟩ = some x.1) := ⟨hsblk, hsrd⟩
          have HX0 : Hid (SX B2 wr (wr.alloc (.cells #[.slice none 0 0, .slice none 0 0, .slice none 0 0, .slice none 0 0, .slice none 0 0, .slice none 0 0] 37)) (fun _ => none) wr.heap.size [.slice none 0 0, .slice none 0 0, .slice none 0 0, .slice none 0 0, .slice none 0 0, .slice none 0 0] [] [] [] [] xs ∧ Out (wr.alloc (.cells #[.slice none 0 0, .slice none 0 0, .slice none 0 0, .slice none 0 0, .slice none 0 0, .slice none 0 0] 37)) (fun _ => none) wr.heap.size [.slice none 0 0, .slice none 0 0, .slice none 0 0, .slice none 0 0, .slice none 0 0, .slice none 0 0] (fun q => (Value.slice as_ (2 * j) cs).ownBlock = some q) ∧ ∀ q, q < wr.heap.size → (wr.alloc (.cells #[.slice none 0 0, .slice none 0 0, .slice none 0 0, .slice none 0 0, .slice none 0 0, .slice none 0 0] 37)).heap[q]? = wr.heap[q]?) := by
            refine ⟨SX.start HXS.out, fun q e => ⟨?_, rfl, fun e2 => ?_⟩, fun q hq => heap_old _ _ _ hq⟩
            · have := (hsblk q e).1
              rw [heap_one]
              omega
            · have h9 := (hsblk q e).1
              rcases e2 with e2 | ⟨v9, hv9, e2⟩
              · omega
              · have hv0 : v9 = .slice none 0 0 := by simpa using hv9
                rw [hv0] at e2
                cases e2
          have HFIN : Hid (xs.length = 2 * j ∧ Sml xs ∧ Below w.heap.size w wr ∧ w.heap.size ≤ B2) := ⟨HL.out.2.2.1, HL.out.2.2.2.2.1, HL.out.2.2.2.2.2, HWB.out.2⟩
          obtain ⟨G, hG⟩ : ∃ G, G = wr.heap.size := ⟨_, rfl⟩
          have HGG : Hid (G = wr.heap.size) := hG
          have hex : (((j : Int) ≤ (T : Int)) = True ∧ ((j : Int) < 30) = False) ∨ ((j : Int) ≤ (T : Int)) = False := by
            by_cases hjt : j ≤ T
            · exact .inl ⟨eq_true (by omega), eq_false (by omega)⟩
            · exact .inr (eq_false (by omega))
          clear hsblk hsrd HL HXS hgo hjT HLE0 HB2 HWB HTU hr4
          obtain ⟨we, hwe⟩ : ∃ x, x = wr := ⟨_, rfl⟩
          rw [← hwe] at HS HX0 HFIN HGG hG ⊢
          clear hwe
          rcases hex with ⟨t1, t2⟩ | t1
          all_goals (
            go_wp2_with fail
            rw [← hG]
            rw [← hG] at HX0
            clear hG
            go_loopw [20] (fun i w2 => ∃ (q : Nat) (C : Nat → Option Cl) (V : List Value) (L F : List En) (lh fh : List (Value × Nat)), q ≤ 2 * j ∧ i = .int .i64 (q : Int) ∧ SX B2 we w2 C G V L F lh fh (xs.drop q) ∧ L.length ≤ q * 100 ∧ F.length = q ∧ Out w2 C G V (fun q => (Value.slice as_ (2 * j) cs).ownBlock = some q) ∧ ∀ q, (Value.slice as_ (2 * j) cs).ownBlock = some q → w2.heap[q]? = we.heap[q]?) (fun i _ => 2 * j - (intOf i).toNat)
            case atStart => exact ⟨0, _, _, [], [], [], [], Nat.zero_le _, rfl, HX0.out.1, Nat.zero_le _, rfl, HX0.out.2.1, fun q e => HX0.out.2.2 q (by rw [HGG.out]; exact (HS.out.1 q e).1)⟩
            case round =>
              obtain ⟨q, C, V, L, F, lh, fh, hq, rfl, hsx, hL, hF, hou, hsame⟩ := hrel
              have HR : Hid (SX B2 we wr C G V L F lh fh (xs.drop q) ∧ L.length ≤ q * 100 ∧ F.length = q ∧ Out wr C G V (fun q => (Value.slice as_ (2 * j) cs).ownBlock = some q) ∧ ∀ q, (Value.slice as_ (2 * j) cs).ownBlock = some q → wr.heap[q]? = we.heap[q]?) := ⟨hsx, hL, hF, hou, hsame⟩
              clear hsx hL hF hou hsame
              by_cases hql : q < 2 * j
              · have tq : ((q : Int) < 2 * (j : Int)) = True := eq_true (by omega)
                obtain ⟨x, hx⟩ : ∃ x, xs[q]? = some x := ⟨xs[q]'(by rw [HFIN.out.1]; exact hql), List.getElem?_eq_getElem _⟩
                have hxm := List.mem_of_getElem? hx
                obtain ⟨q1, q2, ax, cx, ex⟩ := HFIN.out.2.1 x hxm
                obtain ⟨bs, rfl, hcs⟩ := HS.out.2 q x hx
                have hcs2 : wr.cell? ⟨bs, q, none⟩ = some x.1 := (World.cell?_of_block (w := we) (a := ⟨bs, q, none⟩) (HR.out.2.2.2.2 bs rfl)).trans hcs
                have hdr : xs.drop q = x :: xs.drop (q + 1) := by
                  rw [List.drop_eq_getElem_cons (by rw [HFIN.out.1]; exact hql), (List.getElem?_eq_some_iff.1 hx).2]
                obtain ⟨xv, xp⟩ := x
                simp only at ex q1 q2 hcs2
                obtain ⟨nx, hnx⟩ : ∃ n, n = xp.length := ⟨_, rfl⟩
                rw [← hnx] at ex
                subst ex
                have HPT : Hid (Calls Try.prog 9 #[.pointer (some ⟨G, 0, none⟩), .slice ax nx cx, .int .i64 (-20 - (q : Int))] wr fun e w' => e = .returned (.tuple #[]) ∧ ∃ C' V' L' F', SX B2 we w' C' G V' L' F' lh fh (xs.drop (q + 1)) ∧ L'.length ≤ (q + 1) * 100 ∧ F'.length = q + 1 ∧ Out w' C' G V' (fun q => (Value.slice (some ⟨bs, 0, none⟩) (2 * j) cs).ownBlock = some q) ∧ ∀ q, (Value.slice (some ⟨bs, 0, none⟩) (2 * j) cs).ownBlock = some q → w'.heap[q]? = we.heap[q]?) := by
                  have hsx := HR.out.1
                  rw [hdr] at hsx
                  have hlen : xs.length = 2 * j := HFIN.out.1
                  refine (mkput_so (ys := []) hsx (-20 - (q : Int)) (by omega) (fun p hp => by have := q2 p hp; omega) (by have := HR.out.2.1; omega) (by have := HR.out.2.2.1; omega) HR.out.2.2.2.1 (fun p e => (HS.out.1 p e).2 _ hxm)).mono ?_
                  rintro e w' ⟨rfl, C', V', l', k1, k2, k3, k4⟩
                  refine ⟨rfl, C', V', _, _, k1, ?_, ?_, k3, fun p e => (k4 p e).trans (HR.out.2.2.2.2 p e)⟩
                  · rw [List.length_append, k2]
                    have := HR.out.2.1
                    omega
                  · rw [List.length_append, HR.out.2.2.1]
                    rfl
                clear hx hxm q1 q2 hcs hdr hnx
                go_wp2_with fail
                refine HPT.out.mono ?_
                rintro e w9 ⟨rfl, C9, V9, L9, F9, h91, h92, h93, h94, h95⟩
                have HN : Hid (SX B2 we w9 C9 G V9 L9 F9 lh fh (xs.drop (q + 1)) ∧ L9.length ≤ (q + 1) * 100 ∧ F9.length = q + 1 ∧ Out w9 C9 G V9 (fun q => (Value.slice (some ⟨bs, 0, none⟩) (2 * j) cs).ownBlock = some q) ∧ ∀ q, (Value.slice (some ⟨bs, 0, none⟩) (2 * j) cs).ownBlock = some q → w9.heap[q]? = we.heap[q]?) := ⟨h91, h92, h93, h94, h95⟩
                clear h91 h92 h93 h94 h95 HPT hcs2
                go_wp2_with fail
                go_roundw
                case rel => exact ⟨q + 1, C9, V9, L9, F9, lh, fh, by omega, by go_num, HN.out⟩
                case measure => simp [intOf]; omega
              · obtain rfl : q = 2 * j := by omega
                have tq : (((2 * j : Nat) : Int) < 2 * (j : Int)) = False := eq_false (by omega)
                have HSP1 := split_one wr
                go_wp2_with fail
                refine HSP1.mono ?_
                rintro e wg ⟨n1, n2, k1, k2, rfl, bg⟩
                have HHD := mkhold_sx (HR.out.1.kept bg) (by have := HR.out.2.1; omega) (by have := HR.out.2.2.1; omega)
                clear bg HSP1
                go_wp2_with fail
                refine HHD.mono ?_
                rintro e wh ⟨rfl, Ch, Vh, lhh, fhh, Xh, bh⟩
                have HBh : Hid (Below w.heap.size w wh) := HFIN.out.2.2.1.trans (bh.mono HFIN.out.2.2.2)
                clear Xh bh HHD
                go_wp2_with fail
                go_ret
                exact ⟨rfl, HBh.out⟩)
end Go.Proofs.Ytggenlnknnhjgaa
