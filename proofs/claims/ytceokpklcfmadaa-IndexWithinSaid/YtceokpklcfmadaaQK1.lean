import Derived.Test.YtceokpklcfmadaaQJ5
import Derived.Test.YtceokpklcfmadaaQE1
import Derived.Test.YtceokpklcfmadaaQJ7
/-
  Package index: views: what was read of a container stays, whatever is added to it or dropped.
-/
namespace Go.Proofs.Ytceokpklcfmadaa
open Go Go.RowKit Go.ChangeShapes
open Wb

/-- append of one number: every view that is no longer stays -/
theorem append_viewsI (w : World) (B : Nat) (ty : TypeId) (v : Value) (xs : List Value) (h : w.ownsRow B 3 1 v xs.length xs) (gx cx : Nat) (x : Value) (hx : w.cell? ⟨gx, 0, none⟩ = some x) (h1 : x.oneCell' = true) (hmax : xs.length ≤ 5000000000) (hB : B ≤ w.heap.size) (v' : Value) (w' : World) (hr : (Builtin.append_ #[35, 35] ty #[v, .slice (some ⟨gx, 0, none⟩) 1 cx]).run Try.prog w = .ok v' w') :
    ∀ (u : Value) (xs' : List Value) (B' : Nat), w.ownsRow B' 3 1 u xs'.length xs' → (∀ q, u.ownBlock = some q → v.ownBlock = some q → xs'.length ≤ xs.length) → w'.ownsRow B' 3 1 u xs'.length xs' := by
  obtain ⟨i0, hi, hz0, hz1, hz2⟩ := info_parts infoI
  have hnews : ∀ j u, ([x] : List Value)[j]? = some u → w.cell? ((⟨gx, 0, none⟩ : Addr).add j) = some u := fun j u hj => by
    match j, hj with
    | 0, hj => simp at hj; subst hj; simpa [Addr.add] using hx
  have hone : ∀ u ∈ [x], u.oneCell' = true := fun u hu => by
    obtain rfl := List.mem_singleton.1 hu
    exact h1
  obtain ⟨v2, w2, hr2, -, h3, -⟩ := run_append_own_at (P := Try.prog) w B 35 ty 3 i0 (.int .i64 0) 1 8 Try.underlying35 hi hz0 hz1 hz2 rfl (by decide) v xs.length xs h ⟨gx, 0, none⟩ 1 cx [x] rfl hnews hone (by unfold maxLen; omega) (by omega) hB
  rw [hr] at hr2
  injection hr2 with e1 e2
  subst e1 e2
  intro u xs' B' hu hn'
  by_cases hub : u.ownBlock = v.ownBlock
  · rcases hu.2 with ⟨rfl, h0⟩ | ⟨g, cap, cur, rfl, hbg, hg, hnc, hcm, hcs, htk⟩
    · exact ⟨hu.1, .inl ⟨rfl, h0⟩⟩
    · have hn9 := hn' g rfl hub.symm
      rcases h.2 with ⟨rfl, _⟩ | ⟨g', cap', cur', rfl, hbg', hg', hnc', hcm', hcs', htk'⟩
      · cases hub
      · obtain rfl : g = g' := by simpa [Value.ownBlock] using hub
        obtain rfl : cur = cur' := by
          have := hg.symm.trans hg'
          simpa using this
        have hcc : cap = cap' := by omega
        subst hcc
        by_cases hroom : xs.length + 1 ≤ cap
        · have hfit : xs.length * i0.size + [x].length ≤ cur.size := by rw [hz1, hcs]; simp; omega
          have hr2 := run_append_room (P := Try.prog) w 35 ty 3 i0 Try.underlying35 hi g xs.length cap cur hg ⟨gx, 0, none⟩ 1 cx [x] (by rw [hz1]; rfl) hnews hone hroom hfit
          rw [hr2] at hr
          injection hr with e1 e2
          subst e1 e2
          refine ⟨hu.1, .inr ⟨g, cap, _, rfl, hbg, setRow_heap w g cur _ _ _ hg, hnc, hcm, ?_, ?_⟩⟩
          · simp only [List.size_toArray, List.length_append, List.length_take, List.length_drop, Array.length_toList, hz1, List.length_cons, List.length_nil]
            omega
          · have hl : (cur.toList.take (xs.length * i0.size)).length = xs.length := by
              have hcl : cur.toList.length = cur.size := Array.length_toList
              rw [hz1, List.length_take]
              omega
            have hmin : min (xs'.length * 1) (xs.length * i0.size) = xs'.length * 1 := by rw [hz1]; omega
            rw [List.append_assoc, List.take_append_of_le_length (by rw [hl]; omega), List.take_take, hmin]
            exact htk
        · have holds : ∀ j u, xs[j]? = some u → w.cell? ((⟨g, 0, none⟩ : Addr).add j) = some u := h.cells (g := g) rfl
          have hr2 := run_append_grow (P := Try.prog) w 35 ty 3 i0 (.int .i64 0) Try.underlying35 hi hz0 ⟨g, 0, none⟩ xs.length cap xs (by rw [hz1, Nat.mul_one]) holds ⟨gx, 0, none⟩ 1 cx [x] (by rw [hz1]; rfl) hnews (by omega) (by omega) (growslice_fits (by omega) (by rw [hz2]; omega))
          rw [hr2] at hr
          injection hr with e1 e2
          subst e1 e2
          refine ⟨hu.1, .inr ⟨g, cap, cur, rfl, hbg, ?_, hnc, hcm, hcs, htk⟩⟩
          rw [← hg]
          exact Below.heap_alloc w.drew _ g (Array.getElem?_eq_some_iff.1 hg).1
  · exact Mg.row_block hu fun g hg => h3.block g (World.ownsRow.lt hu g hg).2 fun e => hub (hg.trans e)
/-- a value of the map's -/
def Mval (w : World) (b : Nat) (v : Value) : Prop := ∃ es clock, w.heap[b]? = some (.map es clock) ∧ ∃ x ∈ es.toList, x.val = v
theorem Mval.row {w : World} {b q : Nat} {v : Value} (h : Mval w b v) (e : v.ownBlock = some q) : Mrow w b q := by
  obtain ⟨es, clock, hb, x, hx, hv⟩ := h
  exact ⟨es, clock, hb, x, hx, by rw [hv]; exact e⟩
/-- a view of numbers: no list of the map's in its block is shorter -/
structure Vw (w : World) (b : Nat) (u : Value) (zs : List Int) : Prop where
  row : w.ownsRow 0 3 1 u zs.length (ivs zs)
  fit : ∀ v, Mval w b v → ∀ q, v.ownBlock = some q → u.ownBlock = some q → ∃ a n c, v = .slice a n c ∧ zs.length ≤ n
theorem Mval.same {w w' : World} {b : Nat} {v : Value} (h : Mval w' b v) (e : w'.heap[b]? = w.heap[b]?) : Mval w b v := by
  obtain ⟨es, clock, hb, x⟩ := h
  exact ⟨es, clock, e ▸ hb, x⟩
theorem Vw.kept {w w' : World} {b : Nat} {u : Value} {zs : List Int} (h : Vw w b u zs) (hb : Below w.heap.size w w') (hlt : b < w.heap.size) : Vw w' b u zs := ⟨Mg.row_kept h.row hb, fun v hv => h.fit v (hv.same (hb.block b hlt))⟩
/-- what stands at a key, and that it is the map's own -/
theorem MI.atV {w : World} {g b base n : Nat} {kvs : Ix.Gm} (h : MI w g b base n kvs) (k : Int) (hk : (Lit.int .i64 k).wf = true) (v : Value) (hrun : (Instr.lookup 97 (.map (some b)) (.int .i64 k) false).run Try.prog w = .ok v w) : ∀ q, v.ownBlock = some q → Mval w b v := by
  intro q hq
  obtain ⟨es, clock, hb, F, -⟩ := h.map
  rcases Maps.fit_look false lawI Try.underlying97 (zeroIS w) hb F (keyI hk) with ⟨hrun', -, -⟩ | ⟨e0, y, hm0, -, hrun', -, -, -⟩
  · rw [hrun] at hrun'
    obtain rfl : v = .slice none 0 0 := by simpa using hrun'
    cases hq
  · rw [hrun] at hrun'
    obtain rfl : v = e0.val := by simpa using hrun'
    exact ⟨es, clock, hb, e0, hm0, rfl⟩
end Go.Proofs.Ytceokpklcfmadaa

/-
  Package index: Add and Drop keep every view.
-/
namespace Go.Proofs.Ytceokpklcfmadaa
open Go Go.RowKit Go.ChangeShapes
open Wb

/-- one more at a key: append, and the store -/
theorem MI.addV {w : World} {g b base n : Nat} {kvs : Ix.Gm} (h : MI w g b base n kvs) (k x : Int) (hk : (Lit.int .i64 k).wf = true) (hx : (Lit.int .i64 x).wf = true) (hn : n < 1000000000) :
    ∃ v, (Instr.lookup 97 (.map (some b)) (.int .i64 k) false).run Try.prog w = .ok v w ∧ ∀ (W1 : World) (gx cx : Nat) (ty : TypeId), Below w.heap.size w W1 → W1.cell? ⟨gx, 0, none⟩ = some (.int .i64 x) →
      ∃ v' W2, (Builtin.append_ #[35, 35] ty #[v, .slice (some ⟨gx, 0, none⟩) 1 cx]).run Try.prog W1 = .ok v' W2 ∧ W2.cell? ⟨g, 0, none⟩ = some (.map (some b)) ∧
        ∃ W3, (Instr.mapUpdate 97 (.map (some b)) (.int .i64 k) v').run Try.prog W2 = .ok () W3 ∧ W3.cell? ⟨g, 0, none⟩ = some (.map (some b)) ∧ MI W3 g b base (n + 1) (Ix.add kvs k x) ∧ IFr w W3 (fun q => q = b ∨ Mrow w b q) ∧ (∀ q, Mrow W3 b q → Mrow w b q ∨ w.heap.size ≤ q) ∧ ∀ u zs, Vw w b u zs → Vw W3 b u zs := by
  obtain ⟨v, hrun, hoi, hzl, hback, hvm⟩ := h.at k hk hn
  refine ⟨v, hrun, fun W1 gx cx ty h01 hcx => ?_⟩
  obtain ⟨i0, hi, hz0, hz1, hz2⟩ := info_parts infoI
  have hoi1 : W1.ownsInts base 3 .i64 v (Ix.get kvs k) := hoi.kept (grown_none h01 none) (by cases v.ownBlock <;> simp)
  obtain ⟨v', W2, hr, hown', hgrow, -, hloc⟩ := run_append_own_at (P := Try.prog) W1 base 35 ty 3 i0 (.int .i64 0) 1 8 Try.underlying35 hi hz0 hz1 hz2 rfl (by omega) v (Ix.get kvs k).length ((Ix.get kvs k).map (Value.int .i64)) hoi1.1 ⟨gx, 0, none⟩ 1 cx [.int .i64 x] rfl (fun j u hj => by
    cases j with
    | zero =>
      rw [Addr.add_lit]
      have e : u = .int .i64 x := by simpa using hj.symm
      rw [e]
      exact hcx
    | succ j => simp at hj) (fun u hu => by rw [List.mem_singleton.1 hu]; rfl) (by unfold maxLen; omega) (by omega) (Nat.le_trans h.hi h01.size)
  have hoi2 := hoi1.appended hown' hx
  have hvb : ∀ q, v.ownBlock = some q → base ≤ q := fun q e => (hoi.1.lt q e).1
  have hg0 : w.grownBy W2 v.ownBlock := ⟨hgrow.os.trans h01.os, hgrow.tape.trans h01.tape, hgrow.output.trans h01.output, Nat.le_trans h01.size hgrow.size, fun q hq hne => (hgrow.block q (Nat.lt_of_lt_of_le hq h01.size) hne).trans (h01.block q hq)⟩
  have hbx2 : LB W2 g 99 [.map (some b)] := (hg0.block g h.box.lt fun e => by have := hvb g e.symm; have := h.lo; omega).trans h.box
  obtain ⟨W3, hrun3, hG3, hgr3⟩ := hback W2 v' _ hg0 hoi2 (by rw [List.length_append, List.length_singleton]; omega) (hloc.imp id fun e => ⟨_, e, h01.size⟩)
  have hbx3 : LB W3 g 99 [.map (some b)] := (hgr3.block g hbx2.lt fun e => h.ne (Option.some.inj e)).trans hbx2
  refine ⟨v', W2, hr, hbx2.cell 0 _ rfl, W3, hrun3, hbx3.cell 0 _ rfl, ⟨hbx3, ?_, Ix.add_rising kvs k x h.ris, h.lo, Nat.le_trans h.hi (Nat.le_trans hg0.size hgr3.size)⟩, ?_, ?_, ?_⟩
  · rw [hoi2.datum_pos (by simp), Ix.dm_put kvs k x h.ris] at hG3
    exact hG3
  · exact (IFr.of hg0 fun q _ e => .inr (hvm q e)).trans (IFr.of (F := fun q => q = b ∨ Mrow w b q) hgr3 fun q _ e => .inl (Option.some.inj e).symm) fun q _ e => e
  · intro q hq
    obtain ⟨es, clock, hb, F, hs, -, hbb, -⟩ := h.map
    have hblt : b < w.heap.size := (Array.getElem?_eq_some_iff.1 hb).1
    have hb1 : W2.heap[b]? = some (.map es clock) := (hg0.block b hblt fun e1 => by have := hvb b e1.symm; omega).trans hb
    obtain ⟨es', clock', hb2, hwho⟩ := stored_who lawI Try.underlying97 hb1 F (Nat.lt_of_le_of_lt hs (by unfold maxLen; omega)) (keyI hk) hrun3
    obtain ⟨es2, clock2, hb3, y, hy, hyq⟩ := hq
    obtain ⟨rfl, rfl⟩ : es' = es2 ∧ clock' = clock2 := by rw [hb2] at hb3; simpa using hb3
    rcases hwho y hy with ⟨hy0, _⟩ | ⟨_, hval⟩
    · exact .inl ⟨es, clock, hb, y, hy0, hyq⟩
    · rw [hval] at hyq
      rcases hloc with e | e
      · exact .inl (hvm q (e.symm.trans hyq))
      · have e9 := Option.some.inj (e.symm.trans hyq)
        have := h01.size
        exact .inr (by omega)
  · intro u zs hv
    obtain ⟨es, clock, hb, F, hs, -, hbb, -⟩ := h.map
    have hblt : b < w.heap.size := (Array.getElem?_eq_some_iff.1 hb).1
    have hb1 : W2.heap[b]? = some (.map es clock) := (hg0.block b hblt fun e1 => by have := hvb b e1.symm; omega).trans hb
    obtain ⟨es', clock', hb2, hwho⟩ := stored_who lawI Try.underlying97 hb1 F (Nat.lt_of_le_of_lt hs (by unfold maxLen; omega)) (keyI hk) hrun3
    have hrow1 := Mg.row_kept hv.row h01
    obtain ⟨av, cv, ev, -⟩ := Mg.row_shape hoi.1
    have vs : ∀ q, u.ownBlock = some q → v.ownBlock = some q → zs.length ≤ (Ix.get kvs k).length := fun q e1 e2 => by
      obtain ⟨a9, n9, c9, e9, h9⟩ := hv.fit v (h.atV k hk v hrun q e2) q e2 e1
      rw [ev] at e9
      simp only [Value.slice.injEq] at e9
      omega
    have hrow2 : W2.ownsRow 0 3 1 u zs.length (ivs zs) := by
      have h9 := append_viewsI W1 base ty v (ivs (Ix.get kvs k)) (by rw [List.length_map]; exact hoi1.1) gx cx (.int .i64 x) hcx rfl (by rw [List.length_map]; omega) (Nat.le_trans h.hi h01.size) v' W2 hr u (ivs zs) 0 (by rw [List.length_map]; exact hrow1) (fun q e1 e2 => by rw [List.length_map, List.length_map]; exact vs q e1 e2)
      rw [List.length_map] at h9
      exact h9
    refine ⟨Mg.row_other hrow2 hgr3 fun q e e2 => ?_, fun v9 hv9 q e1 e2 => ?_⟩
    · obtain rfl := Option.some.inj e2
      obtain ⟨cur, h9⟩ := Mg.row_type hv.row _ e
      rw [hb] at h9
      cases h9
    · obtain ⟨es2, clock2, hb3, y, hy, rfl⟩ := hv9
      obtain ⟨rfl, rfl⟩ : es' = es2 ∧ clock' = clock2 := by rw [hb2] at hb3; simpa using hb3
      rcases hwho y hy with ⟨hy0, _⟩ | ⟨_, hval⟩
      · exact hv.fit y.val ⟨es, clock, hb, y, hy0, rfl⟩ q e1 e2
      · rw [hval] at e1 ⊢
        obtain ⟨a9, c9, e9, -⟩ := Mg.row_shape hoi2.1
        refine ⟨a9, _, c9, e9, ?_⟩
        rcases hloc with e | e
        · have := vs q e2 (e.symm.trans e1)
          rw [List.length_append]
          omega
        · have e8 := Option.some.inj (e.symm.trans e1)
          have := (World.ownsRow.lt hv.row q e2).2
          have := h01.size
          omega
set_option maxRecDepth 100000 in
set_option maxHeartbeats 4000000 in
theorem ixadd_views (g b base n : Nat) (kvs : Ix.Gm) (k x : Int) (w : World) (h : MI w g b base n kvs) (hk : (Lit.int .i64 k).wf = true) (hx : (Lit.int .i64 x).wf = true) (hn : n < 1000000000) :
    Calls Try.prog 11 #[.pointer (some ⟨g, 0, none⟩), .int .i64 k, .int .i64 x] w fun e w' => e = .returned (.tuple #[]) ∧ MI w' g b base (n + 1) (Ix.add kvs k x) ∧ IFr w w' (fun q => q = b ∨ Mrow w b q) ∧ (∀ q, Mrow w' b q → Mrow w b q ∨ w.heap.size ≤ q) ∧ ∀ u zs, Vw w b u zs → Vw w' b u zs := by
  have H0 : Hid (∀ W, Below w.heap.size w W → MI W g b base n kvs) := fun W hW => h.kept hW
  have HS : Hid (∀ W, MI W g b base n kvs → W.cell? ⟨g, 0, none⟩ = some (.map (some b))) := fun W hW => hW.box.cell 0 _ rfl
  have HM : Hid (∀ W W', Below w.heap.size w W → (IFr W W' (fun q => q = b ∨ Mrow W b q) ∧ ∀ q, Mrow W' b q → Mrow W b q ∨ W.heap.size ≤ q) → IFr w W' (fun q => q = b ∨ Mrow w b q) ∧ ∀ q, Mrow W' b q → Mrow w b q ∨ w.heap.size ≤ q) := fun W W' hW ⟨h1, h2⟩ => by
    have hs : ∀ q, Mrow W b q → Mrow w b q := fun q hq => hq.same (hW.block b h.blt.2)
    refine ⟨(IFr.of (F := fun q => q = b ∨ Mrow w b q) (grown_none hW none) fun k _ e => by cases e).trans h1 fun k _ e => e.imp id (hs k), fun q hq => ?_⟩
    rcases h2 q hq with e | e
    · exact .inl (hs q e)
    · exact .inr (Nat.le_trans hW.size e)
  have HVK : Hid (∀ W, Below w.heap.size w W → ∀ u zs, Vw w b u zs → Vw W b u zs) := fun W hW u zs hv => hv.kept hW h.blt.2
  clear h
  go_enter Try.func11, Try.ntmps11
  go_upto_region 0 with fail
  have hd9 : Below w.heap.size w w.drew := Below.drew (Below.refl _ _)
  refine wp_region_held_drew (S := fun W : World => W.cell? ⟨g, 0, none⟩ = some (.map (some b))) (by kernel_rfl) (HS.out _ (H0.out _ hd9)) (fun hH => ?_)
  obtain ⟨W0, hW0⟩ : ∃ x, x = w.drew := ⟨_, rfl⟩
  rw [← hW0] at hd9 hH ⊢
  clear hW0
  refine zqk 0 rfl hH ?_
  simp only [Act.put, List.setIfInBounds_toArray, List.set_cons_zero, List.set_cons_succ, List.getElem_toArray, List.getElem_cons_zero]
  refine zqk 1 rfl hH ?_
  simp only [Act.put, List.setIfInBounds_toArray, List.set_cons_zero, List.set_cons_succ, List.getElem_toArray, List.getElem_cons_zero, List.getElem_cons_succ]
  refine zqk 2 rfl hH ?_
  simp only [Act.put, List.setIfInBounds_toArray, List.set_cons_zero, List.set_cons_succ, List.getElem_toArray, List.getElem_cons_zero, List.getElem_cons_succ]
  refine zqk 3 rfl hH ?_
  simp only [Act.put, List.setIfInBounds_toArray, List.set_cons_zero, List.set_cons_succ, List.getElem_toArray, List.getElem_cons_zero, List.getElem_cons_succ]
  refine zqk 4 rfl hH ?_
  simp only [Act.put, List.setIfInBounds_toArray, List.set_cons_zero, List.set_cons_succ, List.getElem_toArray, List.getElem_cons_zero, List.getElem_cons_succ]
  refine zqk 5 rfl hH ?_
  simp only [Act.put, List.setIfInBounds_toArray, List.set_cons_zero, List.set_cons_succ, List.getElem_toArray, List.getElem_cons_zero, List.getElem_cons_succ]
  refine zqk 6 rfl hH ?_
  simp only [Act.put, List.setIfInBounds_toArray, List.set_cons_zero, List.set_cons_succ, List.getElem_toArray, List.getElem_cons_zero, List.getElem_cons_succ]
  refine zqk 7 rfl hH ?_
  simp only [Act.put, List.setIfInBounds_toArray, List.set_cons_zero, List.set_cons_succ, List.getElem_toArray, List.getElem_cons_zero, List.getElem_cons_succ]
  refine zqk 8 rfl hH ?_
  simp only [Act.put, List.setIfInBounds_toArray, List.set_cons_zero, List.set_cons_succ, List.getElem_toArray, List.getElem_cons_zero, List.getElem_cons_succ]
  refine zqk 9 rfl hH ?_
  simp only [Act.put, List.setIfInBounds_toArray, List.set_cons_zero, List.set_cons_succ, List.getElem_toArray, List.getElem_cons_zero, List.getElem_cons_succ]
  refine zqk 11 rfl hH ?_
  simp only [Act.put, List.setIfInBounds_toArray, List.set_cons_zero, List.set_cons_succ, List.getElem_toArray, List.getElem_cons_zero, List.getElem_cons_succ]
  refine wpAnyH_ready (rs := [10, 12]) (by kernel_rfl) (by simp) ?_
  refine AllReadyH.cons rfl (fun K hK => ?_) (AllReadyH.cons rfl (fun K hK => ?_) AllReadyH.nil)
  · obtain ⟨v, hr, hadd⟩ := (H0.out _ hd9).addV k x hk hx hn
    refine st_look rfl 97 (.tmp 14) (.tmp 15) false rfl rfl rfl hr ?_
    refine hK.out _ _ hH (fun hH => ?_)
    clear hK K
    simp only [Act.put, List.setIfInBounds_toArray, List.set_cons_zero, List.set_cons_succ, List.getElem_toArray, List.getElem_cons_zero, List.getElem_cons_succ]
    have hbx := up0 W0 (.cells #[.int .i64 x] 3)
    refine zqr 12 rfl (fun K hK => ?_)
    refine st_run rfl (v := .slice (some ⟨W0.heap.size, 0, none⟩) 1 1) (W := W0.alloc (.cells #[.int .i64 x] 3)) (by go_simp) ?_
    refine hK.out _ _ (HS.out _ ((H0.out _ hd9).kept hbx)) (fun hH => ?_)
    clear hK K
    simp only [Act.put, List.setIfInBounds_toArray, List.set_cons_zero, List.set_cons_succ, List.getElem_toArray, List.getElem_cons_zero, List.getElem_cons_succ]
    obtain ⟨v', W2, hr2, hc2, W3, hr3, hc3, m3, f3, q3, u3⟩ := hadd _ W0.heap.size 1 35 hbx (lb_new W0 [.int .i64 x] 3 |>.cell 0 _ rfl)
    refine zqr 13 rfl (fun K hK => ?_)
    refine st_appR rfl 35 (.tmp 16) (.tmp 18) rfl rfl rfl hr2 ?_
    refine hK.out _ _ hc2 (fun hH => ?_)
    clear hK K
    simp only [Act.put, List.setIfInBounds_toArray, List.set_cons_zero, List.set_cons_succ, List.getElem_toArray, List.getElem_cons_zero, List.getElem_cons_succ]
    refine zqr 14 rfl (fun K hK => ?_)
    refine st_upd rfl 97 (.tmp 9) (.tmp 10) (.tmp 19) rfl rfl rfl rfl hr3 ?_
    refine hK.out _ _ hc3 (fun hH => ?_)
    clear hK K
    refine wpAnyH_done (by kernel_rfl) ?_ _
    have HE : Hid (MI W3 g b base (n + 1) (Ix.add kvs k x) ∧ IFr w W3 (fun q => q = b ∨ Mrow w b q) ∧ (∀ q, Mrow W3 b q → Mrow w b q ∨ w.heap.size ≤ q) ∧ ∀ u zs, Vw w b u zs → Vw W3 b u zs) := ⟨m3, (HM.out _ _ hd9 ⟨f3, q3⟩).1, (HM.out _ _ hd9 ⟨f3, q3⟩).2, fun u zs hv => u3 u zs (HVK.out _ hd9 u zs hv)⟩
    clear m3 f3 q3 u3 hr hr2 hr3 hadd
    simp only [Act.put, List.getElem_toArray, List.getElem_cons_zero, List.getElem_cons_succ]
    go_wp2_with fail
    go_returns
    exact ⟨rfl, HE.out⟩
  · have hbx := up hd9 (.cells #[.int .i64 x] 3)
    refine st_run rfl (v := .slice (some ⟨W0.heap.size, 0, none⟩) 1 1) (W := W0.alloc (.cells #[.int .i64 x] 3)) (by go_simp) ?_
    refine hK.out _ _ (HS.out _ (H0.out _ hbx)) (fun hH => ?_)
    clear hK K
    simp only [Act.put, List.setIfInBounds_toArray, List.set_cons_zero, List.set_cons_succ, List.getElem_toArray, List.getElem_cons_zero, List.getElem_cons_succ]
    obtain ⟨v, hr, hadd⟩ := (H0.out _ hbx).addV k x hk hx hn
    refine zqr 10 rfl (fun K hK => ?_)
    refine st_look rfl 97 (.tmp 14) (.tmp 15) false rfl rfl rfl hr ?_
    refine hK.out _ _ hH (fun hH => ?_)
    clear hK K
    simp only [Act.put, List.setIfInBounds_toArray, List.set_cons_zero, List.set_cons_succ, List.getElem_toArray, List.getElem_cons_zero, List.getElem_cons_succ]
    obtain ⟨v', W2, hr2, hc2, W3, hr3, hc3, m3, f3, q3, u3⟩ := hadd _ W0.heap.size 1 35 (Below.refl _ _) (lb_new W0 [.int .i64 x] 3 |>.cell 0 _ rfl)
    refine zqr 13 rfl (fun K hK => ?_)
    refine st_appR rfl 35 (.tmp 16) (.tmp 18) rfl rfl rfl hr2 ?_
    refine hK.out _ _ hc2 (fun hH => ?_)
    clear hK K
    simp only [Act.put, List.setIfInBounds_toArray, List.set_cons_zero, List.set_cons_succ, List.getElem_toArray, List.getElem_cons_zero, List.getElem_cons_succ]
    refine zqr 14 rfl (fun K hK => ?_)
    refine st_upd rfl 97 (.tmp 9) (.tmp 10) (.tmp 19) rfl rfl rfl rfl hr3 ?_
    refine hK.out _ _ hc3 (fun hH => ?_)
    clear hK K
    refine wpAnyH_done (by kernel_rfl) ?_ _
    have HE : Hid (MI W3 g b base (n + 1) (Ix.add kvs k x) ∧ IFr w W3 (fun q => q = b ∨ Mrow w b q) ∧ (∀ q, Mrow W3 b q → Mrow w b q ∨ w.heap.size ≤ q) ∧ ∀ u zs, Vw w b u zs → Vw W3 b u zs) := ⟨m3, (HM.out _ _ hbx ⟨f3, q3⟩).1, (HM.out _ _ hbx ⟨f3, q3⟩).2, fun u zs hv => u3 u zs (HVK.out _ hbx u zs hv)⟩
    clear m3 f3 q3 u3 hr hr2 hr3 hadd
    simp only [Act.put, List.getElem_toArray, List.getElem_cons_zero, List.getElem_cons_succ]
    go_wp2_with fail
    go_returns
    exact ⟨rfl, HE.out⟩
/-- a key goes: every view stays -/
theorem Vw.drop {w w' : World} {g b base n : Nat} {kvs : Ix.Gm} (h : MI w g b base n kvs) (hf : IFr w w' (fun q => q = b)) (hM : ∀ v, Mval w' b v → Mval w b v) {u : Value} {zs : List Int} (hv : Vw w b u zs) : Vw w' b u zs := by
  refine ⟨Mg.row_block hv.row fun q e => hf.block q (World.ownsRow.lt hv.row q e).2 fun e2 => ?_, fun v hv2 => hv.fit v (hM v hv2)⟩
  subst e2
  obtain ⟨cur, h9⟩ := Mg.row_type hv.row _ e
  obtain ⟨es, clock, hb, -⟩ := h.map
  rw [hb] at h9
  cases h9
end Go.Proofs.Ytceokpklcfmadaa
