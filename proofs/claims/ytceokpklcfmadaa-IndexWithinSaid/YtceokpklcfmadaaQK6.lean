import Derived.RangeFuncWrites
import Derived.Test.YtceokpklcfmadaaQK5
/-
  IndexWithin: does, whatever the act; what an act keeps for a range; a list of acts in memory.
-/
namespace Go.Proofs.Ytceokpklcfmadaa
open Go Go.RowKit Go.ChangeShapes
open Wb

/-- does -/
theorem ixdoes_any (Z gw g b base n mA : Nat) (all : Bool) (lo hi l2 h2 : Int) (nv : Value) (ps : List (Int × Int)) (at_ kd ky vl sp : Int) (w : World) (h : WS Z gw g b base all lo hi n nv ps w) (hZw : Z ≤ w.heap.size) (hn : n < 900000000) (hl : ps.length ≤ 900000) (hk : (Lit.int .i64 ky).wf = true) (hv : (Lit.int .i64 vl).wf = true) (hit : TItB w g mA l2 h2) (hl2 : l2 = if all then -9223372036854775808 else lo) (hh2 : h2 = if all then 9223372036854775807 else hi) :
    Calls Try.prog 42 #[.pointer (some ⟨gw, 0, none⟩), .func (.func 57) #[] #[.pointer (some ⟨mA, 0, none⟩), .pointer (some ⟨mA + 1, 0, none⟩), .pointer (some ⟨mA + 2, 0, none⟩)], .agg #[.int .i64 at_, .int .i64 kd, .int .i64 ky, .int .i64 vl, .int .i64 sp]] w fun e w' => e = .returned (.bool true) ∧ DoPost Z gw g b base all lo hi n ps w w' := by
  by_cases h1 : kd = 1
  · subst h1
    exact ixdoes_add Z gw g b base n all lo hi nv ps _ at_ ky vl sp w h hZw hn hl hk hv
  by_cases h2' : kd = 2
  · subst h2'
    exact ixdoes_drop Z gw g b base n all lo hi nv ps _ at_ ky vl sp w h hZw hn hl hk
  by_cases h3 : kd = 3
  · subst h3
    exact ixdoes_go3 Z gw g b base n mA all lo hi l2 h2 nv ps at_ ky vl sp w h hZw hl hit hl2 hh2
  by_cases h4 : kd = 4
  · subst h4
    exact ixdoes_go4 Z gw g b base n mA all lo hi l2 h2 nv ps at_ ky vl sp w h hZw hl hit hl2 hh2
  exact ixdoes_none Z gw g b base n all lo hi nv ps _ at_ kd ky vl sp w h hZw h1 h2' h3 h4
section
variable {Z gw g b base : Nat} {all : Bool} {lo hi : Int} {n : Nat} {nv : Value} {ps : List (Int × Int)} {W W' : World}
/-- an act keeps what a range reads -/
theorem DF.kpV (h : DF gw b W W') (hs : WS Z gw g b base all lo hi n nv ps W) (fx : Nat → Prop) : Kv.KpV fx 80 b W W' := by
  refine ⟨h.fr.os, h.fr.tape, h.fr.output, h.fr.size, fun k cs t z e h1 h2 _ => (h.fr.block k (Array.getElem?_eq_some_iff.1 e).1 fun e2 => ?_).trans e, fun u zs hu _ => h.vw u zs hu⟩
  rcases e2 with e2 | e2 | e2
  · obtain ⟨es9, clock, hb9, -⟩ := hs.mi.map
    rw [e2, hb9] at e
    cases e
  · obtain ⟨cs2, z2, h4⟩ := hs.mi.rowTI e2
    rw [e] at h4
    simp at h4
    exact h2 h4.2.1
  · have hx := hs.wk.box
    unfold LB at hx
    rw [e2, hx] at e
    simp at e
    exact h1 e.2.1.symm
/-- a box of the range's own is written -/
theorem kpV_set (fx : Nat → Prop) (tb : TypeId) (W : World) (b B : Nat) (v : Value) (h : fx B) (hb : b ≠ B) : Kv.KpV fx tb b W (W.setCell ⟨B, 0, none⟩ v) :=
  ⟨rfl, rfl, rfl, by simp [World.setCell], fun k _ _ _ e _ _ hn => (set_other _ _ _ _ fun e2 : k = B => hn (by rw [e2]; exact h)).trans e, fun _ _ hu hf => ⟨Mg.row_block hu.row fun q e => set_other _ _ _ _ fun e2 : q = B => hf q e (by rw [e2]; exact h), fun v2 hv2 => hu.fit v2 (hv2.same (set_other _ _ _ _ hb))⟩⟩
/-- the iterator's boxes stay -/
theorem DF.itb (h : DF gw b W W') (hs : WS Z gw g b base all lo hi n nv ps W) {mA : Nat} {l2 h2 : Int} (ht : TItB W g mA l2 h2) (hM : ¬ Mrow W b (mA + 1) ∧ ¬ Mrow W b (mA + 2)) : TItB W' g mA l2 h2 := by
  have key : ∀ {q : Nat} {t : TypeId} {D : List Value}, LB W q t D → t ≠ 80 → ¬ Mrow W b q → LB W' q t D := fun {q t D} L ht hn => (h.fr.block q L.lt fun e2 => by
    unfold LB at L
    rcases e2 with e2 | e2 | e2
    · obtain ⟨es9, clock, hb9, -⟩ := hs.mi.map
      rw [e2, hb9] at L
      cases L
    · exact hn e2
    · have hx := hs.wk.box
      unfold LB at hx
      rw [e2, hx] at L
      simp at L
      exact ht L.2.symm).trans L
  refine ⟨key ht.1 (by decide) fun e => ?_, key ht.2.1 (by decide) hM.1, key ht.2.2 (by decide) hM.2⟩
  obtain ⟨cs2, z2, h4⟩ := hs.mi.rowTI e
  have L := ht.1
  unfold LB at L
  rw [L] at h4
  simp at h4
end
/-- an act -/
structure Ac5 where
  at_ : Int
  kd : Int
  ky : Int
  vl : Int
  sp : Int
/-- a list of acts -/
def Ax (w : World) (v : Value) (ss : List Ac5) : Prop := ∃ a c, v = .slice a ss.length c ∧ ss.length ≤ c ∧ c ≤ maxLen ∧ (ss ≠ [] → ∃ b off, a = some ⟨b, off, none⟩ ∧ ∀ j (h : j < ss.length), w.cell? ⟨b, off + j * 5, none⟩ = some (.int .i64 ss[j].at_) ∧ w.cell? ⟨b, off + j * 5 + 1, none⟩ = some (.int .i64 ss[j].kd) ∧ w.cell? ⟨b, off + j * 5 + 2, none⟩ = some (.int .i64 ss[j].ky) ∧ w.cell? ⟨b, off + j * 5 + 3, none⟩ = some (.int .i64 ss[j].vl) ∧ w.cell? ⟨b, off + j * 5 + 4, none⟩ = some (.int .i64 ss[j].sp))
end Go.Proofs.Ytceokpklcfmadaa

/-
  IndexWithin: what its rounds hold.
-/
namespace Go.Proofs.Ytceokpklcfmadaa
open Go Go.RowKit Go.ChangeShapes
open Wb

/-- the acts whose place lies ahead of k -/
def actN (ss : List Ac5) (k : Nat) : Nat := (ss.filter fun a => decide (0 ≤ a.at_ ∧ a.at_ < (k : Int))).length
/-- the acts at k among the first j -/
def actE (ss : List Ac5) (k j : Nat) : Nat := ((ss.take j).filter fun a => decide (a.at_ = (k : Int))).length
theorem actN_le (ss : List Ac5) (k : Nat) : actN ss k ≤ ss.length := List.length_filter_le _ _
theorem actN_succ (ss : List Ac5) (k : Nat) : actN ss (k + 1) = actN ss k + actE ss k ss.length := by
  unfold actN actE
  rw [List.take_length]
  induction ss with
  | nil => rfl
  | cons a r ih =>
    simp only [List.filter_cons]
    by_cases h1 : a.at_ = (k : Int)
    · have e1 : (0 ≤ a.at_ ∧ a.at_ < ((k + 1 : Nat) : Int)) := by omega
      have e2 : ¬ (0 ≤ a.at_ ∧ a.at_ < (k : Int)) := by omega
      simp only [decide_eq_true e1, decide_eq_false e2, decide_eq_true h1, if_true, List.length_cons, ih]
      simp only [Bool.false_eq_true, if_false]
      omega
    · by_cases h2 : 0 ≤ a.at_ ∧ a.at_ < (k : Int)
      · have e1 : (0 ≤ a.at_ ∧ a.at_ < ((k + 1 : Nat) : Int)) := by omega
        simp only [decide_eq_true e1, decide_eq_true h2, decide_eq_false h1, if_true, List.length_cons, ih]
        simp only [Bool.false_eq_true, if_false]
        omega
      · have e1 : ¬ (0 ≤ a.at_ ∧ a.at_ < ((k + 1 : Nat) : Int)) := by omega
        simp only [decide_eq_false e1, decide_eq_false h2, decide_eq_false h1]
        simp only [Bool.false_eq_true, if_false]
        exact ih
theorem actE_succ (ss : List Ac5) (k j : Nat) (hj : j < ss.length) : actE ss k (j + 1) = actE ss k j + if ss[j].at_ = (k : Int) then 1 else 0 := by
  unfold actE
  rw [List.take_succ_eq_append_getElem hj, List.filter_append, List.length_append]
  by_cases h : ss[j].at_ = (k : Int) <;> simp [h]
/-- what stands in memory through all rounds -/
structure MW (w : World) (B10 B11 B12 B13 B14 gw g b base mA : Nat) (all : Bool) (lo hi l2 h2 stop : Int) (av fv : Value) (n : Nat) (nv : Value) (ps : List (Int × Int)) (W : World) : Prop where
  bel : Below w.heap.size w W
  ws : WS w.heap.size gw g b base all lo hi n nv ps W
  acts : LB W B10 76 [av]
  stp : LB W B11 3 [.int .i64 stop]
  res : LB W B12 4 [.bool false]
  wp : LB W B13 77 [.pointer (some ⟨gw, 0, none⟩)]
  itb : LB W B14 58 [fv]
  it : TItB W g mA l2 h2
  nm : ∀ q, q = B11 ∨ q = mA + 1 ∨ q = mA + 2 → ¬ Mrow W b q
  r12 : w.heap.size ≤ B12
section
variable {w : World} {B10 B11 B12 B13 B14 gw g b base mA : Nat} {all : Bool} {lo hi l2 h2 stop : Int} {av fv : Value} {n n' : Nat} {nv nv' : Value} {ps ps' : List (Int × Int)} {W W' : World} {Z : Nat}
/-- the container, the Walk and the list stay where none of their blocks changes -/
theorem WS.any (h : WS Z gw g b base all lo hi n nv ps W) (hs : W.heap.size ≤ W'.heap.size) (hf : ∀ q, q < W.heap.size → (q = g ∨ q = b ∨ q = gw ∨ Mrow W b q ∨ q < Z ∨ ∃ cs z, W.heap[q]? = some (.cells cs 54 z)) → W'.heap[q]? = W.heap[q]?) : WS Z gw g b base all lo hi n nv ps W' := by
  have kb := hf b h.mi.blt.2 (.inr (.inl rfl))
  have key : ∀ a n c, nv = .slice (some a) n c → ps ≠ [] → W'.heap[a.block]? = W.heap[a.block]? := fun a n c e hne => by
    refine hf _ (h.wk.pr.lt e hne) ?_
    rcases h.nt a n c e hne with h9 | h9
    · exact .inr (.inr (.inr (.inr (.inr h9))))
    · exact .inr (.inr (.inr (.inr (.inl h9))))
  refine ⟨h.mi.off hs (hf g h.mi.box.lt (.inl rfl)) kb fun k hk => hf k (h.mi.row hk).2 (.inr (.inr (.inr (.inl hk)))), ⟨(hf gw h.wk.box.lt (.inr (.inr (.inl rfl)))).trans h.wk.box, h.wk.pr.blk key⟩, h.wf, h.zb, h.zg, fun q hq => h.zr q (hq.same kb), fun a n c e hne => ?_⟩
  rw [key a n c e hne]
  exact h.nt a n c e hne
/-- another block is written -/
theorem MW.grown (h : MW w B10 B11 B12 B13 B14 gw g b base mA all lo hi l2 h2 stop av fv n nv ps W) {row : Option Nat} (hg : W.grownBy W' row) (hr : ∀ r, row = some r → w.heap.size ≤ r ∧ r ≠ b ∧ ¬ Mrow W b r ∧ (∀ cs t z, W.heap[r]? = some (.cells cs t z) → t = 3 ∨ t = 4) ∧ r ≠ B11 ∧ r ≠ B12 ∧ r ≠ mA + 1 ∧ r ≠ mA + 2) : MW w B10 B11 B12 B13 B14 gw g b base mA all lo hi l2 h2 stop av fv n nv ps W' := by
  have far : ∀ {q : Nat} {t : TypeId} {D : List Value}, LB W q t D → t ≠ 3 → t ≠ 4 → row ≠ some q := fun {q t D} L h1 h2 e => by
    unfold LB at L
    rcases (hr q e).2.2.2.1 _ _ _ L with e2 | e2
    · exact h1 e2
    · exact h2 e2
  have keep : ∀ {q : Nat} {t : TypeId} {D : List Value}, LB W q t D → t ≠ 3 → t ≠ 4 → LB W' q t D := fun {q t D} L h1 h2 => L.other' hg (far L h1 h2)
  have kb : W'.heap[b]? = W.heap[b]? := hg.block b h.ws.mi.blt.2 fun e => (hr b e.symm).2.1 rfl
  refine ⟨h.bel.grown hg h.bel.size fun k e => (hr k e).1, h.ws.any hg.size fun q hq hk => hg.block q hq fun e => ?_, keep h.acts (by decide) (by decide), h.stp.other' hg fun e => (hr _ e).2.2.2.2.1 rfl, h.res.other' hg fun e => (hr _ e).2.2.2.2.2.1 rfl, keep h.wp (by decide) (by decide), keep h.itb (by decide) (by decide), ⟨keep h.it.1 (by decide) (by decide), h.it.2.1.other' hg fun e => (hr _ e).2.2.2.2.2.2.1 rfl, h.it.2.2.other' hg fun e => (hr _ e).2.2.2.2.2.2.2 rfl⟩, fun q hq hm => h.nm q hq (hm.same kb), h.r12⟩
  have h9 := hr q e.symm
  rcases hk with e1 | e1 | e1 | e1 | e1 | ⟨cs, z, e1⟩
  · exact far h.ws.mi.box (by decide) (by decide) (by rw [← e1]; exact e.symm)
  · exact h9.2.1 e1
  · exact far h.ws.wk.box (by decide) (by decide) (by rw [← e1]; exact e.symm)
  · exact h9.2.2.1 e1
  · have := h9.1
    omega
  · rcases h9.2.2.2.1 _ _ _ e1 with e2 | e2
    · exact absurd e2 (by decide)
    · exact absurd e2 (by decide)
theorem MW.kept (h : MW w B10 B11 B12 B13 B14 gw g b base mA all lo hi l2 h2 stop av fv n nv ps W) (hb : Below W.heap.size W W') : MW w B10 B11 B12 B13 B14 gw g b base mA all lo hi l2 h2 stop av fv n nv ps W' := h.grown (grown_none hb none) fun r e => by cases e
/-- an act is done -/
theorem MW.df (h : MW w B10 B11 B12 B13 B14 gw g b base mA all lo hi l2 h2 stop av fv n nv ps W) (hd : DF gw b W W') (hw : WS w.heap.size gw g b base all lo hi n' nv' ps' W') : MW w B10 B11 B12 B13 B14 gw g b base mA all lo hi l2 h2 stop av fv n' nv' ps' W' := by
  have keep : ∀ {q : Nat} {t : TypeId} {D : List Value}, LB W q t D → t ≠ 80 → ¬ Mrow W b q → LB W' q t D := fun {q t D} L ht hn => (hd.fr.block q L.lt fun e2 => by
    unfold LB at L
    rcases e2 with e2 | e2 | e2
    · obtain ⟨es9, clock, hb9, -⟩ := h.ws.mi.map
      rw [e2, hb9] at L
      cases L
    · exact hn e2
    · have hx := h.ws.wk.box
      unfold LB at hx
      rw [e2, hx] at L
      simp at L
      exact ht L.2.symm).trans L
  have nrow : ∀ {q : Nat} {t : TypeId} {D : List Value}, LB W q t D → t ≠ 3 → ¬ Mrow W b q := fun {q t D} L ht e => by
    obtain ⟨cs2, z2, h4⟩ := h.ws.mi.rowTI e
    unfold LB at L
    rw [L] at h4
    simp at h4
    exact ht h4.2.1
  have nlt : ∀ q, q = B11 ∨ q = mA + 1 ∨ q = mA + 2 → q < W.heap.size := fun q hq => by
    rcases hq with rfl | rfl | rfl
    · exact h.stp.lt
    · exact h.it.2.1.lt
    · exact h.it.2.2.lt
  refine ⟨⟨hd.fr.os.trans h.bel.os, hd.fr.tape.trans h.bel.tape, hd.fr.output.trans h.bel.output, Nat.le_trans h.bel.size hd.fr.size, fun k hk => (hd.fr.block k (Nat.lt_of_lt_of_le hk h.bel.size) fun e => ?_).trans (h.bel.block k hk)⟩, hw, keep h.acts (by decide) (nrow h.acts (by decide)), keep h.stp (by decide) (h.nm _ (.inl rfl)), keep h.res (by decide) (nrow h.res (by decide)), keep h.wp (by decide) (nrow h.wp (by decide)), keep h.itb (by decide) (nrow h.itb (by decide)), hd.itb h.ws h.it ⟨h.nm _ (.inr (.inl rfl)), h.nm _ (.inr (.inr rfl))⟩, fun q hq hm => ?_, h.r12⟩
  · rcases e with e | e | e
    · have := h.ws.zb
      omega
    · have := h.ws.zr _ e
      omega
    · have := h.ws.zg
      omega
  · rcases hd.mr q hm with e | e
    · exact h.nm q hq e
    · have := nlt q hq
      omega
end
end Go.Proofs.Ytceokpklcfmadaa

/-
  IndexWithin: a round's boxes; what a range within it keeps.
-/
namespace Go.Proofs.Ytceokpklcfmadaa
open Go Go.RowKit Go.ChangeShapes
open Wb

/-- what stands in memory in a round -/
structure MR (w : World) (B10 B11 B12 B13 B14 gw g b base mA : Nat) (all : Bool) (lo hi l2 h2 stop : Int) (av fv : Value) (B16 B17 B18 : Nat) (wv : Value) (wl : List (Int × Int)) (cnt : Int) (lf : Bool) (Ds : List Nat) (n : Nat) (nv : Value) (ps : List (Int × Int)) (W : World) : Prop where
  mw : MW w B10 B11 B12 B13 B14 gw g b base mA all lo hi l2 h2 stop av fv n nv ps W
  wbx : LB W B16 55 [wv]
  row : W.ownsRow w.heap.size 54 2 wv wl.length (wl.flatMap enP)
  ctr : LB W B17 3 [.int .i64 cnt]
  lft : LB W B18 4 [.bool lf]
  nc : ¬ Mrow W b B17
  r17 : w.heap.size ≤ B17
  r18 : w.heap.size ≤ B18
  ne : B17 ≠ B11 ∧ B17 ≠ mA + 1 ∧ B17 ≠ mA + 2 ∧ B18 ≠ B12
  dm : ∀ D ∈ Ds, W.heap[D]? = some (.deferred (some []))
section
variable {w : World} {B10 B11 B12 B13 B14 gw g b base mA : Nat} {all : Bool} {lo hi l2 h2 stop : Int} {av fv : Value} {B16 B17 B18 : Nat} {wv : Value} {wl : List (Int × Int)} {cnt : Int} {lf : Bool} {Ds : List Nat} {n n' : Nat} {nv nv' : Value} {ps ps' : List (Int × Int)} {W W' : World}
theorem MR.grown (h : MR w B10 B11 B12 B13 B14 gw g b base mA all lo hi l2 h2 stop av fv B16 B17 B18 wv wl cnt lf Ds n nv ps W) {row : Option Nat} (hg : W.grownBy W' row) (hr : ∀ r, row = some r → w.heap.size ≤ r ∧ r ≠ b ∧ ¬ Mrow W b r ∧ (∀ cs t z, W.heap[r]? = some (.cells cs t z) → t = 3 ∨ t = 4) ∧ r ≠ B11 ∧ r ≠ B12 ∧ r ≠ mA + 1 ∧ r ≠ mA + 2) (h17 : LB W' B17 3 [.int .i64 cnt]) (h18 : LB W' B18 4 [.bool lf]) (hd : ∀ D ∈ Ds, row ≠ some D) : MR w B10 B11 B12 B13 B14 gw g b base mA all lo hi l2 h2 stop av fv B16 B17 B18 wv wl cnt lf Ds n nv ps W' := by
  have kb : W'.heap[b]? = W.heap[b]? := hg.block b h.mw.ws.mi.blt.2 fun e => (hr b e.symm).2.1 rfl
  refine ⟨h.mw.grown hg hr, h.wbx.other' hg fun e => ?_, Mg.row_other h.row hg fun q hq e => ?_, h17, h18, fun e => h.nc (e.same kb), h.r17, h.r18, h.ne, fun D hD => (hg.block D (Array.getElem?_eq_some_iff.1 (h.dm D hD)).1 fun e => hd D hD e.symm).trans (h.dm D hD)⟩
  · have L := h.wbx
    unfold LB at L
    rcases (hr _ e).2.2.2.1 _ _ _ L with e2 | e2
    · exact absurd e2 (by decide)
    · exact absurd e2 (by decide)
  · obtain ⟨cur, h9⟩ := Mg.row_type h.row q hq
    rcases (hr _ e).2.2.2.1 _ _ _ h9 with e2 | e2
    · exact absurd e2 (by decide)
    · exact absurd e2 (by decide)
theorem MR.kept (h : MR w B10 B11 B12 B13 B14 gw g b base mA all lo hi l2 h2 stop av fv B16 B17 B18 wv wl cnt lf Ds n nv ps W) (hb : Below W.heap.size W W') : MR w B10 B11 B12 B13 B14 gw g b base mA all lo hi l2 h2 stop av fv B16 B17 B18 wv wl cnt lf Ds n nv ps W' := h.grown (grown_none hb none) (fun r e => by cases e) (h.ctr.kept hb) (h.lft.kept hb) fun D _ e => by cases e
theorem MR.nonc (h : MR w B10 B11 B12 B13 B14 gw g b base mA all lo hi l2 h2 stop av fv B16 B17 B18 wv wl cnt lf Ds n nv ps W) {Z : Nat} (hZ : b < Z) (hw : w.heap.size ≤ Z) (hD : ∀ D ∈ Ds, D < Z) {row : Option Nat} (hg : W.grownBy W' row) (hr : ∀ r, row = some r → Z ≤ r ∧ ∃ o : Obj, W.heap[r]? = some o ∧ o.isCells = false) : MR w B10 B11 B12 B13 B14 gw g b base mA all lo hi l2 h2 stop av fv B16 B17 B18 wv wl cnt lf Ds n nv ps W' := by
  have hr2 : ∀ r, row = some r → ∃ o : Obj, W.heap[r]? = some o ∧ o.isCells = false := fun r e => (hr r e).2
  have nc : ∀ r, row = some r → ∀ cs t z, W.heap[r]? ≠ some (.cells cs t z) := fun r e cs t z e2 => by
    obtain ⟨o, h1, h2⟩ := hr2 r e
    rw [e2] at h1
    obtain rfl := Option.some.inj h1
    cases h2
  refine h.grown hg (fun r e => ⟨Nat.le_trans hw (hr r e).1, ?_, fun e2 => ?_, fun cs t z e2 => absurd e2 (nc r e cs t z), ?_, ?_, ?_, ?_⟩) (lb_nonc h.ctr hg hr2) (lb_nonc h.lft hg hr2) fun D hD2 e => ?_
  · have := (hr r e).1
    omega
  · obtain ⟨cs2, z2, h4⟩ := h.mw.ws.mi.rowTI e2
    exact nc r e _ _ _ h4
  · rintro rfl
    exact nc _ e _ _ _ h.mw.stp
  · rintro rfl
    exact nc _ e _ _ _ h.mw.res
  · rintro rfl
    exact nc _ e _ _ _ h.mw.it.2.1
  · rintro rfl
    exact nc _ e _ _ _ h.mw.it.2.2
  · have := (hr D e).1
    have := hD D hD2
    omega
theorem grownBy_set (W : World) (B o : Nat) (v : Value) : W.grownBy (W.setCell ⟨B, o, none⟩ v) (some B) := ⟨rfl, rfl, rfl, by simp [World.setCell], fun i _ hi => set_other _ _ _ _ fun e => hi (by rw [e])⟩
theorem MR.apart (h : MR w B10 B11 B12 B13 B14 gw g b base mA all lo hi l2 h2 stop av fv B16 B17 B18 wv wl cnt lf Ds n nv ps W) {B : Nat} {t : TypeId} {D : List Value} (L : LB W B t D) : B ≠ b ∧ ∀ D ∈ Ds, (some B : Option Nat) ≠ some D := by
  refine ⟨fun e => ?_, fun D hD e => ?_⟩
  · obtain ⟨es9, clock, hb9, -⟩ := h.mw.ws.mi.map
    unfold LB at L
    rw [e, hb9] at L
    cases L
  · have h9 := h.dm D hD
    unfold LB at L
    rw [← Option.some.inj e, L] at h9
    cases h9
/-- the counter is written -/
theorem MR.count (h : MR w B10 B11 B12 B13 B14 gw g b base mA all lo hi l2 h2 stop av fv B16 B17 B18 wv wl cnt lf Ds n nv ps W) (y : Int) : MR w B10 B11 B12 B13 B14 gw g b base mA all lo hi l2 h2 stop av fv B16 B17 B18 wv wl y lf Ds n nv ps (W.setCell ⟨B17, 0, none⟩ (.int .i64 y)) := by
  have L := h.ctr
  have h9 := h.apart L
  have h0 : MR w B10 B11 B12 B13 B14 gw g b base mA all lo hi l2 h2 stop av fv B16 B17 B18 wv wl cnt lf Ds n nv ps W := h
  have ne12 : B17 ≠ B12 := fun e => by
    have L2 := h.mw.res
    unfold LB at L L2
    rw [e, L2] at L
    simp at L
  have ne18 : B18 ≠ B17 := fun e => by
    have L2 := h.lft
    unfold LB at L L2
    rw [e, L] at L2
    simp at L2
  have hm := h.mw.grown (grownBy_set W B17 0 (.int .i64 y)) fun r e => by
    obtain rfl := Option.some.inj e
    exact ⟨h.r17, h9.1, h.nc, fun cs t z e2 => by unfold LB at L; rw [L] at e2; simp at e2; exact .inl e2.2.1.symm, h.ne.1, ne12, h.ne.2.1, h.ne.2.2.1⟩
  have kb : (W.setCell ⟨B17, 0, none⟩ (.int .i64 y)).heap[b]? = W.heap[b]? := set_other _ _ _ _ (Ne.symm h9.1)
  have far : ∀ {q : Nat} {t : TypeId} {D : List Value}, LB W q t D → t ≠ 3 → LB (W.setCell ⟨B17, 0, none⟩ (.int .i64 y)) q t D := fun {q t D} Lq ht => (show _ = _ from set_other _ _ _ _ fun e => by
    subst e
    unfold LB at L Lq
    rw [L] at Lq
    simp at Lq
    exact ht Lq.2.symm).trans Lq
  refine ⟨hm, far h.wbx (by decide), Mg.row_block h.row fun q e => set_other _ _ _ _ fun e2 => ?_, L.set 0 _, far h.lft (by decide), fun e => h.nc (e.same kb), h.r17, h.r18, h.ne, fun D hD => (show _ = _ from set_other _ _ _ _ fun e => h9.2 D hD (by rw [e])).trans (h.dm D hD)⟩
  subst e2
  obtain ⟨cur, h9⟩ := Mg.row_type h.row _ e
  unfold LB at L
  rw [L] at h9
  simp at h9
/-- the mark is written -/
theorem MR.leave (h : MR w B10 B11 B12 B13 B14 gw g b base mA all lo hi l2 h2 stop av fv B16 B17 B18 wv wl cnt lf Ds n nv ps W) (y : Bool) : MR w B10 B11 B12 B13 B14 gw g b base mA all lo hi l2 h2 stop av fv B16 B17 B18 wv wl cnt y Ds n nv ps (W.setCell ⟨B18, 0, none⟩ (.bool y)) := by
  have L := h.lft
  have h9 := h.apart L
  have kind : ∀ {q : Nat} {t : TypeId} {D : List Value}, LB W q t D → t ≠ 4 → q ≠ B18 := fun {q t D} Lq ht e => by
    subst e
    unfold LB at L Lq
    rw [L] at Lq
    simp at Lq
    exact ht Lq.2.symm
  have far : ∀ {q : Nat} {t : TypeId} {D : List Value}, LB W q t D → t ≠ 4 → LB (W.setCell ⟨B18, 0, none⟩ (.bool y)) q t D := fun {q t D} Lq ht => (show _ = _ from set_other _ _ _ _ (kind Lq ht)).trans Lq
  have nr : ¬ Mrow W b B18 := fun e => by
    obtain ⟨cs2, z2, h4⟩ := h.mw.ws.mi.rowTI e
    unfold LB at L
    rw [L] at h4
    simp at h4
  have hm := h.mw.grown (grownBy_set W B18 0 (.bool y)) fun r e => by
    obtain rfl := Option.some.inj e
    exact ⟨h.r18, h9.1, nr, fun cs t z e2 => by unfold LB at L; rw [L] at e2; simp at e2; exact .inr e2.2.1.symm, Ne.symm (kind h.mw.stp (by decide)), h.ne.2.2.2, Ne.symm (kind h.mw.it.2.1 (by decide)), Ne.symm (kind h.mw.it.2.2 (by decide))⟩
  have kb : (W.setCell ⟨B18, 0, none⟩ (.bool y)).heap[b]? = W.heap[b]? := set_other _ _ _ _ (Ne.symm h9.1)
  refine ⟨hm, far h.wbx (by decide), Mg.row_block h.row fun q e => set_other _ _ _ _ fun e2 => ?_, far h.ctr (by decide), L.set 0 _, fun e => h.nc (e.same kb), h.r17, h.r18, h.ne, fun D hD => (show _ = _ from set_other _ _ _ _ fun e => h9.2 D hD (by rw [e])).trans (h.dm D hD)⟩
  subst e2
  obtain ⟨cur, h9⟩ := Mg.row_type h.row _ e
  unfold LB at L
  rw [L] at h9
  simp at h9
/-- an act is done -/
theorem MR.df (h : MR w B10 B11 B12 B13 B14 gw g b base mA all lo hi l2 h2 stop av fv B16 B17 B18 wv wl cnt lf Ds n nv ps W) (hd : DF gw b W W') (hw : WS w.heap.size gw g b base all lo hi n' nv' ps' W') : MR w B10 B11 B12 B13 B14 gw g b base mA all lo hi l2 h2 stop av fv B16 B17 B18 wv wl cnt lf Ds n' nv' ps' W' := by
  have blk : ∀ q, q < W.heap.size → (∀ es c, W.heap[q]? ≠ some (.map es c)) → ¬ Mrow W b q → (∀ cs z, W.heap[q]? ≠ some (.cells cs 80 z)) → W'.heap[q]? = W.heap[q]? := fun q hq h1 h2 h3 => hd.fr.block q hq fun e2 => by
    rcases e2 with e2 | e2 | e2
    · obtain ⟨es9, clock, hb9, -⟩ := h.mw.ws.mi.map
      exact h1 _ _ (by rw [e2]; exact hb9)
    · exact h2 e2
    · exact h3 _ _ (by rw [e2]; exact h.mw.ws.wk.box)
  have nrow : ∀ {q : Nat} {cs : Array Value} {t : TypeId} {z : Nat × Nat}, W.heap[q]? = some (.cells cs t z) → t ≠ 3 → ¬ Mrow W b q := fun {q cs t z} L ht e => by
    obtain ⟨cs2, z2, h4⟩ := h.mw.ws.mi.rowTI e
    rw [L] at h4
    simp at h4
    exact ht h4.2.1
  have keep : ∀ {q : Nat} {t : TypeId} {D : List Value}, LB W q t D → t ≠ 80 → ¬ Mrow W b q → LB W' q t D := fun {q t D} L ht hn => (blk q L.lt (fun es c e => by unfold LB at L; rw [L] at e; cases e) hn (fun cs z e => by unfold LB at L; rw [L] at e; simp at e; exact ht e.2.1)).trans L
  refine ⟨h.mw.df hd hw, keep h.wbx (by decide) (nrow h.wbx (by decide)), Mg.row_block h.row fun q e => ?_, keep h.ctr (by decide) h.nc, keep h.lft (by decide) (nrow h.lft (by decide)), fun e => ?_, h.r17, h.r18, h.ne, fun D hD => ?_⟩
  · obtain ⟨cur, h9⟩ := Mg.row_type h.row q e
    exact blk q (World.ownsRow.lt h.row q e).2 (fun es c e => by rw [h9] at e; cases e) (nrow h9 (by decide)) fun cs z e => by rw [h9] at e; simp at e
  · rcases hd.mr _ e with e2 | e2
    · exact h.nc e2
    · have := h.ctr.lt
      omega
  · have h9 := h.dm D hD
    refine (blk D (Array.getElem?_eq_some_iff.1 h9).1 (fun es c e => by rw [h9] at e; cases e) (fun e => ?_) (fun cs z e => by rw [h9] at e; cases e)).trans h9
    obtain ⟨cs2, z2, h4⟩ := h.mw.ws.mi.rowTI e
    rw [h9] at h4
    cases h4
/-- the pair at a place of the wanted list -/
theorem MR.at (h : MR w B10 B11 B12 B13 B14 gw g b base mA all lo hi l2 h2 stop av fv B16 B17 B18 wv wl cnt lf Ds n nv ps W) (j : Nat) (hj : j < wl.length) : ∃ q, ∃ c : Nat, wv = .slice (some ⟨q, 0, none⟩) wl.length c ∧ W.cell? ⟨q, j * 2, none⟩ = some (.int .i64 wl[j].1) ∧ W.cell? ⟨q, j * 2 + 1, none⟩ = some (.int .i64 wl[j].2) := by
  rcases h.row.2 with ⟨e, e0⟩ | ⟨q, c, cur, e, -⟩
  · omega
  · have hr := h.row
    subst e
    obtain ⟨f0, f1⟩ := flat_at wl j hj
    have c0 := World.ownsRow.cellAt hr (j * 2) (by omega)
    have c1 := World.ownsRow.cellAt hr (j * 2 + 1) (by omega)
    rw [f0] at c0
    rw [f1] at c1
    exact ⟨q, c, rfl, c0, c1⟩
/-- an act changes nothing that is no cells from B on -/
theorem DF.keeps (h : DF gw b W W') {B : Nat} (hb : b < B) (hs : WS w.heap.size gw g b base all lo hi n nv ps W) : KeepsFrom B W W' := by
  refine ⟨h.fr.size, fun k o hB hk ho => (h.fr.block k (Array.getElem?_eq_some_iff.1 hk).1 fun e => ?_).trans hk⟩
  rcases e with e | e | e
  · omega
  · obtain ⟨cs2, z2, h4⟩ := hs.mi.rowTI e
    rw [hk] at h4
    obtain rfl := Option.some.inj h4
    cases ho
  · have hx := hs.wk.box
    unfold LB at hx
    rw [e, hx] at hk
    obtain rfl := Option.some.inj hk
    cases ho
end
end Go.Proofs.Ytceokpklcfmadaa

/-
  IndexWithin: a range that is left by break, or ends: both go on at one place.
-/
namespace Go.Proofs.Ytceokpklcfmadaa
open Go Go.RowKit Go.ChangeShapes
open Wb

theorem rangeG_both {F : Fence} {n : Nat} {P : Program} {α : Type} {g : Operand} {ps : Array Tmp} {assign body : Code} {id : Nat} {Q0 : Exit → Act → World → Prop} {a : Act} {w : World}
    (hro : F.round = none) (h1 : 1 ≤ n) {gf : Nat} {lb : Array Value} (hg : a.eval g = .func (.func gf) #[] lb) (hFg : F.fn gf) (eg : ∀ args w, (callFunc gf args).run P w = .ok (.enter gf args) w)
    {encs : α → Array Value} {Kp : World → World → Prop} {S Sp : List α → Prop} {N : Nat} {w0 : World} (hseq : SeqStopsK F (n - 1) P gf lb encs Kp S Sp N w0)
    (hKt : ∀ {A B C : World}, Kp A B → Kp B C → Kp A C) (hKb : ∀ (W : World) (l : Nat) (o o' : Obj), w.heap.size ≤ l → W.heap[l]? = some o → o.isCells = false → o.isWalk = false → Kp W (W.putObj l o')) (hb0 : Below w0.heap.size w0 w) (hps : ∀ x, (encs x).size = ps.size)
    (I : List α → World → Prop) (Ix : Code → List α → World → Prop) (hI : OwnFrom w.heap.size I) (hIx : ∀ c, OwnFrom w.heap.size (Ix c)) (h0 : I [] w) (a₁ : α → Act)
    (hassign : ∀ (l : Nat) (x : α) (W : World) (K : Act → World → Prop), K (a₁ x) W →
      assign.wpIn (F.inRound l) (n - 1 - 1) P (Exit.then K (fun _ _ _ => False)) { tmps := (ps.zip (encs x)).foldl (fun t (p, v) => t.setIfInBounds p v) a.tmps, defers := [] } W)
    (hbody : ∀ (l : Nat) (pre : List α) (x : α) (W : World), I pre W → pre.length < N → body.wpIn (F.inRound l) (n - 1 - 1) P (ownPostG w.heap.size Kp I Ix (pre ++ [x]) W) (a₁ x) W)
    (hc : ∀ c pre W, Sp pre → Ix c pre W → c = .exit id)
    (hboth : ∀ (D : Nat) (W : World), w.heap.size ≤ D → ((∃ xs, S xs ∧ I xs W) ∨ ∃ pre, Sp pre ∧ Ix (.exit id) pre W) → W.heap[D]? = some (.deferred (some [])) → Q0 .normal { a with defers := { target := .collected D, args := #[] } :: a.defers } W) :
    (Code.rangeFunc g ps assign body).wpIn F n P (Exit.inBlock id Q0) a w := by
  refine wpIn_rangeFunc_ownG hro h1 hg hFg eg hseq (fun h k => hKt h k) hKb hb0 hps I Ix hI hIx h0 a₁ hassign hbody (fun D xs W hD hS hi hK => hboth D W hD (.inl ⟨xs, hS, hi⟩) hK) fun D c pre W hD hS hx hK => ?_
  obtain rfl := hc c pre W hS hx
  refine wpIn_exit ?_
  have h9 := hboth D W hD (.inr ⟨pre, hS, hx⟩) hK
  simpa [Exit.inBlock] using h9
/-- a list of pairs lies in no box -/
theorem Pr.notbox {W : World} {v : Value} {ps : List (Int × Int)} (h : Pr W v ps) {B : Nat} {t : TypeId} {x : Value} (L : LB W B t [x]) {a : Addr} {k c : Nat} (e : v = .slice (some a) k c) (hne : ps ≠ []) : a.block ≠ B := by
  obtain ⟨a', c', e2, -, -, hc⟩ := h
  obtain ⟨bb, off, e3, hcell⟩ := hc hne
  rw [e2] at e
  simp only [Value.slice.injEq] at e
  rw [e3] at e
  obtain rfl := Option.some.inj e.1
  intro e4
  have h1 := (hcell 0 (List.length_pos_iff.2 hne)).2
  simp only at e4
  subst e4
  unfold LB at L
  simp [World.cell?, L] at h1
/-- a piece of code by what it leaves -/
theorem wpIn_cut {F : Fence} {n : Nat} {P : Program} {c : Code} {Q : Exit → Act → World → Prop} {a : Act} {w : World} (R : Act → World → Prop) (h1 : c.wpIn F n P (fun e a' w' => e = .normal ∧ R a' w') a w) (h2 : ∀ a' w', R a' w' → Q .normal a' w') : c.wpIn F n P Q a w :=
  Code.wpIn_mono (fun e a' w' h => by obtain ⟨rfl, h⟩ := h; exact h2 a' w' h) h1
/-- what stands in memory ahead of the rounds -/
theorem MW.start {w W1 W2 W3 W4 : World} {B10 B11 B12 B13 gw g b base : Nat} {all : Bool} {lo hi stop : Int} {av av' nv : Value} {ps : List (Int × Int)} (_h10 : w.heap.size ≤ B10) (s1 : W1.heap.size = w.heap.size + 3) (e10 : B10 = w.heap.size) (e11 : B11 = w.heap.size + 1) (e12 : B12 = w.heap.size + 2) (L10 : LB W1 B10 76 [av]) (L11 : LB W1 B11 3 [.int .i64 stop]) (L12 : LB W1 B12 4 [.bool false]) (b1 : Below w.heap.size w W1) (p1 : Pr W1 nv ps) (hw : ∀ p ∈ ps, (Lit.int .i64 p.1).wf = true ∧ (Lit.int .i64 p.2).wf = true) (m2 : MI W2 g b base ps.length (Ix.gml ps)) (b2 : Below W1.heap.size W1 W2) (z2 : W1.heap.size ≤ b) (hr : ∀ q, Mrow W2 b q → W1.heap.size ≤ q) (hgw : gw = W2.heap.size) (hB13 : B13 = gw + 1) (Lg : LB W3 gw 80 [.pointer (some ⟨g, 0, none⟩), .bool all, .int .i64 lo, .int .i64 hi, nv]) (L13 : LB W3 B13 77 [.pointer (some ⟨gw, 0, none⟩)]) (b3 : Below W2.heap.size W2 W3) (_L4 : LB W4 B10 76 [av']) (hs : W3.heap.size ≤ W4.heap.size) (ho : W4.os = W3.os ∧ W4.tape = W3.tape ∧ W4.output = W3.output) (hf : ∀ q, q ≠ B10 → W4.heap[q]? = W3.heap[q]?) :
    Below w.heap.size w W4 ∧ WS w.heap.size gw g b base all lo hi ps.length nv ps W4 ∧ LB W4 B11 3 [.int .i64 stop] ∧ LB W4 B12 4 [.bool false] ∧ LB W4 B13 77 [.pointer (some ⟨gw, 0, none⟩)] ∧ (∀ q, Mrow W4 b q → W1.heap.size ≤ q ∧ q < W2.heap.size) := by
  have m3 := m2.kept b3
  have p3 := (p1.kept b2).kept b3
  have sz12 := b2.size
  have sz23 := b3.size
  have blt := m2.blt.2
  have nb : b ≠ B10 := by omega
  have hrow : ∀ q, Mrow W3 b q → W1.heap.size ≤ q ∧ q < W2.heap.size := fun q hq => by
    have h9 := hq.same (b3.block b blt)
    exact ⟨hr q h9, (m2.row h9).2⟩
  have hg : g < W2.heap.size := m2.box.lt
  have L3 := (L10.kept b2).kept b3
  have ng : g ≠ B10 := fun e => by
    have hx := m3.box
    unfold LB at hx L3
    rw [e, L3] at hx
    simp at hx
  have key : ∀ a k c, nv = .slice (some a) k c → ps ≠ [] → a.block ≠ B10 ∧ a.block < w.heap.size := fun a k c e hne => by
    have h0 := p1.notbox L10 e hne
    have h1 := p1.notbox L11 e hne
    have h2 := p1.notbox L12 e hne
    have h3 := p1.lt e hne
    exact ⟨h0, by omega⟩
  have lift : ∀ {q : Nat} {t : TypeId} {D : List Value}, LB W3 q t D → q ≠ B10 → LB W4 q t D := fun {q t D} L hne => (show _ = _ from hf q hne).trans L
  refine ⟨⟨ho.1.trans (b3.os.trans (b2.os.trans b1.os)), ho.2.1.trans (b3.tape.trans (b2.tape.trans b1.tape)), ho.2.2.trans (b3.output.trans (b2.output.trans b1.output)), by have := b1.size; omega, fun k hk => (hf k (by omega)).trans ((b3.block k (by omega)).trans ((b2.block k (by omega)).trans (b1.block k hk)))⟩, ⟨m3.off hs (hf g ng) (hf b nb) fun k hk => hf k (by have := hrow k hk; omega), ⟨lift Lg (by omega), p3.blk fun a k c e hne => hf _ (key a k c e hne).1⟩, hw, by omega, by omega, fun q hq => by have := hrow q (hq.same (hf b nb)); omega, fun a k c e hne => .inr (key a k c e hne).2⟩, lift ((L11.kept b2).kept b3) (by omega), lift ((L12.kept b2).kept b3) (by omega), lift L13 (by omega), fun q hq => hrow q (hq.same (hf b nb))⟩
/-- what stands in memory as a round begins -/
theorem MR.start {w : World} {B10 B11 B12 B13 B14 gw g b base mA : Nat} {all : Bool} {lo hi l2 h2 stop : Int} {av fv : Value} {B16 B17 B18 : Nat} {wv : Value} {wl : List (Int × Int)} {Ds : List Nat} {n : Nat} {nv : Value} {ps : List (Int × Int)} {W U V : World} (h : MW w B10 B11 B12 B13 B14 gw g b base mA all lo hi l2 h2 stop av fv n nv ps W) (u : Below W.heap.size W U) (r : U.ownsRow W.heap.size 54 2 wv wl.length (wl.flatMap enP)) (hD : ∀ D ∈ Ds, W.heap[D]? = some (.deferred (some []))) (e : V = ((U.alloc (.cells #[wv] 55)).alloc (.cells #[.int .i64 0] 3)).alloc (.cells #[.bool false] 4)) (e16 : B16 = U.heap.size) (e17 : B17 = U.heap.size + 1) (e18 : B18 = U.heap.size + 2) : MR w B10 B11 B12 B13 B14 gw g b base mA all lo hi l2 h2 stop av fv B16 B17 B18 wv wl 0 false Ds n nv ps V := by
  have hb : Below U.heap.size U V := by
    rw [e]
    exact up (up (up0 _ _) _) _
  have hU := h.kept u
  have hs := u.size
  have hw := h.bel.size
  have l1 := lb_new U [wv] 55
  have l2 := lb_new (U.alloc (.cells #[wv] 55)) [.int .i64 0] 3
  have l3 := lb_new ((U.alloc (.cells #[wv] 55)).alloc (.cells #[.int .i64 0] 3)) [.bool false] 4
  rw [heap_one] at l2
  rw [heap_one, heap_one] at l3
  have a1 := h.stp.lt
  have a2 := h.it.2.1.lt
  have a3 := h.it.2.2.lt
  have a4 := h.res.lt
  refine ⟨hU.kept hb, by rw [e, e16]; exact (l1.kept (up0 _ _)).kept (up0 _ _), Mg.row_kept (Mg.row_weak r hw) hb, by rw [e, e17]; exact l2.kept (up0 _ _), by rw [e, e18]; exact l3, fun e9 => ?_, by omega, by omega, ⟨by omega, by omega, by omega, by omega⟩, fun D hD9 => ?_⟩
  · have h9 := (hU.ws.mi.row (e9.same (hb.block b hU.ws.mi.blt.2))).2
    omega
  · have h9 := hD D hD9
    have hlt := (Array.getElem?_eq_some_iff.1 h9).1
    exact (hb.block D (by omega)).trans ((u.block D hlt).trans h9)
end Go.Proofs.Ytceokpklcfmadaa

/-
  IndexWithin: what holds between two values of a range, and where it is left.
-/
namespace Go.Proofs.Ytceokpklcfmadaa
open Go Go.RowKit Go.ChangeShapes
open Wb

/-- between two values: each act of an earlier place has been done once -/
def IW (w : World) (B10 B11 B12 B13 B14 gw g b base mA : Nat) (all : Bool) (lo hi l2 h2 stop : Int) (av fv : Value) (B16 B17 B18 : Nat) (wv : Value) (wl : List (Int × Int)) (Ds : List Nat) (n0 p0 : Nat) (ss : List Ac5) (pre : List PI) (W : World) : Prop := ∃ (n : Nat) (nv : Value) (ps : List (Int × Int)), n ≤ n0 + actN ss pre.length ∧ ps.length ≤ p0 + actN ss pre.length ∧ MR w B10 B11 B12 B13 B14 gw g b base mA all lo hi l2 h2 stop av fv B16 B17 B18 wv wl (pre.length : Int) false Ds n nv ps W
/-- where it is left: by return (what was given is not wanted), or by break -/
def IXW (w : World) (B10 B11 B12 B13 B14 gw g b base mA : Nat) (all : Bool) (lo hi l2 h2 stop : Int) (av fv : Value) (B16 B17 B18 : Nat) (wv : Value) (wl : List (Int × Int)) (Ds : List Nat) (n0 p0 : Nat) (ss : List Ac5) (c : Code) (pre : List PI) (W : World) : Prop := (c = .ret ∧ ∃ (pre0 : List PI) (x : PI), pre = pre0 ++ [x] ∧ wl[pre0.length]? ≠ some x.1) ∨ (c = .exit 2 ∧ ∃ (n : Nat) (nv : Value) (ps : List (Int × Int)), n ≤ n0 + ss.length ∧ ps.length ≤ p0 + ss.length ∧ MR w B10 B11 B12 B13 B14 gw g b base mA all lo hi l2 h2 stop av fv B16 B17 B18 wv wl (pre.length : Int) true Ds n nv ps W)
theorem IW_own {w : World} {B10 B11 B12 B13 B14 gw g b base mA : Nat} {all : Bool} {lo hi l2 h2 stop : Int} {av fv : Value} {B16 B17 B18 : Nat} {wv : Value} {wl : List (Int × Int)} {Ds : List Nat} {n0 p0 : Nat} {ss : List Ac5} {Z : Nat} (hb : b < Z) (hw : w.heap.size ≤ Z) (hD : ∀ D ∈ Ds, D < Z) : OwnFrom Z (IW w B10 B11 B12 B13 B14 gw g b base mA all lo hi l2 h2 stop av fv B16 B17 B18 wv wl Ds n0 p0 ss) := by
  rintro s A A' row ⟨n, nv, ps, h1, h2, h3⟩ hg hr
  exact ⟨n, nv, ps, h1, h2, h3.nonc hb hw hD hg hr⟩
theorem IXW_own {w : World} {B10 B11 B12 B13 B14 gw g b base mA : Nat} {all : Bool} {lo hi l2 h2 stop : Int} {av fv : Value} {B16 B17 B18 : Nat} {wv : Value} {wl : List (Int × Int)} {Ds : List Nat} {n0 p0 : Nat} {ss : List Ac5} {Z : Nat} (hb : b < Z) (hw : w.heap.size ≤ Z) (hD : ∀ D ∈ Ds, D < Z) (c : Code) : OwnFrom Z (IXW w B10 B11 B12 B13 B14 gw g b base mA all lo hi l2 h2 stop av fv B16 B17 B18 wv wl Ds n0 p0 ss c) := by
  rintro s A A' row (h | ⟨e, n, nv, ps, h1, h2, h3⟩) hg hr
  · exact .inl h
  · exact .inr ⟨e, n, nv, ps, h1, h2, h3.nonc hb hw hD hg hr⟩
/-- only by break -/
theorem IXW_exit {w : World} {B10 B11 B12 B13 B14 gw g b base mA : Nat} {all : Bool} {lo hi l2 h2 stop : Int} {av fv : Value} {B16 B17 B18 : Nat} {wv : Value} {wl : List (Int × Int)} {Ds : List Nat} {n0 p0 : Nat} {ss : List Ac5} {c : Code} {pre : List PI} {W : World} (hS : pre.map (fun q : PI => q.1) <+: wl) (h : IXW w B10 B11 B12 B13 B14 gw g b base mA all lo hi l2 h2 stop av fv B16 B17 B18 wv wl Ds n0 p0 ss c pre W) : c = .exit 2 := by
  rcases h with ⟨-, pre0, x, rfl, hbad⟩ | ⟨h, -⟩
  · exact absurd (no_badD hS) hbad
  · exact h
/-- both ends of a range -/
theorem IW_both {w : World} {B10 B11 B12 B13 B14 gw g b base mA : Nat} {all : Bool} {lo hi l2 h2 stop : Int} {av fv : Value} {B16 B17 B18 : Nat} {wv : Value} {wl : List (Int × Int)} {Ds : List Nat} {n0 p0 : Nat} {ss : List Ac5} {W : World} (h : (∃ xs : List PI, xs.map (·.1) = wl ∧ IW w B10 B11 B12 B13 B14 gw g b base mA all lo hi l2 h2 stop av fv B16 B17 B18 wv wl Ds n0 p0 ss xs W) ∨ ∃ pre : List PI, pre.map (fun q : PI => q.1) <+: wl ∧ IXW w B10 B11 B12 B13 B14 gw g b base mA all lo hi l2 h2 stop av fv B16 B17 B18 wv wl Ds n0 p0 ss (.exit 2) pre W) : ∃ (cnt : Nat) (lf : Bool) (n : Nat) (nv : Value) (ps : List (Int × Int)), (lf = true ∨ cnt = wl.length) ∧ cnt ≤ wl.length ∧ n ≤ n0 + ss.length ∧ ps.length ≤ p0 + ss.length ∧ MR w B10 B11 B12 B13 B14 gw g b base mA all lo hi l2 h2 stop av fv B16 B17 B18 wv wl (cnt : Int) lf Ds n nv ps W := by
  rcases h with ⟨xs, e, n, nv, ps, h1, h2, h3⟩ | ⟨pre, hS, h | ⟨-, n, nv, ps, h1, h2, h3⟩⟩
  · have hl : xs.length = wl.length := by rw [← e, List.length_map]
    have := actN_le ss xs.length
    exact ⟨xs.length, false, n, nv, ps, .inr hl, Nat.le_of_eq hl, by omega, by omega, h3⟩
  · exact absurd h.1 (by simp)
  · have hl := hS.length_le
    rw [List.length_map] at hl
    exact ⟨pre.length, true, n, nv, ps, .inl rfl, hl, h1, h2, h3⟩
end Go.Proofs.Ytceokpklcfmadaa

/-
  IndexWithin: the loop over the acts, at one value of the range.
-/
namespace Go.Proofs.Ytceokpklcfmadaa
open Go Go.RowKit Go.ChangeShapes
open Wb

/-- behind j acts -/
structure BL (w : World) (B10 B11 B12 B13 B14 gw g b base mA : Nat) (all : Bool) (lo hi l2 h2 stop : Int) (av fv : Value) (B16 B17 B18 : Nat) (wv : Value) (wl : List (Int × Int)) (Ds : List Nat) (n0 p0 : Nat) (ss : List Ac5) (k Zv : Nat) (WW : World) (j n : Nat) (nv : Value) (ps : List (Int × Int)) (W : World) : Prop where
  hn : n ≤ n0 + actN ss k + actE ss k j
  hp : ps.length ≤ p0 + actN ss k + actE ss k j
  mr : MR w B10 B11 B12 B13 B14 gw g b base mA all lo hi l2 h2 stop av fv B16 B17 B18 wv wl (k : Int) false Ds n nv ps W
  kf : KeepsFrom Zv WW W
  kp : Kv.KpV (fun q => q = B17) 80 b WW W
section
variable {w : World} {B10 B11 B12 B13 B14 gw g b base mA : Nat} {all : Bool} {lo hi l2 h2 stop : Int} {av fv : Value} {B16 B17 B18 : Nat} {wv : Value} {wl : List (Int × Int)} {Ds : List Nat} {n0 p0 : Nat} {ss : List Ac5} {k Zv : Nat} {WW : World} {j n : Nat} {nv : Value} {ps : List (Int × Int)} {W W' : World}
theorem kpV_refl (fx : Nat → Prop) (tb : TypeId) (b : Nat) (W : World) : Kv.KpV fx tb b W W := ⟨rfl, rfl, rfl, Nat.le_refl _, fun _ _ _ _ e _ _ _ => e, fun _ _ h _ => h⟩
theorem kpV_below {fx : Nat → Prop} {tb : TypeId} (hb : Below W.heap.size W W') (hlt : b < W.heap.size) : Kv.KpV fx tb b W W' := ⟨hb.os, hb.tape, hb.output, hb.size, fun k _ _ _ e _ _ _ => (hb.block k (Array.getElem?_eq_some_iff.1 e).1).trans e, fun _ _ hu _ => hu.kept hb hlt⟩
theorem keepsFrom_below {Z : Nat} (hb : Below W.heap.size W W') : KeepsFrom Z W W' := ⟨hb.size, fun k _ _ hk _ => (hb.block k (Array.getElem?_eq_some_iff.1 hk).1).trans hk⟩
theorem BL.start (hq1 : n ≤ n0 + actN ss k) (hq2 : ps.length ≤ p0 + actN ss k) (h : MR w B10 B11 B12 B13 B14 gw g b base mA all lo hi l2 h2 stop av fv B16 B17 B18 wv wl (k : Int) false Ds n nv ps WW) : BL w B10 B11 B12 B13 B14 gw g b base mA all lo hi l2 h2 stop av fv B16 B17 B18 wv wl Ds n0 p0 ss k Zv WW 0 n nv ps WW := ⟨by omega, by omega, h, KeepsFrom.refl _ _, kpV_refl _ _ _ _⟩
theorem BL.kept (h : BL w B10 B11 B12 B13 B14 gw g b base mA all lo hi l2 h2 stop av fv B16 B17 B18 wv wl Ds n0 p0 ss k Zv WW j n nv ps W) (hb : Below W.heap.size W W') : BL w B10 B11 B12 B13 B14 gw g b base mA all lo hi l2 h2 stop av fv B16 B17 B18 wv wl Ds n0 p0 ss k Zv WW j n nv ps W' := ⟨h.hn, h.hp, h.mr.kept hb, h.kf.trans (keepsFrom_below hb), h.kp.trans (kpV_below hb h.mr.mw.ws.mi.blt.2)⟩
/-- an act of another place -/
theorem BL.skip (h : BL w B10 B11 B12 B13 B14 gw g b base mA all lo hi l2 h2 stop av fv B16 B17 B18 wv wl Ds n0 p0 ss k Zv WW j n nv ps W) (hj : j < ss.length) (hne : ss[j].at_ ≠ (k : Int)) : BL w B10 B11 B12 B13 B14 gw g b base mA all lo hi l2 h2 stop av fv B16 B17 B18 wv wl Ds n0 p0 ss k Zv WW (j + 1) n nv ps W := by
  have e := actE_succ ss k j hj
  rw [if_neg hne] at e
  exact ⟨by have := h.hn; omega, by have := h.hp; omega, h.mr, h.kf, h.kp⟩
/-- an act is done -/
theorem BL.does (h : BL w B10 B11 B12 B13 B14 gw g b base mA all lo hi l2 h2 stop av fv B16 B17 B18 wv wl Ds n0 p0 ss k Zv WW j n nv ps W) (hb : b < Zv) (hj : j < ss.length) (he : ss[j].at_ = (k : Int)) (hd : DoPost w.heap.size gw g b base all lo hi n ps W W') : ∃ n' nv' ps', BL w B10 B11 B12 B13 B14 gw g b base mA all lo hi l2 h2 stop av fv B16 B17 B18 wv wl Ds n0 p0 ss k Zv WW (j + 1) n' nv' ps' W' := by
  obtain ⟨n', nv', ps', h1, h2, h3, h4⟩ := hd
  have e := actE_succ ss k j hj
  rw [if_pos he] at e
  exact ⟨n', nv', ps', by have := h.hn; omega, by have := h.hp; omega, h.mr.df h4 h3, h.kf.trans (h4.keeps hb h.mr.mw.ws), h.kp.trans (h4.kpV h.mr.mw.ws _)⟩
/-- all acts are through: one more -/
theorem BL.next (h : BL w B10 B11 B12 B13 B14 gw g b base mA all lo hi l2 h2 stop av fv B16 B17 B18 wv wl Ds n0 p0 ss k Zv WW ss.length n nv ps W) (pre : List PI) (hk : k = pre.length) (x : PI) : KeepsFrom Zv WW (W.setCell ⟨B17, 0, none⟩ (.int .i64 ((k : Int) + 1))) ∧ Kv.KpV (fun q => q = B17) 80 b WW (W.setCell ⟨B17, 0, none⟩ (.int .i64 ((k : Int) + 1))) ∧ IW w B10 B11 B12 B13 B14 gw g b base mA all lo hi l2 h2 stop av fv B16 B17 B18 wv wl Ds n0 p0 ss (pre ++ [x]) (W.setCell ⟨B17, 0, none⟩ (.int .i64 ((k : Int) + 1))) := by
  subst hk
  refine ⟨h.kf.trans ((KeepsOthers.setCell _ _ _).from _), h.kp.trans (kpV_set _ _ _ _ _ _ rfl (Ne.symm (h.mr.apart h.mr.ctr).1)), n, nv, ps, ?_, ?_, ?_⟩
  · rw [List.length_append, List.length_singleton, actN_succ]
    have := h.hn
    omega
  · rw [List.length_append, List.length_singleton, actN_succ]
    have := h.hp
    omega
  · have h9 := h.mr.count ((pre.length : Int) + 1)
    rw [List.length_append, List.length_singleton]
    exact h9
/-- and the range is left -/
theorem BL.left (h : BL w B10 B11 B12 B13 B14 gw g b base mA all lo hi l2 h2 stop av fv B16 B17 B18 wv wl Ds n0 p0 ss k Zv WW ss.length n nv ps W) (pre : List PI) (hk : k = pre.length) (x : PI) : KeepsFrom Zv WW ((W.setCell ⟨B17, 0, none⟩ (.int .i64 ((k : Int) + 1))).setCell ⟨B18, 0, none⟩ (.bool true)) ∧ IXW w B10 B11 B12 B13 B14 gw g b base mA all lo hi l2 h2 stop av fv B16 B17 B18 wv wl Ds n0 p0 ss (.exit 2) (pre ++ [x]) ((W.setCell ⟨B17, 0, none⟩ (.int .i64 ((k : Int) + 1))).setCell ⟨B18, 0, none⟩ (.bool true)) := by
  subst hk
  have h0 := actN_succ ss pre.length
  have h1 := actN_le ss (pre.length + 1)
  refine ⟨(h.kf.trans ((KeepsOthers.setCell _ _ _).from _)).trans ((KeepsOthers.setCell _ _ _).from _), .inr ⟨rfl, n, nv, ps, ?_, ?_, ?_⟩⟩
  · have := h.hn
    omega
  · have := h.hp
    omega
  · have h9 := (h.mr.count ((pre.length : Int) + 1)).leave true
    rw [List.length_append, List.length_singleton]
    exact h9
end
/-- an act of the list, wherever memory has grown -/
theorem Ax.at {w W : World} {aa : Option Addr} {ca : Nat} {acts : List Ac5} (h : Ax w (.slice aa acts.length ca) acts) (hb : Below w.heap.size w W) (j : Nat) (hj : j < acts.length) : ∃ q off, aa = some ⟨q, off, none⟩ ∧ W.cell? ⟨q, off + j * 5, none⟩ = some (.int .i64 acts[j].at_) ∧ W.cell? ⟨q, off + j * 5 + 1, none⟩ = some (.int .i64 acts[j].kd) ∧ W.cell? ⟨q, off + j * 5 + 2, none⟩ = some (.int .i64 acts[j].ky) ∧ W.cell? ⟨q, off + j * 5 + 3, none⟩ = some (.int .i64 acts[j].vl) ∧ W.cell? ⟨q, off + j * 5 + 4, none⟩ = some (.int .i64 acts[j].sp) := by
  obtain ⟨a', c', e, -, -, hc⟩ := h
  simp only [Value.slice.injEq] at e
  obtain ⟨q, off, e3, hcell⟩ := hc (List.ne_nil_of_length_pos (by omega))
  rw [e3] at e
  obtain ⟨c0, c1, c2, c3, c4⟩ := hcell j hj
  have hq : q < w.heap.size := World.block_lt_of_cell? _ _ c0
  have key : ∀ (o : Nat) (x : Value), w.cell? ⟨q, o, none⟩ = some x → W.cell? ⟨q, o, none⟩ = some x := fun o x hx => by
    simp only [World.cell?] at hx ⊢
    rw [hb.block q hq]
    exact hx
  exact ⟨q, off, e.1, key _ _ c0, key _ _ c1, key _ _ c2, key _ _ c3, key _ _ c4⟩
section
variable {P : Program} {md : Region.Mode} {ops : Array Oper} {Q : Exit → Act → World → Prop} {S : World → Prop} {fuel : Nat} {listed : Array Bool} {a : Act} {w : World} {oi : Oper}
/-- an operation that is not wanted -/
theorem zqn (i : Nat) (hi : ops[i]? = some oi) (hS : S w) (h : wpAnyH P md ops Q S fuel (listed.setIfInBounds i true) (a.put oi.dst undef) w) (hw : Region.wanted oi (yielded ops a.tmps) = false := by rfl) (hs : Region.noSelect ops = true := by kernel_rfl) (hf : Region.free md ops listed i = true := by kernel_rfl) (hr : (Region.ready md ops listed).contains i = true := by kernel_rfl)
    (hQ : ∀ c a w, Q (.panic c) (a.put oi.dst undef) w → Q (.panic c) a w := by exact fun _ _ _ h => h) : wpAnyH P md ops Q S (fuel + 1) listed a w := wpAnyH_take hi hs hf hr hQ (Or.inr ⟨hw, rfl⟩) hS h
end
theorem st_doesW {ops : Array Oper} {o : Oper} {a : Act} {W : World} {K : Act → World → Prop} {Q : Exit → Act → World → Prop} {E : Prop} (hw : Region.wanted o (yielded ops a.tmps) = true) (p q r : Nat) {ts : Array TypeId} (ho : o.op = .call { callee := .value (.func 42), args := #[.tmp p, .tmp q, .tmp r], argTypes := ts }) {u1 u2 u3 : Value} (hp : a.tmps[p]?.getD undef = u1) (hq : a.tmps[q]?.getD undef = u2) (hr : a.tmps[r]?.getD undef = u3) {R : World → Prop} (hC : Calls Try.prog 42 #[u1, u2, u3] W fun e W' => e = .returned (.bool true) ∧ R W') (h : ∀ W', R W' → K (a.put o.dst (.bool true)) W') : if Region.wanted o (yielded ops a.tmps) = true then Oper.wp Try.prog o a W K Q else E := by
  rw [if_pos hw]
  obtain ⟨dst, op', ty, pos, after, guard⟩ := o
  simp only at ho
  subst ho
  have HC : Hid (Calls Try.prog 42 #[u1, u2, u3] W fun e W' => e = .returned (.bool true) ∧ R W') := hC
  clear hC hw
  go_simp
  refine HC.out.mono ?_
  rintro e W' ⟨rfl, r⟩
  exact h W' r
theorem st_holdsW {ops : Array Oper} {o : Oper} {a : Act} {W : World} {K : Act → World → Prop} {Q : Exit → Act → World → Prop} {E : Prop} (hw : Region.wanted o (yielded ops a.tmps) = true) (p q : Nat) {ts : Array TypeId} (ho : o.op = .call { callee := .value (.func 39), args := #[.tmp p, .tmp q], argTypes := ts }) {u1 u2 : Value} (hp : a.tmps[p]?.getD undef = u1) (hq : a.tmps[q]?.getD undef = u2) {R : World → Prop} (hC : Calls Try.prog 39 #[u1, u2] W fun e W' => e = .returned (.bool true) ∧ R W') (h : ∀ W', R W' → K (a.put o.dst (.bool true)) W') : if Region.wanted o (yielded ops a.tmps) = true then Oper.wp Try.prog o a W K Q else E := by
  rw [if_pos hw]
  obtain ⟨dst, op', ty, pos, after, guard⟩ := o
  simp only at ho
  subst ho
  have HC : Hid (Calls Try.prog 39 #[u1, u2] W fun e W' => e = .returned (.bool true) ∧ R W') := hC
  clear hC hw
  go_simp
  refine HC.out.mono ?_
  rintro e W' ⟨rfl, r⟩
  exact h W' r
end Go.Proofs.Ytceokpklcfmadaa
