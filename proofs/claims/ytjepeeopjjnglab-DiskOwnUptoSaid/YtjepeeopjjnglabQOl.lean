import Derived.Test.YtjepeeopjjnglabQOk
import Derived.Test.YtjepeeopjjnglabQO7
import Derived.Test.YtjepeeopjjnglabQOe
import Derived.Test.YtjepeeopjjnglabQOa
/-
  DiskOwn: looked.
-/
namespace Go.Proofs.Ytjepeeopjjnglab
open Go Go.RowKit Go.ChangeShapes
open Wb
open Rd
open Cb (Bo Fr Cl)
theorem Out.kept {w w' : World} {C : Nat → Option Cl} {g : Nat} {V : List Value} {E : Nat → Prop} (h : Out w C g V E) (hs : w.heap.size ≤ w'.heap.size) : Out w' C g V E := fun q hq => ⟨Nat.lt_of_lt_of_le (h q hq).1 hs, (h q hq).2⟩
/-- new blocks are not the book's -/
theorem Out.more {B : Nat} {w w' : World} {C : Nat → Option Cl} {g : Nat} {V : List Value} {l f n : List Cb.En} {lh fh nh : List (Value × Nat)} {E E2 : Nat → Prop} (h : Out w C g V E) (hb : Bk B w C g V l f n lh fh nh) (hs : w.heap.size ≤ w'.heap.size) (hE : ∀ q, E2 q → w.heap.size ≤ q ∧ q < w'.heap.size) : Out w' C g V fun q => E q ∨ E2 q := fun q hq => by
  rcases hq with e | e
  · exact h.kept hs q e
  · refine ⟨(hE q e).2, Classical.not_not.1 fun e2 => ?_, fun e2 => ?_⟩
    · have := hb.col.lt e2
      have := (hE q e).1
      omega
    · have := (hb.bm.lt e2).2
      have := (hE q e).1
      omega
theorem Out.mono {w : World} {C : Nat → Option Cl} {g : Nat} {V : List Value} {E E2 : Nat → Prop} (h : Out w C g V E) (hE : ∀ q, E2 q → E q) : Out w C g V E2 := fun q hq => h q (hE q hq)
theorem FO.blkq {B : Nat} {w w' : World} {a : Value} {ys : List FX} (h : FO B w a ys) (hb : ∀ q, Fq a ys q → w'.heap[q]? = w.heap[q]?) : FO B w' a ys := ⟨Mg.row_block h.row fun q e => hb q (.inl e), fun x hx => ⟨Mg.row_block (h.own x hx).row fun q e => hb q (.inr ⟨x, hx, e⟩), (h.own x hx).good⟩⟩
theorem fq_nil (q : Nat) : ¬ Fq (.slice none 0 0) [] q := fun h => by
  rcases h with e | ⟨x, hx, -⟩
  · cases e
  · cases hx
/-- what looked leaves -/
structure LkP (B : Nat) (w w' : World) (gb g : Nat) (S : Dk.DS) (M : Mm) (X : Nat → Prop) (C : Nat → Option Cl) (V : List Value) (l f n : List Cb.En) (lh fh nh : List (Value × Nat)) : Prop where
  bk : Bk B w' C gb V l f n lh fh nh
  dm : DM B w' g S M
  ou : Out w' C gb V fun q => Ft g S M q ∨ X q
  xs : ∀ q, X q → w'.heap[q]? = w.heap[q]?
  be : Below B w w'
theorem fa_name {W : World} {a : Option Addr} {n c : Nat} {xs : List FX} (h : FA W (.slice a n c) xs) {j : Nat} {x : FX} (hx : xs[j]? = some x) : ∃ b, a = some ⟨b, 0, none⟩ ∧ W.cell? ⟨b, j * 2, none⟩ = some (enS x.1) := by
  have hj := List.getElem?_eq_some_iff.1 hx
  have hl := h.row.1
  rcases h.row.2 with ⟨e1, h0⟩ | ⟨b, cap, cur, e1, -⟩
  · have := hj.1
    omega
  · have hr := h.row
    simp only [Value.slice.injEq] at e1
    obtain ⟨rfl, rfl, rfl⟩ := e1
    refine ⟨b, rfl, ?_⟩
    rw [hr.cellAt (j * 2) (by have := hj.1; omega), (flatF_at xs j hj.1).1, hj.2]
theorem row_name {B : Nat} {W : World} {a : Option Addr} {n c : Nat} {l : List (List UInt8)} (h : W.ownsRow B 9 1 (.slice a n c) l.length (l.flatMap enN)) {j : Nat} {x : List UInt8} (hx : l[j]? = some x) : ∃ b, a = some ⟨b, 0, none⟩ ∧ W.cell? ⟨b, j, none⟩ = some (enS x) := by
  have h2 : W.ownsRow B 9 1 (.slice a n c) (l.map enS).length (l.map enS) := by
    rw [List.length_map, map_enS]
    exact h
  exact row_get enS h2 hx
/-- while all that was told is given to the book -/
structure LS (B : Nat) (w W : World) (gb g : Nat) (S : Dk.DS) (M : Mm) (X : Nat → Prop) (v1 v2 v3 : Value) (z1 z2 : List FX) (d3 : List Nat) (C : Nat → Option Cl) (V : List Value) (l f n : List Cb.En) (lh fh nh : List (Value × Nat)) (R : Nat → Prop) : Prop where
  bk : Bk B W C gb V l f n lh fh nh
  dm : DM B W g S M
  ou : Out W C gb V fun q => (Ft g S M q ∨ X q ∨ Fq v1 z1 q ∨ Fq v2 z2 q ∨ v3.ownBlock = some q) ∨ R q
  f1 : FO 0 W v1 z1
  f2 : FO 0 W v2 z2
  f3 : Own 0 W v3 d3
  xs : ∀ q, X q → W.heap[q]? = w.heap[q]?
  be : Below B w W
theorem LS.step {B : Nat} {w W W' : World} {gb g : Nat} {S : Dk.DS} {M : Mm} {X : Nat → Prop} {v1 v2 v3 : Value} {z1 z2 : List FX} {d3 : List Nat} {C C' : Nat → Option Cl} {V V' : List Value} {l f n l' f' n' : List Cb.En} {lh fh nh lh' fh' nh' : List (Value × Nat)} {R R' P : Nat → Prop} (h : LS B w W gb g S M X v1 v2 v3 z1 z2 d3 C V l f n lh fh nh R) (hB : B ≤ W.heap.size) (hbk : Bk B W' C' gb V' l' f' n' lh' fh' nh') (hst : St W W' C C' gb V V' P) (hR : ∀ q, R' q → R q ∧ ¬ P q) (hZ : ∀ q, (Ft g S M q ∨ X q ∨ Fq v1 z1 q ∨ Fq v2 z2 q ∨ v3.ownBlock = some q) → ¬ P q) (hP : ∀ q, P q → B ≤ q) : LS B w W' gb g S M X v1 v2 v3 z1 z2 d3 C' V' l' f' n' lh' fh' nh' R' ∧ ∀ q, R' q → W'.heap[q]? = W.heap[q]? := by
  obtain ⟨q1, q2⟩ := hst.same (h.ou.mono fun q hq => hq.imp id fun e => (hR q e).1 : Out W C gb V fun q => (Ft g S M q ∨ X q ∨ Fq v1 z1 q ∨ Fq v2 z2 q ∨ v3.ownBlock = some q) ∨ R' q) fun q hq => hq.elim (hZ q) fun e => (hR q e).2
  exact ⟨⟨hbk, h.dm.blk fun q e => q1 q (.inl (.inl e)), q2, h.f1.blkq fun q e => q1 q (.inl (.inr (.inr (.inl e)))), h.f2.blkq fun q e => q1 q (.inl (.inr (.inr (.inr (.inl e))))), ⟨Mg.row_block h.f3.row fun q e => q1 q (.inl (.inr (.inr (.inr (.inr e))))), h.f3.good⟩, fun q e => (q1 q (.inl (.inr (.inl e)))).trans (h.xs q e), h.be.trans (hst.fr.below hB fun q hq => by
    rcases hq with e | e | e
    · exact (h.bk.bm.lt e).1
    · exact h.bk.low q e
    · exact hP q e)⟩, fun q e => q1 q (.inr e)⟩
section
variable {B : Nat} {w W : World} {gb g : Nat} {S : Dk.DS} {M : Mm} {X : Nat → Prop} {v1 v2 v3 : Value} {z1 z2 : List FX} {d3 : List Nat} {C : Nat → Option Cl} {V : List Value} {l f n : List Cb.En} {lh fh nh : List (Value × Nat)} {R : Nat → Prop}
/-- what stands beside the book -/
def Zq (g : Nat) (S : Dk.DS) (M : Mm) (X : Nat → Prop) (v1 v2 v3 : Value) (z1 z2 : List FX) (q : Nat) : Prop := Ft g S M q ∨ X q ∨ Fq v1 z1 q ∨ Fq v2 z2 q ∨ v3.ownBlock = some q
theorem ls_spoils (h : LS B w W gb g S M X v1 v2 v3 z1 z2 d3 C V l f n lh fh nh R) (R' : Nat → Prop) (b : Value) (xs : List FX) (hr : FA W b xs) (hm : xs.length ≤ 5000) (hm2 : ∀ x ∈ xs, x.2.2.length ≤ 5000000) (hl : l.length + xs.length ≤ 1000000) (hl2 : f.length ≤ 1000000) (hb : ∀ q, Fq b xs q → R q ∧ B ≤ q ∧ ¬ Zq g S M X v1 v2 v3 z1 z2 q) (hR : ∀ q, R' q → R q ∧ ¬ Fq b xs q) (hB : B ≤ W.heap.size) :
    Calls Try.prog 41 #[.pointer (some ⟨gb, 0, none⟩), b] W fun e w' => e = .returned (.tuple #[]) ∧ ∃ C' V' l' f', LS B w w' gb g S M X v1 v2 v3 z1 z2 d3 C' V' l' f' n lh fh nh R' ∧ l'.length = l.length + xs.length ∧ f'.length = f.length + 1 ∧ (∀ q, R' q → w'.heap[q]? = W.heap[q]?) ∧ W.heap.size ≤ w'.heap.size := (dlspoils_any B gb C V l f n lh fh nh b xs W h.bk hr hm hm2 hl hl2 (h.ou.mono fun q e => .inr (hb q e).1) (fun q e => (hb q e).2.1) hB).mono fun e w' ⟨h1, C', V', l', mk, h2, h3, h4⟩ => by
  obtain ⟨q1, q2⟩ := h.step hB h2 h4 hR (fun q e e2 => (hb q e2).2.2 e) fun q e => (hb q e).2.1
  exact ⟨h1, C', V', _, _, q1, by rw [List.length_append, h3], by rw [List.length_append]; rfl, q2, h4.fr.size⟩
theorem ls_keep (h : LS B w W gb g S M X v1 v2 v3 z1 z2 d3 C V l f n lh fh nh R) (R' : Nat → Prop) (b : Value) (m : Nat) (xs : List Value) (hr : W.ownsRow 0 5 1 b m xs) (hm : m ≤ 5000000) (hl : l.length ≤ 1000000) (hb : ∀ q, b.ownBlock = some q → R q ∧ B ≤ q ∧ ¬ Zq g S M X v1 v2 v3 z1 z2 q) (hR : ∀ q, R' q → R q ∧ ¬ b.ownBlock = some q) (hB : B ≤ W.heap.size) :
    Calls Try.prog 42 #[.pointer (some ⟨gb, 0, none⟩), b] W fun e w' => e = .returned (.tuple #[]) ∧ ∃ C' V' l', LS B w w' gb g S M X v1 v2 v3 z1 z2 d3 C' V' l' f n lh fh nh R' ∧ l'.length = l.length + 1 ∧ (∀ q, R' q → w'.heap[q]? = W.heap[q]?) ∧ W.heap.size ≤ w'.heap.size := (dlkeep_any B gb C V l f n lh fh nh b m xs W h.bk hr hm hl (h.ou.mono fun q e => .inr (hb q e).1) (fun q e => (hb q e).2.1) hB).mono fun e w' ⟨h1, C', V', mk, h2, h4⟩ => by
  obtain ⟨q1, q2⟩ := h.step hB h2 h4 hR (fun q e e2 => (hb q e2).2.2 e) fun q e => (hb q e).2.1
  exact ⟨h1, C', V', _, q1, by rw [List.length_append]; rfl, q2, h4.fr.size⟩
theorem ls_wipes (h : LS B w W gb g S M X v1 v2 v3 z1 z2 d3 C V l f n lh fh nh R) (b : Value) (m : Nat) (xs : List Value) (hr : W.ownsRow 0 9 1 b m xs) (hm : m ≤ 5000000) (hl : n.length ≤ 1000000) (hb : ∀ q, b.ownBlock = some q → R q ∧ B ≤ q ∧ ¬ Zq g S M X v1 v2 v3 z1 z2 q) (hB : B ≤ W.heap.size) :
    Calls Try.prog 43 #[.pointer (some ⟨gb, 0, none⟩), b] W fun e w' => e = .returned (.tuple #[]) ∧ ∃ C' V' n', LS B w w' gb g S M X v1 v2 v3 z1 z2 d3 C' V' l f n' lh fh nh (fun _ => False) ∧ n'.length = n.length + 1 ∧ W.heap.size ≤ w'.heap.size := (dlwipes_any B gb C V l f n lh fh nh b m xs W h.bk hr hm hl (h.ou.mono fun q e => .inr (hb q e).1) (fun q e => (hb q e).2.1) hB).mono fun e w' ⟨h1, C', V', mk, h2, h4⟩ => by
  obtain ⟨q1, -⟩ := h.step (R' := fun _ => False) hB h2 h4 (fun q e => e.elim) (fun q e e2 => (hb q e2).2.2 e) fun q e => (hb q e).2.1
  exact ⟨h1, C', V', _, q1, by rw [List.length_append]; rfl, h4.fr.size⟩
theorem ls_grow (h : LS B w W gb g S M X v1 v2 v3 z1 z2 d3 C V l f n lh fh nh R) (hl : l.length ≤ 1000000) (hf : f.length ≤ 1000000) (hn : n.length ≤ 1000000) (hB : B ≤ W.heap.size) :
    Calls Try.prog 44 #[.pointer (some ⟨gb, 0, none⟩)] W fun e w' => e = .returned (.tuple #[]) ∧ ∃ C' V' lh' fh' nh', LS B w w' gb g S M X v1 v2 v3 z1 z2 d3 C' V' l f n lh' fh' nh' R ∧ lh'.length = l.length ∧ fh'.length = f.length ∧ nh'.length = n.length := (dlgrow_any B gb C V l f n lh fh nh W h.bk hl hf hn hB).mono fun e w' ⟨h1, C', V', lh', fh', nh', h2, h3, h5, h6, h4⟩ => by
  obtain ⟨q1, -⟩ := h.step (R' := R) hB h2 h4 (fun q e => ⟨e, id⟩) (fun q _ => id) fun q e => e.elim
  exact ⟨h1, C', V', lh', fh', nh', q1, h3, h5, h6⟩
end
set_option maxRecDepth 100000 in
set_option maxHeartbeats 32000000 in
theorem dllooked_any (B gb g : Nat) (S : Dk.DS) (M : Mm) (N : Nat) (C : Nat → Option Cl) (V : List Value) (l f n : List Cb.En) (lh fh nh : List (Value × Nat)) (X : Nat → Prop) (s : ByteArray) (keep : Int) (cv : Value) (cs : List (Int × Int)) (w : World) (hp : LkP B w w gb g S M X C V l f n lh fh nh) (hBw : B ≤ w.heap.size) (hW : Dk.WF S N) (hN : N ≤ 1000) (hcv : ∀ W, Below B w W → CtS W cv cs) (hs : s.size ≤ maxLen) (hln : l.length ≤ 900000 ∧ f.length ≤ 900000 ∧ n.length ≤ 900000) :
    Calls Try.prog 18 #[.pointer (some ⟨gb, 0, none⟩), .pointer (some ⟨g, 0, none⟩), .string s, .int .i64 keep, cv] w fun e w' => e = .returned (.bool true) ∧ ∃ C' V' l' f' n' lh' fh' nh', LkP B w w' gb g S M X C' V' l' f' n' lh' fh' nh' ∧ l'.length ≤ l.length + 20000 ∧ f'.length ≤ f.length + 4 ∧ n'.length ≤ n.length + 2 := by
  have HP : Hid (LkP B w w gb g S M X C V l f n lh fh nh ∧ B ≤ w.heap.size) := ⟨hp, hBw⟩
  have HW : Hid (Dk.WF S N ∧ N ≤ 1000 ∧ N ≤ 400000000) := ⟨hW, hN, by omega⟩
  have HCV : Hid (∀ W, Below B w W → CtS W cv cs) := hcv
  have HSL : Hid (s.size ≤ maxLen) := hs
  have HLN : Hid (l.length ≤ 900000 ∧ f.length ≤ 900000 ∧ n.length ≤ 900000) := hln
  obtain ⟨eR, heR⟩ : ∃ x, x = (Dk.findE S s.data.toList).1 := ⟨_, rfl⟩
  obtain ⟨lR, hlR⟩ : ∃ x, x = Dk.lst S := ⟨_, rfl⟩
  obtain ⟨nm, hnm⟩ : ∃ x, x = lR.length := ⟨_, rfl⟩
  have HER : Hid (eR = (Dk.findE S s.data.toList).1 ∧ lR = Dk.lst S ∧ nm = lR.length) := ⟨heR, hlR, hnm⟩
  have hnm9 : nm ≤ 1000 := by
    rw [hnm, hlR]
    have h8 := hW.n1
    unfold Dk.lst
    split
    · simp
    · rw [List.length_map]
      omega
  have HFS : Hid (((Dk.files S).length ≤ 1000 ∧ ∀ y ∈ Dk.files S, y.2.length ≤ 4194304) ∧ ((Dk.crash S keep cs).length ≤ 2000 ∧ ∀ y ∈ Dk.crash S keep cs, y.2.length ≤ 4194304) ∧ (Dk.rdD S s.data.toList).length ≤ 4194304) := by
    refine ⟨⟨?_, fun y hy => ?_⟩, ⟨?_, fun y hy => ?_⟩, ?_⟩
    · unfold Dk.files
      rw [List.length_map]
      have := hW.n1
      omega
    · unfold Dk.files at hy
      obtain ⟨p, hp, rfl⟩ := List.mem_map.1 hy
      exact (hW.fl _ (hW.ids p hp)).2
    · rw [Dk.crash_rows]
      have := Dk.lvN_len hW keep
      omega
    · obtain ⟨j, hj, rfl⟩ := List.getElem_of_mem hy
      unfold Dk.crash Dk.crL at hj ⊢
      rw [List.getElem_mapIdx]
      rw [List.length_mapIdx] at hj
      have h9 := hW.fl _ (hW.left keep _ (List.getElem_mem hj)).1
      have h8 := Dk.lv_len (S.fo ((Dk.lvN S keep)[j]).2) (cs.getD j (0, 0)) h9.1
      exact Nat.le_trans h8 h9.2
    · unfold Dk.rdD
      split
      · rename_i hf
        exact (hW.fl _ (hW.ids _ (Dk.get_mem (Dk.find_some hf).1))).2
      · simp
  clear hp hBw hW hN hcv hs hln heR hlR hnm
  go_enter Try.func18, Try.ntmps18
  go_wp2_with fail
  go_loopw [11, 12, 13, 14] (fun u11 u12 u13 i wr => ∃ (k : Nat) (C1 : Nat → Option Cl) (V1 : List Value) (l1 f1 n1 : List Cb.En) (lh1 fh1 nh1 : List (Value × Nat)) (yf yc : List FX) (dB : List Nat), k ≤ 2 ∧ i = .int .i64 (k : Int) ∧ (Bk B wr C1 gb V1 l1 f1 n1 lh1 fh1 nh1 ∧ DM B wr g S M ∧ Out wr C1 gb V1 (fun q => Ft g S M q ∨ X q ∨ Fq u11 yf q ∨ Fq u12 yc q ∨ u13.ownBlock = some q) ∧ (∀ q, X q → wr.heap[q]? = w.heap[q]?) ∧ Below B w wr) ∧ (FO 0 wr u11 yf ∧ FO 0 wr u12 yc ∧ Own 0 wr u13 dB) ∧ (k = 0 ∨ ((yf.map fun x => (x.1, x.2.2)) = Dk.files S ∧ (yc.map fun x => (x.1, x.2.2)) = Dk.crash S keep cs ∧ dB = Dk.rdD S s.data.toList) ∧ lh1.length = l1.length ∧ fh1.length = f1.length ∧ nh1.length = n1.length) ∧ (l1.length ≤ l.length + k * 10000 ∧ f1.length ≤ f.length + 2 * k ∧ n1.length ≤ n.length + k)) (fun _ _ _ i _ => 2 - (intOf i).toNat)
  case atStart => exact ⟨0, C, V, l, f, n, lh, fh, nh, [], [], [], Nat.zero_le _, rfl, ⟨HP.out.1.bk, HP.out.1.dm, HP.out.1.ou.mono (fun q hq => by
    rcases hq with e | e | e | e | e
    · exact .inl e
    · exact .inr e
    · exact absurd e (fq_nil q)
    · exact absurd e (fq_nil q)
    · cases e), HP.out.1.xs, HP.out.1.be⟩, ⟨FO.nil _ _, FO.nil _ _, Own.nil _ _⟩, .inl rfl, ⟨by omega, by omega, by omega⟩⟩
  case round =>
    obtain ⟨k, C1, V1, l1, f1, n1, lh1, fh1, nh1, yf, yc, dB, hk, rfl, hK⟩ := hrel
    have HK : Hid ((Bk B wr C1 gb V1 l1 f1 n1 lh1 fh1 nh1 ∧ DM B wr g S M ∧ Out wr C1 gb V1 (fun q => Ft g S M q ∨ X q ∨ Fq u11 yf q ∨ Fq u12 yc q ∨ u13.ownBlock = some q) ∧ (∀ q, X q → wr.heap[q]? = w.heap[q]?) ∧ Below B w wr) ∧ (FO 0 wr u11 yf ∧ FO 0 wr u12 yc ∧ Own 0 wr u13 dB) ∧ (k = 0 ∨ ((yf.map fun x => (x.1, x.2.2)) = Dk.files S ∧ (yc.map fun x => (x.1, x.2.2)) = Dk.crash S keep cs ∧ dB = Dk.rdD S s.data.toList) ∧ lh1.length = l1.length ∧ fh1.length = f1.length ∧ nh1.length = n1.length) ∧ (l1.length ≤ l.length + k * 10000 ∧ f1.length ≤ f.length + 2 * k ∧ n1.length ≤ n.length + k)) := hK
    clear hK
    by_cases hlt : k < 2
    · have t1 : ((k : Int) < 2) = True := eq_true (by omega)
      obtain ⟨W0, hW0⟩ : ∃ x, x = wr := ⟨_, rfl⟩
      subst hW0
      have HF1 : Hid (Calls Try.prog 16 #[.pointer (some ⟨g, 0, none⟩)] W0 fun e w' => ∃ a m c xs, e = .returned (.slice a m c) ∧ FOA W0.heap.size w' (.slice a m c) xs ∧ (xs.map fun x => (x.1, x.2.2)) = Dk.files S ∧ Below W0.heap.size W0 w' ∧ m = xs.length) := (dkfilesA_wf _ g S M _ W0 HK.out.1.2.1 HW.out.1 HW.out.2.2).mono fun e w' ⟨v, xs, h1, h2, h3, h4⟩ => by
        obtain ⟨a, c, e9, -⟩ := Mg.row_shape h2.fo.row
        exact ⟨a, _, c, xs, by rw [h1, e9], by rw [← e9]; exact h2, h3, h4, rfl⟩
      go_wp2_with fail
      refine HF1.out.mono ?_
      rintro e Wa ⟨a1, m1, c1, x1, rfl, f9, g9, b1, hm1⟩
      have HX1 : Hid (FOA W0.heap.size Wa (.slice a1 m1 c1) x1 ∧ (x1.map fun x => (x.1, x.2.2)) = Dk.files S ∧ Below W0.heap.size W0 Wa ∧ m1 = x1.length) := ⟨f9, g9, b1, hm1⟩
      clear f9 g9 b1 HF1 hm1
      have HF2 : Hid (Calls Try.prog 25 #[.pointer (some ⟨g, 0, none⟩), .int .i64 keep, cv] Wa fun e w' => ∃ a m c xs, e = .returned (.slice a m c) ∧ FOA Wa.heap.size w' (.slice a m c) xs ∧ (xs.map fun x => (x.1, x.2.2)) = Dk.crash S keep cs ∧ Below Wa.heap.size Wa w') := (dkcrashA_wf _ g S M _ keep cv cs Wa (HK.out.1.2.1.kept HX1.out.2.2.1) (HCV.out Wa (HK.out.1.2.2.2.2.trans (HX1.out.2.2.1.mono (Nat.le_trans HP.out.2 HK.out.1.2.2.2.2.size)))) HW.out.1 HW.out.2.2).mono fun e w' ⟨v, xs, h1, h2, h3, h4⟩ => by
        obtain ⟨a, c, e9, -⟩ := Mg.row_shape h2.fo.row
        exact ⟨a, _, c, xs, by rw [h1, e9], by rw [← e9]; exact h2, h3, h4⟩
      go_wp2_with fail
      refine HF2.out.mono ?_
      rintro e Wc ⟨a2, m2, c2, x2, rfl, f9, g9, b1⟩
      have HX2 : Hid (FOA Wa.heap.size Wc (.slice a2 m2 c2) x2 ∧ (x2.map fun x => (x.1, x.2.2)) = Dk.crash S keep cs ∧ Below Wa.heap.size Wa Wc ∧ Below W0.heap.size W0 Wc) := ⟨f9, g9, b1, andThen HX1.out.2.2.1 b1⟩
      clear f9 g9 b1 HF2
      have HF3 : Hid (Calls Try.prog 39 #[.pointer (some ⟨g, 0, none⟩), .string s] Wc fun e w' => ∃ a m c, e = .returned (.tuple #[.slice a m c, .int .i64 eR]) ∧ Own Wc.heap.size w' (.slice a m c) (Dk.rdD S s.data.toList) ∧ Below Wc.heap.size Wc w') := by
        rw [HER.out.1]
        exact (dkread_any _ g S M s Wc (HK.out.1.2.1.kept HX2.out.2.2.2) HSL.out HW.out.1.ids (fun f hf => by have := (HW.out.1.fl f hf).2; omega)).mono fun e w' ⟨v, h1, h2, h3⟩ => by
          obtain ⟨a, c, e9, -⟩ := Mg.row_shape h2.row
          exact ⟨a, _, c, by rw [h1, e9], by rw [← e9]; exact h2, h3⟩
      go_wp2_with fail
      refine HF3.out.mono ?_
      rintro e Wb ⟨a3, m3, c3, rfl, f9, b1⟩
      have HX3 : Hid (Own Wc.heap.size Wb (.slice a3 m3 c3) (Dk.rdD S s.data.toList) ∧ Below Wc.heap.size Wc Wb ∧ Below W0.heap.size W0 Wb) := ⟨f9, b1, andThen HX2.out.2.2.2 b1⟩
      clear f9 b1 HF3
      have HF4 : Hid (Calls Try.prog 40 #[.pointer (some ⟨g, 0, none⟩)] Wb fun e w' => ∃ a c, e = .returned (.slice a nm c) ∧ w'.ownsRow Wb.heap.size 9 1 (.slice a nm c) lR.length (lR.flatMap enN) ∧ Below Wb.heap.size Wb w') := by
        rw [HER.out.2.2, HER.out.2.1]
        exact (dklist_any _ g S M Wb (HK.out.1.2.1.kept HX3.out.2.2) (by have := HW.out.1.n1; have := HW.out.2.1; omega)).mono fun e w' ⟨v, h1, h2, h3⟩ => by
          obtain ⟨a, c, e9, -⟩ := Mg.row_shape h2
          rw [map_enS] at h2
          exact ⟨a, c, by rw [h1, e9], by rw [← e9]; exact h2, h3⟩
      go_wp2_with fail
      refine HF4.out.mono ?_
      rintro e Wn ⟨a4, c4, rfl, f9, b1⟩
      have HX4 : Hid (Wn.ownsRow Wb.heap.size 9 1 (.slice a4 nm c4) lR.length (lR.flatMap enN) ∧ Below Wb.heap.size Wb Wn ∧ Below W0.heap.size W0 Wn) := ⟨f9, b1, andThen HX3.out.2.2 b1⟩
      clear f9 b1 HF4
      have HDW : Hid (Calls Try.prog 28 #[.pointer (some ⟨g, 0, none⟩)] Wn fun e w' => e = .returned (.bool S.down) ∧ Wn = w') := (dkdown_any _ g S M Wn (HK.out.1.2.1.kept HX4.out.2.2)).mono fun e w' ⟨h1, h2⟩ => ⟨h1, h2.symm⟩
      have HNE : Hid (∀ j (hj : j < nm), ∃ x : FX, x1[j]? = some x ∧ lR[j]? = some x.1) := fun j hj => by
        have h1 := HX1.out.2.1
        have h2 := HER.out.2.1
        have h3 := HER.out.2.2
        unfold Dk.lst at h2
        split at h2
        · rw [h3, h2] at hj
          simp at hj
        · have h4 : lR = x1.map fun x => x.1 := by
            have h5 := congrArg (List.map fun y : List UInt8 × List Nat => y.1) h1
            rw [List.map_map] at h5
            unfold Dk.files at h5
            rw [List.map_map] at h5
            rw [h2]
            exact h5.symm
          rw [h3, h4, List.length_map] at hj
          exact ⟨x1[j], List.getElem?_eq_getElem hj, by rw [h4, List.getElem?_map, List.getElem?_eq_getElem hj]; rfl⟩
      have HML : Hid (S.down = false → nm = m1) := fun hd => by
        have h1 := congrArg List.length HX1.out.2.1
        have h2 := HER.out.2.1
        unfold Dk.lst at h2
        rw [if_neg (by rw [hd]; simp)] at h2
        unfold Dk.files at h1
        rw [List.length_map, List.length_map] at h1
        rw [HER.out.2.2, h2, List.length_map, HX1.out.2.2.2, h1]
      go_upto_region 11 with fail
      go_cut [48] from 40 to 48 (fun sv wx => sv = .bool false ∧ Wn = wx)
      case first =>
        cases hd : S.down with
        | true =>
          rw [hd] at HDW
          go_wp2_with fail
          refine HDW.out.mono ?_
          rintro e w' ⟨rfl, rfl⟩
          go_wp2_with fail
          all_goals go_meet
          all_goals exact ⟨rfl, rfl⟩
        | false =>
          rw [hd] at HDW
          have hml := HML.out hd
          have q0 : ((nm : Int) != (m1 : Int)) = false := by rw [hml]; simp
          clear hml
          go_wp2_with fail
          refine HDW.out.mono ?_
          rintro e w' ⟨rfl, rfl⟩
          go_wp2_with fail
          all_goals go_meet
          all_goals exact ⟨rfl, rfl⟩
      case rest =>
        obtain ⟨rfl, rfl⟩ := hcut
        clear HDW HML
        go_wp2_with fail
        go_loopw [20] (fun i wr => ∃ j : Nat, j ≤ nm ∧ i = .int .i64 (j : Int) ∧ Below Wn.heap.size Wn wr) (fun i _ => nm - (intOf i).toNat)
        case atStart => exact ⟨0, Nat.zero_le _, rfl, Below.refl _ _⟩
        case round =>
          obtain ⟨j, hj, rfl, hbel⟩ := hrel
          have HBJ : Hid (Below Wn.heap.size Wn wr) := hbel
          clear hbel
          by_cases hjl : j < nm
          · obtain ⟨x, hx1, hx2⟩ := HNE.out j hjl
            obtain ⟨b1, rfl, u1⟩ := fa_name ((HX1.out.1.fa.kept (andThen HX2.out.2.2.1 (andThen HX3.out.2.1 HX4.out.2.1))).kept HBJ.out) hx1
            obtain ⟨b2, rfl, u2⟩ := row_name (Mg.row_kept HX4.out.1 HBJ.out) hx2
            have hjm : j < m1 := by
              have h9 := (List.getElem?_eq_some_iff.1 hx1).1
              rw [HX1.out.2.2.2]
              exact h9
            unfold enS at u1 u2
            generalize x.1 = xn at *
            clear hx1 hx2
            go_wp2_with fail
            go_quiet (fail)
            go_wp2_with fail
            go_roundw
            case rel => exact ⟨j + 1, by omega, by go_num, bel_drewN HBJ.out _⟩
            case measure => simp [intOf]; omega
          · obtain ⟨E1, hE1⟩ : ∃ x, x = wr := ⟨_, rfl⟩
            have HE1 : Hid (Below Wn.heap.size Wn E1 ∧ Below W0.heap.size W0 E1) := by rw [hE1]; exact ⟨HBJ.out, andThen HX4.out.2.2 HBJ.out⟩
            rw [← hE1]
            clear hE1 HBJ
            have HCE : Hid (∀ W, Below E1.heap.size E1 W → FA W (.slice a1 m1 c1) x1 ∧ FA W (.slice a2 m2 c2) x2 ∧ Own Wc.heap.size W (.slice a3 m3 c3) (Dk.rdD S s.data.toList) ∧ W.ownsRow Wb.heap.size 9 1 (.slice a4 nm c4) lR.length (lR.flatMap enN)) := fun W hW => by
              have h4 := andThen HE1.out.1 hW
              have h3 := andThen HX4.out.2.1 h4
              have h2 := andThen HX3.out.2.1 h3
              have h1 := andThen HX2.out.2.2.1 h2
              exact ⟨HX1.out.1.fa.kept h1, HX2.out.1.fa.kept h2, HX3.out.1.kept h3, Mg.row_kept HX4.out.1 h4⟩
            have hFL : ∀ (W : World) (a : Value) (xs : List FX) (fs : List (List UInt8 × List Nat)), FA W a xs → (xs.map fun x => (x.1, x.2.2)) = fs → Fls (Fq a xs) W a fs := fun W a xs fs h e => by rw [← e]; exact h.fls
            have HFL : Hid (∀ (W : World) (a : Value) (xs : List FX) (fs : List (List UInt8 × List Nat)), FA W a xs → (xs.map fun x => (x.1, x.2.2)) = fs → Fls (Fq a xs) W a fs) := hFL
            clear hFL
            go_upto_region 18 with fail
            go_cut [84] from 65 to 84 (fun sv wx => sv = .bool false ∧ Below E1.heap.size E1 wx)
            case first =>
              by_cases hk1 : k = 1
              · have q1 : ((k : Int) == 1) = true := by simp [hk1]
                have HEQ : Hid ((yf.map fun x => (x.1, x.2.2)) = Dk.files S ∧ (yc.map fun x => (x.1, x.2.2)) = Dk.crash S keep cs ∧ dB = Dk.rdD S s.data.toList) := by
                  rcases HK.out.2.2.1 with h9 | h9
                  · omega
                  · exact h9.1
                have HQ1 : Hid (∀ W, Below E1.heap.size E1 W → Calls Try.prog 17 #[.slice a1 m1 c1, u11] W fun e w' => e = .returned (.bool true) ∧ Below W.heap.size W w') := fun W hW => by
                  have h9 := (HK.out.2.1.1.kept (andThen HE1.out.2 hW)).fls
                  rw [HEQ.out.1] at h9
                  exact dlfalike_yes _ _ _ _ (Dk.files S) _ (HFL.out _ _ _ _ (HCE.out W hW).1 HX1.out.2.1) h9
                have HQ2 : Hid (∀ W, Below E1.heap.size E1 W → Calls Try.prog 17 #[.slice a2 m2 c2, u12] W fun e w' => e = .returned (.bool true) ∧ Below W.heap.size W w') := fun W hW => by
                  have h9 := (HK.out.2.1.2.1.kept (andThen HE1.out.2 hW)).fls
                  rw [HEQ.out.2.1] at h9
                  exact dlfalike_yes _ _ _ _ (Dk.crash S keep cs) _ (HFL.out _ _ _ _ (HCE.out W hW).2.1 HX2.out.2.1) h9
                have HQ3 : Hid (∀ W, Below E1.heap.size E1 W → Calls Try.prog 14 #[.slice a3 m3 c3, u13] W fun e w' => e = .returned (.bool true) ∧ Below W.heap.size W w') := fun W hW => by
                  have h9 := (HK.out.2.1.2.2.kept (andThen HE1.out.2 hW)).bs
                  rw [HEQ.out.2.2] at h9
                  exact dlalike_yes _ _ _ _ (HCE.out W hW).2.2.1.bs h9
                clear hk1
                have HQ0 := HQ1.out E1 (Below.refl _ _)
                have HQ0' : Hid (Calls Try.prog 17 #[.slice a1 m1 c1, u11] E1 fun e w' => e = .returned (.bool true) ∧ Below E1.heap.size E1 w') := HQ0
                clear HQ0
                go_wp2_with fail
                refine HQ0'.out.mono ?_
                rintro e G1 ⟨rfl, bg1⟩
                have HG1 : Hid (Below E1.heap.size E1 G1) := bg1
                have HQ2' : Hid (Calls Try.prog 17 #[.slice a2 m2 c2, u12] G1 fun e w' => e = .returned (.bool true) ∧ Below G1.heap.size G1 w') := HQ2.out G1 bg1
                clear bg1 HQ0'
                go_wp2_with fail
                refine HQ2'.out.mono ?_
                rintro e G2 ⟨rfl, bg2⟩
                have HG2 : Hid (Below E1.heap.size E1 G2) := andThen HG1.out bg2
                have HQ3' : Hid (Calls Try.prog 14 #[.slice a3 m3 c3, u13] G2 fun e w' => e = .returned (.bool true) ∧ Below G2.heap.size G2 w') := HQ3.out G2 HG2.out
                clear bg2 HQ2'
                go_wp2_with fail
                refine HQ3'.out.mono ?_
                rintro e G3 ⟨rfl, bg3⟩
                have HG3 : Hid (Below E1.heap.size E1 G3) := andThen HG2.out bg3
                clear bg3 HQ3'
                go_wp2_with fail
                all_goals go_meet
                all_goals exact ⟨rfl, HG3.out⟩
              · have q1 : ((k : Int) == 1) = false := by
                  rw [beq_eq_false_iff_ne]
                  omega
                clear hk1
                go_wp2_with fail
                all_goals go_meet
                all_goals exact ⟨rfl, Below.refl _ _⟩
            case rest =>
              obtain ⟨rfl, hcb⟩ := hcut
              obtain ⟨E2, hE2⟩ : ∃ x, x = wc := ⟨_, rfl⟩
              rw [← hE2] at hcb ⊢
              have HE2 : Hid (Below E1.heap.size E1 E2) := hcb
              clear hcb hE2
              have HBW : Hid (B ≤ W0.heap.size) := Nat.le_trans HP.out.2 HK.out.1.2.2.2.2.size
              have HFA : Hid ((FA E2 (.slice a1 m1 c1) x1 ∧ FA E2 (.slice a2 m2 c2) x2 ∧ Own 0 E2 (.slice a3 m3 c3) (Dk.rdD S s.data.toList) ∧ E2.ownsRow 0 9 1 (.slice a4 nm c4) lR.length (lR.flatMap enN)) ∧ (∀ q, Fq (.slice a1 m1 c1) x1 q → W0.heap.size ≤ q ∧ q < Wa.heap.size) ∧ (∀ q, Fq (.slice a2 m2 c2) x2 q → Wa.heap.size ≤ q ∧ q < Wc.heap.size) ∧ (∀ q, (Value.slice a3 m3 c3).ownBlock = some q → Wc.heap.size ≤ q ∧ q < Wb.heap.size) ∧ (∀ q, (Value.slice a4 nm c4).ownBlock = some q → Wb.heap.size ≤ q ∧ q < Wn.heap.size) ∧ (W0.heap.size ≤ Wa.heap.size ∧ Wa.heap.size ≤ Wc.heap.size ∧ Wc.heap.size ≤ Wb.heap.size ∧ Wb.heap.size ≤ Wn.heap.size ∧ Wn.heap.size ≤ E2.heap.size) ∧ Below W0.heap.size W0 E2) := by
                have h9 := HCE.out E2 HE2.out
                exact ⟨⟨h9.1, h9.2.1, h9.2.2.1.mono (Nat.zero_le _), row_low h9.2.2.2 (Nat.zero_le _)⟩, fun q e => ⟨HX1.out.1.ge e, HX1.out.1.fa.lt e⟩, fun q e => ⟨HX2.out.1.ge e, HX2.out.1.fa.lt e⟩, fun q e => World.ownsRow.lt HX3.out.1.row q e, fun q e => World.ownsRow.lt HX4.out.1 q e, ⟨HX1.out.2.2.1.size, HX2.out.2.2.1.size, HX3.out.2.1.size, HX4.out.2.1.size, Nat.le_trans HE1.out.1.size HE2.out.size⟩, andThen HE1.out.2 HE2.out⟩
              have HLX : Hid (x1.length ≤ 1000 ∧ (∀ x ∈ x1, x.2.2.length ≤ 5000000) ∧ x2.length ≤ 2000 ∧ (∀ x ∈ x2, x.2.2.length ≤ 5000000) ∧ m3 = (Dk.rdD S s.data.toList).length) := by
                have g1 := HX1.out.2.1
                have g2 := HX2.out.2.1
                refine ⟨?_, fun x hx => ?_, ?_, fun x hx => ?_, ?_⟩
                · have := congrArg List.length g1
                  rw [List.length_map] at this
                  have := HFS.out.1.1
                  omega
                · have := HFS.out.1.2 (x.1, x.2.2) (by rw [← g1]; exact List.mem_map.2 ⟨x, hx, rfl⟩)
                  show x.2.2.length ≤ _
                  simp only at this
                  omega
                · have := congrArg List.length g2
                  rw [List.length_map] at this
                  have := HFS.out.2.1.1
                  omega
                · have := HFS.out.2.1.2 (x.1, x.2.2) (by rw [← g2]; exact List.mem_map.2 ⟨x, hx, rfl⟩)
                  simp only at this
                  omega
                · obtain ⟨a, c, e9, -⟩ := Mg.row_shape HX3.out.1.row
                  injection e9
              have HLX0 : Hid ((Dk.rdD S s.data.toList).length ≤ 4194304) := HFS.out.2.2
              have HC1 : Hid (Calls Try.prog 15 #[.slice a1 m1 c1] E2 fun e w' => ∃ a m c ys, e = .returned (.slice a m c) ∧ FO E2.heap.size w' (.slice a m c) ys ∧ (ys.map fun x => (x.1, x.2.2)) = Dk.files S ∧ Below E2.heap.size E2 w') := (dlcopies_any _ _ (Dk.files S) E2 (HFL.out _ _ _ _ HFA.out.1.1 HX1.out.2.1) (by have := HFS.out.1.1; omega) (fun x hx => by have := HFS.out.1.2 x hx; omega)).mono fun e w' ⟨v, ys, h1, h2, h3, h4⟩ => by
                obtain ⟨a, c, e9, -⟩ := Mg.row_shape h2.row
                exact ⟨a, _, c, ys, by rw [h1, e9], by rw [← e9]; exact h2, h3, h4⟩
              have HC2 : Hid (∀ W, Below E2.heap.size E2 W → Calls Try.prog 15 #[.slice a2 m2 c2] W fun e w' => ∃ a m c ys, e = .returned (.slice a m c) ∧ FO W.heap.size w' (.slice a m c) ys ∧ (ys.map fun x => (x.1, x.2.2)) = Dk.crash S keep cs ∧ Below W.heap.size W w') := fun W hW => (dlcopies_any _ _ (Dk.crash S keep cs) W (HFL.out _ _ _ _ (HFA.out.1.2.1.kept hW) HX2.out.2.1) (by have := HFS.out.2.1.1; omega) (fun x hx => by have := HFS.out.2.1.2 x hx; omega)).mono fun e w' ⟨v, ys, h1, h2, h3, h4⟩ => by
                obtain ⟨a, c, e9, -⟩ := Mg.row_shape h2.row
                exact ⟨a, _, c, ys, by rw [h1, e9], by rw [← e9]; exact h2, h3, h4⟩
              have HC3 : Hid (∀ W, Below E2.heap.size E2 W → Calls Try.prog 12 #[.slice a3 m3 c3] W fun e w' => ∃ a m c, e = .returned (.slice a m c) ∧ Own W.heap.size w' (.slice a m c) (Dk.rdD S s.data.toList) ∧ Below W.heap.size W w') := fun W hW => (dlcopied_any _ _ W (HFA.out.1.2.2.1.kept hW).bs (by have := HFS.out.2.2; omega)).mono fun e w' ⟨v, h1, h2, h3⟩ => by
                obtain ⟨a, c, e9, -⟩ := Mg.row_shape h2.row
                exact ⟨a, _, c, by rw [h1, e9], by rw [← e9]; exact h2, h3⟩
              clear HCE HNE HCV HSL HFL
              go_wp2_with fail
              refine HC1.out.mono ?_
              rintro e D1 ⟨a5, m5, c5, z1, rfl, h51, h52, h53⟩
              have HD1 : Hid (FO E2.heap.size D1 (.slice a5 m5 c5) z1 ∧ (z1.map fun x => (x.1, x.2.2)) = Dk.files S ∧ Below E2.heap.size E2 D1) := ⟨h51, h52, h53⟩
              clear h51 h52 h53 HC1
              have HC2' : Hid (Calls Try.prog 15 #[.slice a2 m2 c2] D1 fun e w' => ∃ a m c ys, e = .returned (.slice a m c) ∧ FO D1.heap.size w' (.slice a m c) ys ∧ (ys.map fun x => (x.1, x.2.2)) = Dk.crash S keep cs ∧ Below D1.heap.size D1 w') := HC2.out D1 HD1.out.2.2
              clear HC2
              go_wp2_with fail
              refine HC2'.out.mono ?_
              rintro e D2 ⟨a6, m6, c6, z2, rfl, h51, h52, h53⟩
              have HD2 : Hid (FO D1.heap.size D2 (.slice a6 m6 c6) z2 ∧ (z2.map fun x => (x.1, x.2.2)) = Dk.crash S keep cs ∧ Below D1.heap.size D1 D2 ∧ Below E2.heap.size E2 D2) := ⟨h51, h52, h53, andThen HD1.out.2.2 h53⟩
              clear h51 h52 h53 HC2'
              have HC3' : Hid (Calls Try.prog 12 #[.slice a3 m3 c3] D2 fun e w' => ∃ a m c, e = .returned (.slice a m c) ∧ Own D2.heap.size w' (.slice a m c) (Dk.rdD S s.data.toList) ∧ Below D2.heap.size D2 w') := HC3.out D2 HD2.out.2.2.2
              clear HC3
              go_wp2_with fail
              refine HC3'.out.mono ?_
              rintro e D3 ⟨a7, m7, c7, rfl, h51, h53⟩
              have HD3 : Hid (Own D2.heap.size D3 (.slice a7 m7 c7) (Dk.rdD S s.data.toList) ∧ Below D2.heap.size D2 D3 ∧ Below E2.heap.size E2 D3) := ⟨h51, h53, andThen HD2.out.2.2.2 h53⟩
              clear h51 h53 HC3'
              have HZ : Hid (∀ q, Zq g S M X (.slice a5 m5 c5) (.slice a6 m6 c6) (.slice a7 m7 c7) z1 z2 q → q < W0.heap.size ∨ E2.heap.size ≤ q) := fun q e => by
                have s1 := HD1.out.2.2.size
                have s2 := HD2.out.2.2.2.size
                rcases e with e | e | e | e | e
                · exact .inl (HK.out.1.2.2.1 q (.inl e)).1
                · exact .inl (HK.out.1.2.2.1 q (.inr (.inl e))).1
                · exact .inr (HD1.out.1.ge e)
                · exact .inr (Nat.le_trans s1 (HD2.out.1.ge e))
                · exact .inr (Nat.le_trans s2 (World.ownsRow.lt HD3.out.1.row q e).1)
              have HL0 : Hid (LS B w D3 gb g S M X (.slice a5 m5 c5) (.slice a6 m6 c6) (.slice a7 m7 c7) z1 z2 (Dk.rdD S s.data.toList) C1 V1 l1 f1 n1 lh1 fh1 nh1 fun q => Fq (.slice a1 m1 c1) x1 q ∨ Fq (.slice a2 m2 c2) x2 q ∨ (Value.slice a3 m3 c3).ownBlock = some q ∨ (Value.slice a4 nm c4).ownBlock = some q) := by
                have hb := andThen HFA.out.2.2.2.2.2.2 HD3.out.2.2
                have s1 := HD1.out.2.2.size
                have s2 := HD2.out.2.2.1.size
                have s3 := HD3.out.2.1.size
                obtain ⟨t1, t2, t3, t4, t5⟩ := HFA.out.2.2.2.2.2.1
                refine ⟨HK.out.1.1.kept hb, HK.out.1.2.1.kept hb, (HK.out.1.2.2.1.more HK.out.1.1 hb.size (E2 := fun q => W0.heap.size ≤ q ∧ q < D3.heap.size) fun q e => e).mono fun q e => ?_, ?_, ?_, ?_, fun q e => (hb.block q (HK.out.1.2.2.1 q (.inr (.inl e))).1).trans (HK.out.1.2.2.2.1 q e), HK.out.1.2.2.2.2.trans (hb.mono HBW.out)⟩
                · rcases e with (e | e | e | e | e) | e | e | e | e
                  · exact .inl (.inl e)
                  · exact .inl (.inr (.inl e))
                  · have h1 := HD1.out.1.ge e
                    have h2 := HD1.out.1.lt e
                    exact .inr ⟨by omega, by omega⟩
                  · have h1 := HD2.out.1.ge e
                    have h2 := HD2.out.1.lt e
                    exact .inr ⟨by omega, by omega⟩
                  · have h1 := World.ownsRow.lt HD3.out.1.row q e
                    exact .inr ⟨by omega, by omega⟩
                  · have h1 := HFA.out.2.1 q e
                    exact .inr ⟨by omega, by omega⟩
                  · have h1 := HFA.out.2.2.1 q e
                    exact .inr ⟨by omega, by omega⟩
                  · have h1 := HFA.out.2.2.2.1 q e
                    exact .inr ⟨by omega, by omega⟩
                  · have h1 := HFA.out.2.2.2.2.1 q e
                    exact .inr ⟨by omega, by omega⟩
                · have h1 := HD1.out.1.kept (andThen HD2.out.2.2.1 HD3.out.2.1)
                  exact ⟨row_low h1.row (Nat.zero_le _), fun x hx => (h1.own x hx).mono (Nat.zero_le _)⟩
                · have h1 := HD2.out.1.kept HD3.out.2.1
                  exact ⟨row_low h1.row (Nat.zero_le _), fun x hx => (h1.own x hx).mono (Nat.zero_le _)⟩
                · exact HD3.out.1.mono (Nat.zero_le _)
              have HLK : Hid (l1.length + 3001 ≤ 1000000 ∧ f1.length + 2 ≤ 1000000 ∧ n1.length + 1 ≤ 1000000) := by
                have h1 := HK.out.2.2.2
                have h2 := HLN.out
                exact ⟨by omega, by omega, by omega⟩
              have HS1 : Hid (Calls Try.prog 41 #[.pointer (some ⟨gb, 0, none⟩), .slice a1 m1 c1] D3 fun e w' => e = .returned (.tuple #[]) ∧ ∃ C' V' l' f', LS B w w' gb g S M X (.slice a5 m5 c5) (.slice a6 m6 c6) (.slice a7 m7 c7) z1 z2 (Dk.rdD S s.data.toList) C' V' l' f' n1 lh1 fh1 nh1 (fun q => Fq (.slice a2 m2 c2) x2 q ∨ (Value.slice a3 m3 c3).ownBlock = some q ∨ (Value.slice a4 nm c4).ownBlock = some q) ∧ l'.length = l1.length + x1.length ∧ f'.length = f1.length + 1 ∧ (∀ q, (Fq (.slice a2 m2 c2) x2 q ∨ (Value.slice a3 m3 c3).ownBlock = some q ∨ (Value.slice a4 nm c4).ownBlock = some q) → w'.heap[q]? = D3.heap[q]?) ∧ D3.heap.size ≤ w'.heap.size) := by
                obtain ⟨t1, t2, t3, t4, t5⟩ := HFA.out.2.2.2.2.2.1
                have hB := HBW.out
                have s3 := HD3.out.2.2.size
                refine ls_spoils HL0.out _ _ x1 (HFA.out.1.1.kept HD3.out.2.2) (by have := HLX.out.1; omega) HLX.out.2.1 (by have := HLX.out.1; have := HLK.out.1; omega) (by have := HLK.out.2.1; omega) (fun q e => ⟨.inl e, ?_, fun e2 => ?_⟩) (fun q e => ⟨.inr e, fun e2 => ?_⟩) (by omega)
                · have := HFA.out.2.1 q e
                  omega
                · have := HFA.out.2.1 q e
                  have := HZ.out q e2
                  omega
                · have := HFA.out.2.1 q e2
                  rcases e with e | e | e
                  · have := HFA.out.2.2.1 q e
                    omega
                  · have := HFA.out.2.2.2.1 q e
                    omega
                  · have := HFA.out.2.2.2.2.1 q e
                    omega
              clear HE1 HE2 HX1 HX2 HX3 HX4 HFS HW HL0
              go_wp2_with fail
              refine HS1.out.mono ?_
              rintro e G1 ⟨rfl, C2, V2, l2, f2, h1, h2, h3, h4, h5⟩
              have HG1 : Hid (LS B w G1 gb g S M X (.slice a5 m5 c5) (.slice a6 m6 c6) (.slice a7 m7 c7) z1 z2 (Dk.rdD S s.data.toList) C2 V2 l2 f2 n1 lh1 fh1 nh1 (fun q => Fq (.slice a2 m2 c2) x2 q ∨ (Value.slice a3 m3 c3).ownBlock = some q ∨ (Value.slice a4 nm c4).ownBlock = some q) ∧ l2.length = l1.length + x1.length ∧ f2.length = f1.length + 1 ∧ (∀ q, (Fq (.slice a2 m2 c2) x2 q ∨ (Value.slice a3 m3 c3).ownBlock = some q ∨ (Value.slice a4 nm c4).ownBlock = some q) → G1.heap[q]? = D3.heap[q]?) ∧ E2.heap.size ≤ G1.heap.size) := ⟨h1, h2, h3, h4, Nat.le_trans HD3.out.2.2.size h5⟩
              clear h1 h2 h3 h4 h5 HS1
              have HS2 : Hid (Calls Try.prog 41 #[.pointer (some ⟨gb, 0, none⟩), .slice a2 m2 c2] G1 fun e w' => e = .returned (.tuple #[]) ∧ ∃ C' V' l' f', LS B w w' gb g S M X (.slice a5 m5 c5) (.slice a6 m6 c6) (.slice a7 m7 c7) z1 z2 (Dk.rdD S s.data.toList) C' V' l' f' n1 lh1 fh1 nh1 (fun q => (Value.slice a3 m3 c3).ownBlock = some q ∨ (Value.slice a4 nm c4).ownBlock = some q) ∧ l'.length = l2.length + x2.length ∧ f'.length = f2.length + 1 ∧ (∀ q, ((Value.slice a3 m3 c3).ownBlock = some q ∨ (Value.slice a4 nm c4).ownBlock = some q) → w'.heap[q]? = G1.heap[q]?) ∧ G1.heap.size ≤ w'.heap.size) := by
                obtain ⟨t1, t2, t3, t4, t5⟩ := HFA.out.2.2.2.2.2.1
                have hB := HBW.out
                have s3 := HG1.out.2.2.2.2
                refine ls_spoils HG1.out.1 _ _ x2 ((HFA.out.1.2.1.kept HD3.out.2.2).blk fun q e => HG1.out.2.2.2.1 q (.inl e)) (by have := HLX.out.2.2.1; omega) HLX.out.2.2.2.1 (by have := HLX.out; have := HG1.out.2.1; have := HLK.out.1; omega) (by have := HLK.out.2.1; have := HG1.out.2.2.1; omega) (fun q e => ⟨.inl e, ?_, fun e2 => ?_⟩) (fun q e => ⟨.inr e, fun e2 => ?_⟩) (by omega)
                · have := HFA.out.2.2.1 q e
                  omega
                · have := HFA.out.2.2.1 q e
                  have := HZ.out q e2
                  omega
                · have := HFA.out.2.2.1 q e2
                  rcases e with e | e
                  · have := HFA.out.2.2.2.1 q e
                    omega
                  · have := HFA.out.2.2.2.2.1 q e
                    omega
              go_wp2_with fail
              refine HS2.out.mono ?_
              rintro e G2 ⟨rfl, C3, V3, l3, f3, h1, h2, h3, h4, h5⟩
              have HG2 : Hid (LS B w G2 gb g S M X (.slice a5 m5 c5) (.slice a6 m6 c6) (.slice a7 m7 c7) z1 z2 (Dk.rdD S s.data.toList) C3 V3 l3 f3 n1 lh1 fh1 nh1 (fun q => (Value.slice a3 m3 c3).ownBlock = some q ∨ (Value.slice a4 nm c4).ownBlock = some q) ∧ l3.length = l1.length + x1.length + x2.length ∧ f3.length = f1.length + 2 ∧ (∀ q, ((Value.slice a3 m3 c3).ownBlock = some q ∨ (Value.slice a4 nm c4).ownBlock = some q) → G2.heap[q]? = D3.heap[q]?) ∧ E2.heap.size ≤ G2.heap.size) := ⟨h1, by rw [h2, HG1.out.2.1], by rw [h3, HG1.out.2.2.1], fun q e => (h4 q e).trans (HG1.out.2.2.2.1 q (.inr e)), Nat.le_trans HG1.out.2.2.2.2 h5⟩
              clear h1 h2 h3 h4 h5 HS2 HG1
              have HS3 : Hid (Calls Try.prog 42 #[.pointer (some ⟨gb, 0, none⟩), .slice a3 m3 c3] G2 fun e w' => e = .returned (.tuple #[]) ∧ ∃ C' V' l', LS B w w' gb g S M X (.slice a5 m5 c5) (.slice a6 m6 c6) (.slice a7 m7 c7) z1 z2 (Dk.rdD S s.data.toList) C' V' l' f3 n1 lh1 fh1 nh1 (fun q => (Value.slice a4 nm c4).ownBlock = some q) ∧ l'.length = l3.length + 1 ∧ (∀ q, (Value.slice a4 nm c4).ownBlock = some q → w'.heap[q]? = G2.heap[q]?) ∧ G2.heap.size ≤ w'.heap.size) := by
                obtain ⟨t1, t2, t3, t4, t5⟩ := HFA.out.2.2.2.2.2.1
                have hB := HBW.out
                have s3 := HG2.out.2.2.2.2
                have hr := Mg.row_block (HFA.out.1.2.2.1.kept HD3.out.2.2).row fun q e => HG2.out.2.2.2.1 q (.inl e)
                rw [← HLX.out.2.2.2.2] at hr
                refine ls_keep HG2.out.1 _ _ m3 _ hr (by have := HLX.out.2.2.2.2; have := HLX0.out; omega) (by have := HLX.out; have := HG2.out.2.1; have := HLK.out.1; omega) (fun q e => ⟨.inl e, ?_, fun e2 => ?_⟩) (fun q e => ⟨.inr e, fun e2 => ?_⟩) (by omega)
                · have := HFA.out.2.2.2.1 q e
                  omega
                · have := HFA.out.2.2.2.1 q e
                  have := HZ.out q e2
                  omega
                · have := HFA.out.2.2.2.1 q e2
                  have := HFA.out.2.2.2.2.1 q e
                  omega
              go_wp2_with fail
              refine HS3.out.mono ?_
              rintro e G3 ⟨rfl, C4, V4, l4, h1, h2, h4, h5⟩
              have HG3 : Hid (LS B w G3 gb g S M X (.slice a5 m5 c5) (.slice a6 m6 c6) (.slice a7 m7 c7) z1 z2 (Dk.rdD S s.data.toList) C4 V4 l4 f3 n1 lh1 fh1 nh1 (fun q => (Value.slice a4 nm c4).ownBlock = some q) ∧ l4.length = l1.length + x1.length + x2.length + 1 ∧ f3.length = f1.length + 2 ∧ (∀ q, (Value.slice a4 nm c4).ownBlock = some q → G3.heap[q]? = D3.heap[q]?) ∧ E2.heap.size ≤ G3.heap.size) := ⟨h1, by rw [h2, HG2.out.2.1], HG2.out.2.2.1, fun q e => (h4 q e).trans (HG2.out.2.2.2.1 q (.inr e)), Nat.le_trans HG2.out.2.2.2.2 h5⟩
              clear h1 h2 h4 h5 HS3 HG2
              have HS4 : Hid (Calls Try.prog 43 #[.pointer (some ⟨gb, 0, none⟩), .slice a4 nm c4] G3 fun e w' => e = .returned (.tuple #[]) ∧ ∃ C' V' n', LS B w w' gb g S M X (.slice a5 m5 c5) (.slice a6 m6 c6) (.slice a7 m7 c7) z1 z2 (Dk.rdD S s.data.toList) C' V' l4 f3 n' lh1 fh1 nh1 (fun _ => False) ∧ n'.length = n1.length + 1 ∧ G3.heap.size ≤ w'.heap.size) := by
                obtain ⟨t1, t2, t3, t4, t5⟩ := HFA.out.2.2.2.2.2.1
                have hB := HBW.out
                have s3 := HG3.out.2.2.2.2
                have hr := Mg.row_block (Mg.row_kept HFA.out.1.2.2.2 HD3.out.2.2) fun q e => HG3.out.2.2.2.1 q e
                rw [← HER.out.2.2] at hr
                refine ls_wipes HG3.out.1 _ nm _ hr (by omega) (by have := HLK.out.2.2; omega) (fun q e => ⟨e, ?_, fun e2 => ?_⟩) (by omega)
                · have := HFA.out.2.2.2.2.1 q e
                  omega
                · have := HFA.out.2.2.2.2.1 q e
                  have := HZ.out q e2
                  omega
              go_wp2_with fail
              refine HS4.out.mono ?_
              rintro e G4 ⟨rfl, C5, V5, n2, h1, h2, h5⟩
              have HG4 : Hid (LS B w G4 gb g S M X (.slice a5 m5 c5) (.slice a6 m6 c6) (.slice a7 m7 c7) z1 z2 (Dk.rdD S s.data.toList) C5 V5 l4 f3 n2 lh1 fh1 nh1 (fun _ => False) ∧ l4.length = l1.length + x1.length + x2.length + 1 ∧ f3.length = f1.length + 2 ∧ n2.length = n1.length + 1 ∧ E2.heap.size ≤ G4.heap.size) := ⟨h1, HG3.out.2.1, HG3.out.2.2.1, h2, Nat.le_trans HG3.out.2.2.2.2 h5⟩
              clear h1 h2 h5 HS4 HG3
              have HS5 : Hid (Calls Try.prog 44 #[.pointer (some ⟨gb, 0, none⟩)] G4 fun e w' => e = .returned (.tuple #[]) ∧ ∃ C' V' lh' fh' nh', LS B w w' gb g S M X (.slice a5 m5 c5) (.slice a6 m6 c6) (.slice a7 m7 c7) z1 z2 (Dk.rdD S s.data.toList) C' V' l4 f3 n2 lh' fh' nh' (fun _ => False) ∧ lh'.length = l4.length ∧ fh'.length = f3.length ∧ nh'.length = n2.length) := by
                obtain ⟨t1, t2, t3, t4, t5⟩ := HFA.out.2.2.2.2.2.1
                have hB := HBW.out
                have s3 := HG4.out.2.2.2.2
                have h1 := HG4.out.2
                have h2 := HLX.out
                have h3 := HLK.out
                exact ls_grow HG4.out.1 (by omega) (by omega) (by omega) (by omega)
              go_wp2_with fail
              refine HS5.out.mono ?_
              rintro e G5 ⟨rfl, C6, V6, lh2, fh2, nh2, h1, h2, h3, h4⟩
              have HG5 : Hid (LS B w G5 gb g S M X (.slice a5 m5 c5) (.slice a6 m6 c6) (.slice a7 m7 c7) z1 z2 (Dk.rdD S s.data.toList) C6 V6 l4 f3 n2 lh2 fh2 nh2 (fun _ => False) ∧ lh2.length = l4.length ∧ fh2.length = f3.length ∧ nh2.length = n2.length) := ⟨h1, h2, h3, h4⟩
              clear h1 h2 h3 h4 HS5
              go_wp2_with fail
              go_roundw
              case rel =>
                have h1 := HG5.out
                have h2 := HG4.out.2
                have h3 := HK.out.2.2.2
                have h4 := HLX.out
                exact ⟨k + 1, C6, V6, l4, f3, n2, lh2, fh2, nh2, z1, z2, _, by omega, by go_num, ⟨h1.1.bk, h1.1.dm, h1.1.ou.mono fun q e => .inl e, h1.1.xs, h1.1.be⟩, ⟨h1.1.f1, h1.1.f2, h1.1.f3⟩, .inr ⟨⟨HD1.out.2.1, HD2.out.2.1, rfl⟩, h1.2⟩, by omega⟩
              case measure => simp [intOf]; omega
    · have hk2 : k = 2 := by omega
      subst hk2
      have HST : Hid (Calls Try.prog 45 #[.pointer (some ⟨gb, 0, none⟩)] wr fun e w' => e = .returned (.bool true) ∧ Below wr.heap.size wr w') := by
        have h1 := HK.out.2.2
        have h2 := HLN.out
        rcases h1.1 with h9 | h9
        · omega
        · exact dlstands_any B gb C1 V1 l1 f1 n1 lh1 fh1 nh1 wr HK.out.1.1 (by omega) (by omega) (by omega) h9.2.1 h9.2.2.1 h9.2.2.2
      go_wp2_with fail
      refine HST.out.mono ?_
      rintro e G6 ⟨rfl, hb⟩
      have HG6 : Hid (Below wr.heap.size wr G6) := hb
      clear hb HST
      go_wp2_with fail
      go_returns
      refine ⟨rfl, C1, V1, l1, f1, n1, lh1, fh1, nh1, ?_, ?_⟩
      · have h1 := HK.out.1
        have hb := HG6.out
        exact ⟨h1.1.kept hb, h1.2.1.kept hb, (h1.2.2.1.kept hb.size).mono fun q e => e.elim .inl fun e => .inr (.inl e), fun q e => (hb.block q (h1.2.2.1 q (.inr (.inl e))).1).trans (h1.2.2.2.1 q e), h1.2.2.2.2.trans (hb.mono (Nat.le_trans HP.out.2 h1.2.2.2.2.size))⟩
      · have := HK.out.2.2.2
        omega
end Go.Proofs.Ytjepeeopjjnglab

/-
  DiskOwn: tails; a byte that is written over.
-/
namespace Go.Proofs.Ytjepeeopjjnglab
open Go Go.RowKit Go.ChangeShapes
open Wb
open Rd
open Cb (Bo Fr Cl)
theorem bv_set (l : List Nat) (j x : Nat) : bv (l.set j x) = (bv l).set j (.int .u8 (x : Int)) := by
  unfold bv
  rw [List.map_set]
theorem ok_set {l : List Nat} (h : ok l) (j x : Nat) (hx : x < 256) : ok (l.set j x) := fun y hy => by
  rcases List.mem_or_eq_of_mem_set hy with e | e
  · exact h y e
  · rw [e]
    exact hx
set_option maxRecDepth 100000 in
theorem xor_u8 (x : Nat) (hx : x < 256) : ∃ y : Nat, bits .xor .u8 (x : Int) 255 = (y : Int) ∧ y < 256 := by
  have key : ∀ x : Fin 256, 0 ≤ bits .xor .u8 ((x.val : Nat) : Int) 255 ∧ bits .xor .u8 ((x.val : Nat) : Int) 255 < 256 := by decide
  obtain ⟨h1, h2⟩ := key ⟨x, hx⟩
  refine ⟨(bits .xor .u8 (x : Int) 255).toNat, (Int.toNat_of_nonneg h1).symm, ?_⟩
  have h3 : bits .xor .u8 (x : Int) 255 < 256 := h2
  omega
/-- a byte of a row is written over -/
theorem Own.put {B : Nat} {w : World} {g c n : Nat} {l : List Nat} (h : Own B w (.slice (some ⟨g, 0, none⟩) n c) l) (j x : Nat) (hj : j < l.length) (hx : x < 256) : w.cell? ⟨g, j, none⟩ = some (.int .u8 (l[j] : Int)) ∧ w.frozen? ⟨g, j, none⟩ = false ∧ Own B (w.setCell ⟨g, j, none⟩ (.int .u8 (x : Int))) (.slice (some ⟨g, 0, none⟩) n c) (l.set j x) ∧ Fr w (w.setCell ⟨g, j, none⟩ (.int .u8 (x : Int))) (· = g) ∧ (w.setCell ⟨g, j, none⟩ (.int .u8 (x : Int))).heap.size = w.heap.size := by
  obtain ⟨a9, c9, e9, -⟩ := Mg.row_shape h.row
  simp only [Value.slice.injEq] at e9
  obtain ⟨rfl, rfl, rfl⟩ := e9
  refine ⟨?_, World.ownsRow.frozenAt h.row j, ⟨?_, ok_set h.good j x hx⟩, Cb.fr_set _ _ _ _, by simp⟩
  · rw [h.row.cellAt j (by omega), bv_get l j hj]
  · rw [List.length_set, bv_set]
    exact (World.ownsRow.stored h.row j _).1
/-- long lists of bytes that end as they must -/
def Tl (w : World) (v : Value) (ls : List (Value × List Nat)) : Prop := w.ownsRow 0 29 1 v (ls.map fun x => x.1).length (ls.map fun x => x.1) ∧ ∀ x ∈ ls, Own 0 w x.1 (x.2 ++ [91, 92, 93])
theorem Tl.kept {w w' : World} {v : Value} {ls : List (Value × List Nat)} (h : Tl w v ls) (hb : Below w.heap.size w w') : Tl w' v ls := ⟨Mg.row_kept h.1 hb, fun x hx => (h.2 x hx).kept hb⟩
theorem tail_at {w : World} {v : Value} {d : List Nat} (h : Own 0 w v (d ++ [91, 92, 93])) : ∃ b c, v = .slice (some ⟨b, 0, none⟩) (d.length + 3) c ∧ w.cell? ⟨b, d.length, none⟩ = some (.int .u8 91) ∧ w.cell? ⟨b, d.length + 1, none⟩ = some (.int .u8 92) ∧ w.cell? ⟨b, d.length + 2, none⟩ = some (.int .u8 93) := by
  rcases h.shape with ⟨-, e⟩ | ⟨g, cap, e, -, -, -, -, hc⟩
  · have := congrArg List.length e
    simp at this
  · have hl : (d ++ [91, 92, 93]).length = d.length + 3 := by simp
    refine ⟨g, cap, by rw [e, hl], ?_, ?_, ?_⟩
    · rw [hc d.length (by omega), List.getElem_append_right (Nat.le_refl _)]
      simp
    · rw [hc (d.length + 1) (by omega), List.getElem_append_right (by omega)]
      simp
    · rw [hc (d.length + 2) (by omega), List.getElem_append_right (by omega)]
      simp
set_option maxRecDepth 100000 in
set_option maxHeartbeats 8000000 in
theorem dltails_any (v : Value) (ls : List (Value × List Nat)) (w : World) (h : Tl w v ls) (hl : ls.length ≤ 1000000 ∧ ∀ x ∈ ls, x.2.length ≤ 1000000) :
    Calls Try.prog 19 #[v] w fun e w' => e = .returned (.bool true) ∧ Below w.heap.size w w' := by
  have H0 : Hid (Tl w v ls ∧ ∀ x ∈ ls, x.2.length ≤ 1000000) := ⟨h, hl.2⟩
  obtain ⟨a, c, e, h1, h2⟩ := Mg.row_shape h.1
  rw [List.length_map] at e h1
  unfold maxLen at h2
  subst e
  obtain ⟨n, hn⟩ : ∃ n, n = ls.length := ⟨_, rfl⟩
  have HN : Hid (n = ls.length) := hn
  have hn9 : n ≤ 1000000 := by rw [hn]; exact hl.1
  rw [← hn] at h1 H0 ⊢
  clear h hl hn
  go_enter Try.func19, Try.ntmps19
  go_wp2_with fail
  go_loopw [3] (fun i wr => ∃ k : Nat, k ≤ n ∧ i = .int .i64 (k : Int) ∧ Below w.heap.size w wr) (fun i _ => n - (intOf i).toNat)
  case atStart => exact ⟨0, Nat.zero_le _, rfl, Below.refl _ _⟩
  case round =>
    obtain ⟨k, hk, rfl, hb⟩ := hrel
    have HB : Hid (Below w.heap.size w wr) := hb
    clear hb
    by_cases hlt : k < n
    · have hkl : k < ls.length := by rw [← HN.out]; exact hlt
      have hx := List.getElem?_eq_getElem hkl
      have hxm := List.getElem_mem hkl
      generalize ls[k] = x at hx hxm
      have ht := H0.out.1.kept HB.out
      obtain ⟨b1, rfl, u1⟩ := row_get (fun y : Value × List Nat => y.1) ht.1 hx
      obtain ⟨b2, c2, e2, y0, y1, y2⟩ := tail_at (ht.2 x hxm)
      have hd := H0.out.2 x hxm
      rw [e2] at u1
      generalize x.2.length = m at *
      clear ht hx hxm e2
      have q0 : ((m + 3 : Nat) : Int) - 3 = (m : Int) := by omega
      have q1 : ((m : Int) < 0) = False := eq_false (by omega)
      go_wp2_with fail
      go_roundw
      case rel => exact ⟨k + 1, by omega, by go_num, HB.out⟩
      case measure => simp [intOf]; omega
    · go_wp2_with fail
      go_returns
      exact ⟨rfl, HB.out⟩
end Go.Proofs.Ytjepeeopjjnglab

/-
  DiskOwn: the walk.
-/
namespace Go.Proofs.Ytjepeeopjjnglab
open Go Go.RowKit Go.ChangeShapes
open Wb
open Rd
open Cb (Bo Fr Cl)
theorem fl_one : ∀ ls : List (Value × List Nat), (ls.flatMap fun x => [x.1]) = ls.map fun x => x.1
  | [] => rfl
  | x :: l => by rw [List.flatMap_cons, List.map_cons, fl_one l]; rfl
/-- the blocks of the long lists -/
def Lg (u : Value) (ls : List (Value × List Nat)) (q : Nat) : Prop := u.ownBlock = some q ∨ ∃ x ∈ ls, x.1.ownBlock = some q
structure OS (B : Nat) (w0 W : World) (gb g : Nat) (S : Dk.DS) (M : Mm) (C : Nat → Option Cl) (V : List Value) (l f n : List Cb.En) (lh fh nh : List (Value × Nat)) (u : Value) (ls : List (Value × List Nat)) : Prop where
  bk : Bk B W C gb V l f n lh fh nh
  dm : DM B W g S M
  row : W.ownsRow B 29 1 u (ls.map fun x => x.1).length (ls.map fun x => x.1)
  own : ∀ x ∈ ls, Own B W x.1 (x.2 ++ [91, 92, 93])
  len : ∀ x ∈ ls, x.2.length ≤ 1000000
  ou : Out W C gb V fun q => Ft g S M q ∨ Lg u ls q
  ap : ∀ q, Lg u ls q → ¬ Ft g S M q
  be : Below B w0 W
section
variable {B : Nat} {w0 W W' : World} {gb g : Nat} {S S' : Dk.DS} {M M' : Mm} {C C' : Nat → Option Cl} {V V' : List Value} {l f n l' f' n' : List Cb.En} {lh fh nh lh' fh' nh' : List (Value × Nat)} {u u' : Value} {ls : List (Value × List Nat)}
theorem OS.lt (h : OS B w0 W gb g S M C V l f n lh fh nh u ls) {q : Nat} (hq : Lg u ls q) : B ≤ q ∧ q < W.heap.size := by
  rcases hq with e | ⟨x, hx, e⟩
  · exact World.ownsRow.lt h.row q e
  · exact World.ownsRow.lt (h.own x hx).row q e
theorem OS.tl (h : OS B w0 W gb g S M C V l f n lh fh nh u ls) : Tl W u ls := ⟨row_low h.row (Nat.zero_le _), fun x hx => (h.own x hx).mono (Nat.zero_le _)⟩
theorem OS.kept (h : OS B w0 W gb g S M C V l f n lh fh nh u ls) (hB : B ≤ W.heap.size) (hb : Below W.heap.size W W') : OS B w0 W' gb g S M C V l f n lh fh nh u ls := ⟨h.bk.kept hb, h.dm.kept hb, Mg.row_kept h.row hb, fun x hx => (h.own x hx).kept hb, h.len, h.ou.kept hb.size, h.ap, h.be.trans (hb.mono hB)⟩
theorem OS.turn (h : OS B w0 W gb g S M C V l f n lh fh nh u ls) (hB : B ≤ W.heap.size) (hf : Fr W W' fun q => Ft g S M q ∨ u.ownBlock = some q) (hdm : DM B W' g S' M') (hft : ∀ q, Ft g S' M' q → Ft g S M q ∨ W.heap.size ≤ q) (x : Value × List Nat) (hrow : W'.ownsRow B 29 1 u' ((ls ++ [x]).map fun x => x.1).length ((ls ++ [x]).map fun x => x.1)) (hu : ∀ q, u'.ownBlock = some q → u.ownBlock = some q ∨ W.heap.size ≤ q) (hx : Own B W' x.1 (x.2 ++ [91, 92, 93])) (hxb : ∀ q, x.1.ownBlock = some q → W.heap.size ≤ q) (hap : ∀ q, (u'.ownBlock = some q ∨ x.1.ownBlock = some q) → W.heap.size ≤ q → ¬ Ft g S' M' q) (hlen : x.2.length ≤ 1000000) : OS B w0 W' gb g S' M' C V l f n lh fh nh u' (ls ++ [x]) := by
  have hlo : ∀ y ∈ ls, Own B W' y.1 (y.2 ++ [91, 92, 93]) := fun y hy => by
    have h1 := h.own y hy
    refine ⟨Mg.row_block h1.row fun q e => hf.block q (World.ownsRow.lt h1.row q e).2 fun e2 => ?_, h1.good⟩
    rcases e2 with e2 | e2
    · exact h.ap q (.inr ⟨y, hy, e⟩) e2
    · exact Mg.kinds_apart h.row h1.row (by decide) q e2 e
  have hlg : ∀ q, Lg u' (ls ++ [x]) q → (q < W'.heap.size) ∧ ((q < W.heap.size ∧ Lg u ls q) ∨ (W.heap.size ≤ q ∧ (u'.ownBlock = some q ∨ x.1.ownBlock = some q))) := fun q hq => by
    rcases hq with e | ⟨y, hy, e⟩
    · refine ⟨(World.ownsRow.lt hrow q e).2, ?_⟩
      rcases hu q e with e2 | e2
      · exact .inl ⟨(World.ownsRow.lt h.row q e2).2, .inl e2⟩
      · exact .inr ⟨e2, .inl e⟩
    · rcases List.mem_append.1 hy with hy | hy
      · have h1 := World.ownsRow.lt (h.own y hy).row q e
        exact ⟨Nat.lt_of_lt_of_le h1.2 hf.size, .inl ⟨h1.2, .inr ⟨y, hy, e⟩⟩⟩
      · rw [List.mem_singleton.1 hy] at e
        exact ⟨(World.ownsRow.lt hx.row q e).2, .inr ⟨hxb q e, .inr e⟩⟩
  have hnew : ∀ q, W.heap.size ≤ q → C q = none ∧ ¬ Bo gb V q := fun q hq => ⟨Classical.not_not.1 fun e => by
    have := (h.bk.lt (.inr e)).2
    omega, fun e => by
    have := (h.bk.lt (.inl e)).2
    omega⟩
  refine ⟨h.bk.blk fun q hq => hf.block q (h.bk.lt hq).2 fun e => ?_, hdm, hrow, fun y hy => ?_, fun y hy => ?_, fun q hq => ?_, fun q hq e => ?_, h.be.trans (hf.below hB fun q hq => ?_)⟩
  · have h1 := h.ou q (e.imp id .inl)
    rcases hq with e2 | e2
    · exact h1.2.2 e2
    · exact e2 h1.2.1
  · rcases List.mem_append.1 hy with hy | hy
    · exact hlo y hy
    · rw [List.mem_singleton.1 hy]
      exact hx
  · rcases List.mem_append.1 hy with hy | hy
    · exact h.len y hy
    · rw [List.mem_singleton.1 hy]
      exact hlen
  · rcases hq with e | e
    · refine ⟨(hdm.ft e).2, ?_⟩
      rcases hft q e with e2 | e2
      · exact (h.ou q (.inl e2)).2
      · exact hnew q e2
    · obtain ⟨h1, h2 | h2⟩ := hlg q e
      · exact ⟨h1, (h.ou q (.inr h2.2)).2⟩
      · exact ⟨h1, hnew q h2.1⟩
  · obtain ⟨-, h2 | h2⟩ := hlg q hq
    · rcases hft q e with e2 | e2
      · exact h.ap q h2.2 e2
      · have := h2.1
        omega
    · exact hap q h2.2 h2.1 e
  · rcases hq with e | e
    · exact (h.dm.ft e).1
    · exact (World.ownsRow.lt h.row q e).1
theorem OS.look (h : OS B w0 W gb g S M C V l f n lh fh nh u ls) (hk : LkP B W W' gb g S M (Lg u ls) C' V' l' f' n' lh' fh' nh') : OS B w0 W' gb g S M C' V' l' f' n' lh' fh' nh' u ls := ⟨hk.bk, hk.dm, Mg.row_block h.row fun q e => hk.xs q (.inl e), fun x hx => ⟨Mg.row_block (h.own x hx).row fun q e => hk.xs q (.inr ⟨x, hx, e⟩), (h.own x hx).good⟩, h.len, hk.ou, h.ap, h.be.trans hk.be⟩
end
theorem longs_app {B : Nat} {w : World} {v : Value} {ls : List (Value × List Nat)} (h : w.ownsRow B 29 1 v (ls.map fun x => x.1).length (ls.map fun x => x.1)) (x : Value) (hone : x.oneCell' = true) (hmax : ls.length ≤ 1000) (hB : B ≤ w.heap.size) : ∃ v' w', (Builtin.append_ #[28, 28] 28 #[v, .slice (some ⟨w.heap.size, 0, none⟩) 1 1]).run Try.prog (w.alloc (.cells #[x] 29)) = .ok v' w' ∧ w'.ownsRow B 29 1 v' (ls.length + 1) ((ls.map fun x => x.1) ++ [x]) ∧ (∃ a c, v' = .slice a (ls.length + 1) c) ∧ (∀ q, v'.ownBlock = some q → v.ownBlock = some q ∨ w.heap.size ≤ q) ∧ Fr w w' (fun q => v.ownBlock = some q) := by
  obtain ⟨i0, hi, hq⟩ := Option.map_eq_some_iff.1 infBS
  simp only [Prod.mk.injEq] at hq
  have b9 := up0 w (.cells #[x] 29)
  obtain ⟨v', w', hr, h2, h3, -, h5⟩ := run_append_own_at (P := Try.prog) (w.alloc (.cells #[x] 29)) B 28 28 29 i0 _ 1 24 Try.underlying28 hi hq.1 hq.2.1 hq.2.2 rfl (by decide) v _ _ (Mg.row_kept h b9) ⟨w.heap.size, 0, none⟩ 1 1 [x] rfl (fun j u hj => by
    rw [Addr.add_lit, Nat.zero_add]
    exact (lb_new w [x] 29).cell j u hj) (fun u hu => by rw [List.mem_singleton.1 hu]; exact hone) (by rw [List.length_map]; unfold maxLen; omega) (by rw [List.length_map]; omega) (Nat.le_trans hB b9.size)
  rw [List.length_map] at h2
  obtain ⟨a, c, e, -⟩ := Mg.row_shape h2
  refine ⟨v', w', hr, h2, ⟨a, c, e⟩, fun q e => ?_, (Cb.Fr.kept b9).trans (Cb.Fr.grown (F := fun q => v.ownBlock = some q) h3 fun q e => e) fun q _ e => e⟩
  rcases h5 with e2 | e2
  · exact .inl (e2.symm.trans e)
  · rw [e2] at e
    have := Option.some.inj e
    have := b9.size
    omega
set_option maxRecDepth 100000 in
set_option maxHeartbeats 32000000 in
theorem diskOwn_walk (q : Int) (vs : Value) (n : Nat) (keep : Int) (cv : Value) (cs : List (Int × Int)) (w : World) (hs : OpS w vs n) (_hn : n ≤ 1048576) (hc : CtS w cv cs) :
    Calls Try.prog 3 #[.int .i64 q, vs, .int .i64 keep, cv] w fun e w' => e = .returned (.bool true) ∧ Below w.heap.size w w' := by
  obtain ⟨sa, sc, hve, hs1, hs2, hs3⟩ := hs
  subst hve
  have HS : Hid (∀ k, k < n → ∃ b off o, sa = some ⟨b, off, none⟩ ∧ (∀ i x, (opc o)[i]? = some x → w.cell? ⟨b, off + k * 8 + i, none⟩ = some x) ∧ OpOk w o) := hs3
  obtain ⟨p0, hp0⟩ : ∃ p, p = Dk.proper q := ⟨_, rfl⟩
  have hp0b : 16 ≤ p0 ∧ p0 ≤ 4194304 := by
    rw [hp0]
    unfold Dk.proper
    split <;> omega
  have HPC : Hid (Calls Try.prog 9 #[.int .i64 q] w fun e w' => e = .returned (.int .i64 p0) ∧ w' = w) := by
    rw [hp0]
    exact dlproper_any q w
  obtain ⟨pq, hpq⟩ : ∃ p, p = min p0 65536 := ⟨_, rfl⟩
  have hpb : 16 ≤ pq ∧ pq ≤ 65536 := by rw [hpq]; omega
  have HPQ : Hid (16 ≤ pq ∧ pq ≤ 65536 ∧ pq = min p0 65536) := ⟨hpb.1, hpb.2, hpq⟩
  have HRD : Hid (Calls Try.prog 10 #[.int .i64 pq] w fun e w' => ∃ g f M, e = .returned (.pointer (some ⟨g, 0, none⟩)) ∧ DM w.heap.size w' g (Dk.rdy pq f) M ∧ Below w.heap.size w w') := dlready_any pq w ⟨HPQ.out.1, by have := HPQ.out.2.1; omega⟩
  unfold maxLen at hs2
  have HCV : Hid (CtS w cv cs) := hc
  clear hs3 hc hp0 hpq
  go_enter Try.func3, Try.ntmps3
  go_wp2_with fail
  refine HPC.out.mono ?_
  rintro e w' ⟨rfl, rfl⟩
  go_wp2_with fail
  rw [show min p0 65536 = pq from HPQ.out.2.2.symm]
  refine HRD.out.mono ?_
  rintro e W1 ⟨g, f9, M1, rfl, d1, b1⟩
  have H3 : Hid (DM w'.heap.size W1 g (Dk.rdy pq f9) M1 ∧ Below w'.heap.size w' W1) := ⟨d1, b1⟩
  clear d1 b1 HPC HRD hp0b
  go_wp2_with fail
  obtain ⟨w0, hw0⟩ : ∃ x, x = w' := ⟨_, rfl⟩
  subst hw0
  obtain ⟨E0, hE0⟩ : ∃ W, W = W1.alloc (.cells #[.slice none 0 0, .slice none 0 0, .slice none 0 0, .slice none 0 0, .slice none 0 0, .slice none 0 0, .slice none 0 0, .slice none 0 0, .slice none 0 0] 34) := ⟨_, rfl⟩
  obtain ⟨gb, hgb⟩ : ∃ x, x = W1.heap.size := ⟨_, rfl⟩
  have HE0 : Hid (OS w0.heap.size w0 E0 gb g (Dk.rdy pq f9) M1 (fun _ => none) [.slice none 0 0, .slice none 0 0, .slice none 0 0, .slice none 0 0, .slice none 0 0, .slice none 0 0, .slice none 0 0, .slice none 0 0, .slice none 0 0] [] [] [] [] [] [] (.slice none 0 0) []) := by
    have b9 := up0 W1 (.cells #[.slice none 0 0, .slice none 0 0, .slice none 0 0, .slice none 0 0, .slice none 0 0, .slice none 0 0, .slice none 0 0, .slice none 0 0, .slice none 0 0] 34)
    rw [← hE0] at b9
    refine ⟨?_, H3.out.1.kept b9, World.ownsRow_nil _ _ _ _, fun x hx => (by cases hx), fun x hx => (by cases hx), fun x hx => ?_, fun x hx => ?_, H3.out.2.trans (b9.mono H3.out.2.size)⟩
    · rw [hE0, hgb]
      exact bk_new W1 _ H3.out.2.size
    · rcases hx with e | e | ⟨x, hx, -⟩
      · have h1 := H3.out.1.ft e
        refine ⟨Nat.lt_of_lt_of_le h1.2 b9.size, rfl, fun e2 => ?_⟩
        rcases e2 with e2 | ⟨v, hv, e2⟩
        · omega
        · simp only [List.mem_cons, List.not_mem_nil, or_false, or_self] at hv
          rw [hv] at e2
          cases e2
      · cases e
      · cases hx
    · rcases hx with e | ⟨x, hx, -⟩
      · cases e
      · cases hx
  rw [← hE0, ← hgb]
  clear hE0 hgb H3
  go_loopw [11, 12] (fun u11 i wr => ∃ (k : Nat) (M : Mm) (S : Dk.DS) (C : Nat → Option Cl) (V : List Value) (l f n1 : List Cb.En) (lh fh nh : List (Value × Nat)) (ls : List (Value × List Nat)), (k ≤ n ∧ k ≤ 40) ∧ i = .int .i64 (k : Int) ∧ OS w0.heap.size w0 wr gb g S M C V l f n1 lh fh nh u11 ls ∧ Dk.WF S (k + 2) ∧ (l.length ≤ k * 20000 ∧ f.length ≤ 4 * k ∧ n1.length ≤ 2 * k ∧ ls.length ≤ k)) (fun _ i _ => n - (intOf i).toNat)
  case atStart => exact ⟨0, M1, _, _, _, _, _, _, _, _, _, [], ⟨Nat.zero_le _, Nat.zero_le _⟩, rfl, HE0.out, (Dk.wf4 pq f9 ⟨HPQ.out.1, by have := HPQ.out.2.1; omega⟩).mono (by omega), by simp⟩
  case round =>
    obtain ⟨k, M, S, C, V, l, f, n1, lh, fh, nh, ls, ⟨hk, hk40⟩, rfl, hos, hwf, hln⟩ := hrel
    obtain ⟨wo, hwo⟩ : ∃ x, x = wr := ⟨_, rfl⟩
    subst hwo
    obtain ⟨a11, c11, e11, -⟩ := Mg.row_shape hos.row
    rw [List.length_map] at e11
    subst e11
    have HO : Hid (OS w0.heap.size w0 wo gb g S M C V l f n1 lh fh nh (.slice a11 ls.length c11) ls ∧ (l.length ≤ k * 20000 ∧ f.length ≤ 4 * k ∧ n1.length ≤ 2 * k ∧ ls.length ≤ k)) := ⟨hos, hln⟩
    obtain ⟨nL, hnL⟩ : ∃ m, m = ls.length := ⟨_, rfl⟩
    have HNL : Hid (nL = ls.length ∧ nL ≤ k) := ⟨hnL, by rw [hnL]; exact hln.2.2.2⟩
    rw [← hnL] at HO ⊢
    have HW : Hid (Dk.WF S (k + 2)) := hwf
    clear hos hwf hln hnL
    by_cases hlt : k < n ∧ k < 40
    · have t1 : ((k : Int) < (n : Int)) = True := eq_true (by omega)
      have t2 : ((k : Int) < 40) = True := eq_true (by omega)
      have hkn : k < n := hlt.1
      obtain ⟨b, off, o, hsa, hcell, hok⟩ := HS.out k hlt.1
      subst hsa
      have key : ∀ i x, (opc o)[i]? = some x → wo.cell? ⟨b, off + k * 8 + i, none⟩ = some x := fun i x hx => (HO.out.1.be.cell (p := ⟨b, _, none⟩) (World.block_lt_of_cell? _ _ (hcell i x hx))).trans (hcell i x hx)
      have r0 := key 0 _ rfl
      have r1 := key 1 _ rfl
      have r2 := key 2 _ rfl
      have r3 := key 3 _ rfl
      have r4 := key 4 _ rfl
      have r5 := key 5 _ rfl
      have r6 := key 6 _ rfl
      have r7 := key 7 _ rfl
      simp only [Nat.add_zero] at r0
      have HOK : Hid (OpOk w0 o) := hok
      have hk39 : k ≤ 39 := by omega
      clear hcell hok key
      go_upto_region 11 with fail
      have bw := up0 wo (.cells (opc o).toArray 37)
      have lw := lb_new wo (opc o) 37
      unfold opc at bw
      obtain ⟨p, hp⟩ : ∃ p, p = wo.heap.size := ⟨_, rfl⟩
      obtain ⟨Wp, hWp⟩ : ∃ W, W = wo.alloc (.cells #[.int .i64 o.k, .bool o.two, .string o.a, .string o.b, .int .i64 o.n, .slice o.da o.data.length o.dc, .slice o.ca o.cs.length o.cc, .slice o.fa o.fn o.fc] 37) := ⟨_, rfl⟩
      have lp : LB Wp p 37 (opc o) := by rw [hWp, hp]; exact lw
      have bp : Below wo.heap.size wo Wp := by rw [hWp]; exact bw
      rw [← hWp, ← hp]
      have HLP : Hid (∀ W : World, Wp.heap[p]? = W.heap[p]? → LB W p 37 (opc o)) := fun W hW => by
        unfold LB at lp ⊢
        rw [← hW]
        exact lp
      have HP : Hid (p < Wp.heap.size ∧ Below wo.heap.size wo Wp ∧ p = wo.heap.size) := ⟨by unfold LB at lp; exact (Array.getElem?_eq_some_iff.1 lp).1, bp, hp⟩
      clear r0 r1 r2 r3 r4 r5 r6 r7 lw bw lp bp hWp hp
      have lb := HLP.out Wp rfl
      have r0 := lb.cell 0 _ rfl
      have r1 := lb.cell 1 _ rfl
      have r2 := lb.cell 2 _ rfl
      have r3 := lb.cell 3 _ rfl
      have r4 := lb.cell 4 _ rfl
      have r5 := lb.cell 5 _ rfl
      have r6 := lb.cell 6 _ rfl
      have r7 := lb.cell 7 _ rfl
      clear lb
      have HCH : Hid (Calls Try.prog 11 #[.agg #[.int .i64 o.k, .bool o.two, .string o.a, .string o.b, .int .i64 o.n, .slice o.da o.data.length o.dc, .slice o.ca o.cs.length o.cc, .slice o.fa o.fn o.fc]] Wp fun e w' => e = .returned (.bool (Dk.chg o)) ∧ Below Wp.heap.size Wp w') := dlchanging_any o Wp
      cases hch : Dk.chg o with
      | false =>
        rw [hch] at HCH
        clear hch
        go_wp2_with fail
        refine HCH.out.mono ?_
        rintro e Wk ⟨rfl, bi⟩
        have HK : Hid (Below wo.heap.size wo Wk) := andThen HP.out.2.1 bi
        clear bi HCH r0 r1 r2 r3 r4 r5 r6 r7
        go_wp2_with fail
        go_roundw
        case rel =>
          have h2 := HO.out.2
          have h3 := HNL.out
          exact ⟨k + 1, M, S, C, V, l, f, n1, lh, fh, nh, ls, ⟨by omega, by omega⟩, by go_num, (show OS _ _ _ _ _ _ _ _ _ _ _ _ _ _ _ (.slice a11 nL c11) _ from HO.out.1.kept HO.out.1.be.size HK.out), HW.out.mono (show k + 2 ≤ k + 1 + 2 by omega), by omega⟩
        case measure => simp [intOf]; omega
      | true =>
        rw [hch] at HCH
        clear hch
        go_wp2_with fail
        refine HCH.out.mono ?_
        rintro e Wk ⟨rfl, bi⟩
        have HK : Hid (Below Wp.heap.size Wp Wk) := bi
        clear bi HCH r0 r1 r2 r3 r4 r5 r6 r7
        have lb := HLP.out Wk (HK.out.block p HP.out.1).symm
        have r5 := lb.cell 5 _ rfl
        have z5 := lb.free 5
        clear lb
        obtain ⟨o2, ho2⟩ : ∃ o2 : Rop, o2 = { o with data := o.data.take 70000 } := ⟨_, rfl⟩
        have HO2 : Hid (o2 = { o with data := o.data.take 70000 }) := ho2
        clear ho2
        have hdc : o.data.length ≤ o.dc ∧ o.dc ≤ maxLen := by
          obtain ⟨a9, c9, e9, q1, q2, -⟩ := HOK.out.2.1.shape
          simp only [Value.slice.injEq] at e9
          rw [e9.2.2]
          exact ⟨q1, q2⟩
        unfold maxLen at hdc
        obtain ⟨D, hD⟩ : ∃ D : Bool, D = decide ((70000 : Int) < (o.data.length : Int)) := ⟨_, rfl⟩
        have HDD : Hid (D = decide ((70000 : Int) < (o.data.length : Int))) := hD
        have HDC : Hid (o.data.length ≤ o.dc ∧ o.dc ≤ 9223372036854775807) := ⟨hdc.1, by have := hdc.2; omega⟩
        clear hdc
        go_upto_if 49 with fail
        rw [← hD]
        clear hD
        go_cut [] from 50 to 53 (fun wx => LB wx p 37 (opc o2) ∧ Fr Wk wx (· = p) ∧ wx.heap.size = Wk.heap.size)
        case first =>
          cases D with
          | true =>
            have HBG : Hid (70000 < o.data.length) := by
              have h9 := of_decide_eq_true HDD.out.symm
              show 70000 < o.data.length
              omega
            have t4 : (70000 : Int) ≤ (o.dc : Int) := by have := HBG.out; have := HDC.out.1; omega
            go_wp2_with fail
            all_goals go_meet
            all_goals refine ⟨?_, Cb.fr_set _ _ _ _, by simp⟩
            all_goals (
              have h9 := (HLP.out Wk (HK.out.block p HP.out.1).symm).set 5 (.slice o.da 70000 o.dc)
              have e9 : (opc o).set 5 (.slice o.da 70000 o.dc) = opc o2 := by
                rw [HO2.out]
                unfold opc
                show _ = [_, _, _, _, _, Value.slice o.da (o.data.take 70000).length o.dc, _, _]
                rw [List.length_take, Nat.min_eq_left (by have := HBG.out; omega)]
                rfl
              rw [e9] at h9
              exact h9)
          | false =>
            have HBG : Hid (o.data.length ≤ 70000) := by
              have h9 := of_decide_eq_false HDD.out.symm
              show o.data.length ≤ 70000
              omega
            go_wp2_with fail
            all_goals go_meet
            all_goals refine ⟨?_, Fr.refl _ _, rfl⟩
            all_goals (
              have h9 := HLP.out Wk (HK.out.block p HP.out.1).symm
              have e9 : opc o = opc o2 := by
                rw [HO2.out]
                unfold opc
                show _ = [_, _, _, _, _, Value.slice o.da (o.data.take 70000).length o.dc, _, _]
                rw [List.take_of_length_le HBG.out]
              rw [e9] at h9
              exact h9)
        case rest =>
          obtain ⟨hlb, hfr, hsz⟩ := hcut
          have HOK2 : Hid (OpOk w0 o2 ∧ o2.data.length ≤ 70000) := by
            rw [HO2.out]
            refine ⟨⟨HOK.out.1, ?_, HOK.out.2.2⟩, ?_⟩
            · have h9 := bs_take HOK.out.2.1 (min 70000 o.data.length) (Nat.min_le_right _ _)
              show Bs w0 (.slice o.da (o.data.take 70000).length o.dc) (o.data.take 70000)
              rw [List.length_take]
              have e9 : o.data.take (min 70000 o.data.length) = o.data.take 70000 := by
                rw [← List.take_take, List.take_length]
              rw [e9] at h9
              exact h9
            · show (o.data.take 70000).length ≤ 70000
              rw [List.length_take]
              omega
          have HOA : Hid (o2.a = o.a) := by rw [HO2.out]; rfl
          obtain ⟨w1, hw1⟩ : ∃ x, x = wc := ⟨_, rfl⟩
          rw [← hw1] at hlb hfr hsz ⊢
          clear hw1
          have HQ : Hid (LB w1 p 37 (opc o2) ∧ Below wo.heap.size wo w1 ∧ p < w1.heap.size ∧ wo.heap.size ≤ p) := by
            have hbk : Below wo.heap.size wo w1 := (andThen HP.out.2.1 HK.out).trans (hfr.below (Nat.le_trans HP.out.2.1.size HK.out.size) fun q e => by rw [e, HP.out.2.2]; exact Nat.le_refl _)
            exact ⟨hlb, hbk, by rw [hsz]; exact Nat.lt_of_lt_of_le HP.out.1 HK.out.size, by rw [HP.out.2.2]; exact Nat.le_refl _⟩
          clear hlb hfr hsz r5 z5
          obtain ⟨n0, hn0⟩ : ∃ x, x = o2.data.length := ⟨_, rfl⟩
          obtain ⟨a0, ha0⟩ : ∃ x, x = o2.da := ⟨_, rfl⟩
          obtain ⟨c0, hc0⟩ : ∃ x, x = o2.dc := ⟨_, rfl⟩
          have HN0 : Hid (n0 = o2.data.length ∧ a0 = o2.da ∧ c0 = o2.dc) := ⟨hn0, ha0, hc0⟩
          have hn09 : n0 ≤ 70000 := by rw [hn0]; exact HOK2.out.2
          have r5 : w1.cell? ⟨p, 5, none⟩ = some (.slice a0 n0 c0) := by
            rw [hn0, ha0, hc0]
            exact HQ.out.1.cell 5 _ rfl
          have z5 := HQ.out.1.free 5
          clear hn0 ha0 hc0
          have HBD : Hid (∀ W, Below w0.heap.size w0 W → Bs W (.slice a0 n0 c0) o2.data) := fun W hW => by
            rw [HN0.out.1, HN0.out.2.1, HN0.out.2.2]
            exact HOK2.out.1.2.1.kept hW
          have HCP : Hid (Calls Try.prog 12 #[.slice a0 n0 c0] w1 fun e w' => ∃ a m c, e = .returned (.slice a m c) ∧ Own w1.heap.size w' (.slice a m c) o2.data ∧ Below w1.heap.size w1 w') := (dlcopied_any _ _ w1 (HBD.out w1 (HO.out.1.be.trans (HQ.out.2.1.mono HO.out.1.be.size))) (by have := HOK2.out.2; omega)).mono fun e w' ⟨v, h1, h2, h3⟩ => by
            obtain ⟨a, c, e9, -⟩ := Mg.row_shape h2.row
            exact ⟨a, _, c, by rw [h1, e9], by rw [← e9]; exact h2, h3⟩
          go_wp2_with fail
          refine HCP.out.mono ?_
          rintro e D1 ⟨a1, m1, c1, rfl, h51, h53⟩
          -- the long list, and the list of long lists
          have HAP : Hid (∃ lb lc D2, (Builtin.append_ #[29, 29] 29 #[.slice a1 m1 c1, .slice (some ⟨D1.heap.size, 0, none⟩) 3 3]).run Try.prog (D1.alloc (.cells #[.int .u8 91, .int .u8 92, .int .u8 93] 5)) = .ok (.slice (some ⟨lb, 0, none⟩) (n0 + 3) lc) D2 ∧ n0 + 3 ≤ lc ∧ lc ≤ 9223372036854775807 ∧ w1.heap.size ≤ lb ∧ Own w1.heap.size D2 (.slice (some ⟨lb, 0, none⟩) (n0 + 3) lc) (o2.data ++ [91, 92, 93]) ∧ Below w1.heap.size w1 D2) := by
            have b9 := up0 D1 (.cells #[.int .u8 91, .int .u8 92, .int .u8 93] 5)
            have ok3 : ok [91, 92, 93] := fun x hx => by
              simp only [List.mem_cons, List.not_mem_nil, or_false] at hx
              omega
            have hm := (Own.lit (B := 0) D1 [91, 92, 93] ok3 (Nat.zero_le _) (by simp [maxLen]) #[.int .u8 91, .int .u8 92, .int .u8 93] rfl).bs
            obtain ⟨v2, D2, hr, ho, hg, hv⟩ := run_appB (D1.alloc (.cells #[.int .u8 91, .int .u8 92, .int .u8 93] 5)) 29 w1.heap.size _ _ (h51.kept b9) _ _ hm (by have := HOK2.out.2; simp only [List.length_cons, List.length_nil]; omega) (Nat.le_trans h53.size b9.size)
            have hb : Below w1.heap.size w1 D2 := (andThen h53 b9).grown hg (Nat.le_trans h53.size b9.size) fun q e => (World.ownsRow.lt (h51.kept b9).row q e).1
            rcases ho.shape with ⟨-, e⟩ | ⟨g9, cap, e, q1, q2, q3, q4, -⟩
            · have := congrArg List.length e
              simp at this
            · have e8 : (o2.data ++ [91, 92, 93]).length = n0 + 3 := by simp [HN0.out.1]
              rw [e8] at e q3
              rw [e] at hr ho
              unfold maxLen at q4
              exact ⟨g9, cap, D2, hr, q3, by omega, q1, ho, hb⟩
          obtain ⟨lb, lc, D2, hr1, hlc1, hlc2, hlb, hol, hbd2⟩ := HAP.out
          have HD2 : Hid (w1.heap.size ≤ lb ∧ Own w1.heap.size D2 (.slice (some ⟨lb, 0, none⟩) (n0 + 3) lc) (o2.data ++ [91, 92, 93]) ∧ Below w1.heap.size w1 D2) := ⟨hlb, hol, hbd2⟩
          have HAQ : Hid (∃ a3 c3 D3, (Builtin.append_ #[28, 28] 28 #[.slice a11 nL c11, .slice (some ⟨D2.heap.size, 0, none⟩) 1 1]).run Try.prog (D2.alloc (.cells #[(Value.slice (some ⟨lb, 0, none⟩) (n0 + 3) lc)] 29)) = .ok (.slice a3 (nL + 1) c3) D3 ∧ D3.ownsRow w0.heap.size 29 1 (.slice a3 (nL + 1) c3) (nL + 1) ((ls.map fun x => x.1) ++ [(Value.slice (some ⟨lb, 0, none⟩) (n0 + 3) lc)]) ∧ (∀ q, (Value.slice a3 (nL + 1) c3).ownBlock = some q → (Value.slice a11 nL c11).ownBlock = some q ∨ D2.heap.size ≤ q) ∧ Fr D2 D3 (fun q => (Value.slice a11 nL c11).ownBlock = some q)) := by
            have hb := andThen HQ.out.2.1 hbd2
            obtain ⟨v', w', h1, h2, ⟨a, c, h3⟩, h4, h5⟩ := longs_app (Mg.row_kept HO.out.1.row hb) (Value.slice (some ⟨lb, 0, none⟩) (n0 + 3) lc) rfl (by have := HNL.out; omega) (Nat.le_trans HO.out.1.be.size hb.size)
            rw [← HNL.out.1] at h2 h3
            rw [h3] at h1 h2 h4
            exact ⟨a, c, w', h1, h2, h4, h5⟩
          obtain ⟨a3, c3, D3, hr2, hrow3, hnew3, hfr3⟩ := HAQ.out
          have HD3 : Hid (D3.ownsRow w0.heap.size 29 1 (.slice a3 (nL + 1) c3) (nL + 1) ((ls.map fun x => x.1) ++ [(Value.slice (some ⟨lb, 0, none⟩) (n0 + 3) lc)]) ∧ (∀ q, (Value.slice a3 (nL + 1) c3).ownBlock = some q → (Value.slice a11 nL c11).ownBlock = some q ∨ D2.heap.size ≤ q) ∧ Fr D2 D3 (fun q => (Value.slice a11 nL c11).ownBlock = some q) ∧ (∀ q, (Value.slice a11 nL c11).ownBlock = some q → q < wo.heap.size) ∧ lb < D2.heap.size) := ⟨hrow3, hnew3, hfr3, fun q e => (World.ownsRow.lt HO.out.1.row q e).2, (World.ownsRow.lt hol.row lb rfl).2⟩
          have HLB3 : Hid (LB D3 p 37 (opc o2)) := by
            have h1 := HQ.out.1
            unfold LB at *
            rw [HD3.out.2.2.1.block p (Nat.lt_of_lt_of_le HQ.out.2.2.1 HD2.out.2.2.size) fun e => by have := HD3.out.2.2.2.1 p e; have := HQ.out.2.2.2; omega, HD2.out.2.2.block p HQ.out.2.2.1]
            exact h1
          clear r5 z5 hlb hol hbd2 hrow3 hnew3 hfr3 h51 h53 HCP HAP HAQ
          have r5 : D3.cell? ⟨p, 5, none⟩ = some (.slice a0 n0 c0) := by
            rw [HN0.out.1, HN0.out.2.1, HN0.out.2.2]
            exact HLB3.out.cell 5 _ rfl
          have z5 := HLB3.out.free 5
          have r5' : w1.cell? ⟨p, 5, none⟩ = some (.slice a0 n0 c0) := by
            rw [HN0.out.1, HN0.out.2.1, HN0.out.2.2]
            exact HQ.out.1.cell 5 _ rfl
          have t5 : (n0 : Int) ≤ (lc : Int) := by omega
          go_upto_region 19 with (first | (at_builtin; refine wpList_appRun rfl (.tmp 59) (.tmp 60) 29 rfl rfl rfl hr1 ?_) | (at_builtin; refine wpList_appRun rfl (.tmp 62) (.tmp 64) 28 rfl rfl rfl hr2 ?_))
          obtain ⟨D4, hD4⟩ : ∃ W, W = D3.setCell ⟨p, 5, none⟩ (.slice (some ⟨lb, 0, none⟩) n0 lc) := ⟨_, rfl⟩
          obtain ⟨o3, ho3⟩ : ∃ o3 : Rop, o3 = { o2 with da := some ⟨lb, 0, none⟩, dc := lc } := ⟨_, rfl⟩
          have HO3 : Hid (o3.data = o2.data ∧ o3.a = o.a ∧ o3.da = some ⟨lb, 0, none⟩ ∧ o3.dc = lc ∧ o3.a.size ≤ maxLen ∧ o3.b.size ≤ maxLen) := by
            rw [ho3]
            exact ⟨rfl, HOA.out, rfl, rfl, HOK2.out.1.1.1, HOK2.out.1.1.2⟩
          have HD4 : Hid (LB D4 p 37 (opc o3) ∧ Own w1.heap.size D4 (Value.slice (some ⟨lb, 0, none⟩) (n0 + 3) lc) (o2.data ++ [91, 92, 93]) ∧ D4.ownsRow w0.heap.size 29 1 (Value.slice a3 (nL + 1) c3) (nL + 1) ((ls.map fun x => x.1) ++ [(Value.slice (some ⟨lb, 0, none⟩) (n0 + 3) lc)]) ∧ Fr wo D4 (fun q => (Value.slice a11 nL c11).ownBlock = some q) ∧ lb < D4.heap.size ∧ p < D4.heap.size ∧ wo.heap.size ≤ lb ∧ (∀ q, (Value.slice a3 (nL + 1) c3).ownBlock = some q → (Value.slice a11 nL c11).ownBlock = some q ∨ wo.heap.size ≤ q)) := by
            have hp1 := HQ.out.2.2.1
            have hp2 := HQ.out.2.2.2
            have hq1 := HD2.out.1
            have hb := andThen HQ.out.2.1 HD2.out.2.2
            have hb1 := hb.size
            have hb2 := HD2.out.2.2.size
            have hb3 := HD3.out.2.2.1.size
            have hs4 : D4.heap.size = D3.heap.size := by rw [hD4]; simp
            have hf4 : Fr D3 D4 (· = p) := by rw [hD4]; exact Cb.fr_set _ _ _ _
            refine ⟨?_, ?_, ?_, ?_, by rw [hs4]; exact Nat.lt_of_lt_of_le HD3.out.2.2.2.2 hb3, by omega, by have := HQ.out.2.1.size; omega, fun q e => (HD3.out.2.1 q e).imp id fun e2 => Nat.le_trans hb1 e2⟩
            · have h9 := HLB3.out.set 5 (.slice (some ⟨lb, 0, none⟩) n0 lc)
              have e9 : (opc o2).set 5 (.slice (some ⟨lb, 0, none⟩) n0 lc) = opc o3 := by
                rw [ho3, HN0.out.1]
                rfl
              rw [e9, ← hD4] at h9
              exact h9
            · have h1 := HD2.out.2.1
              refine ⟨Mg.row_block h1.row fun q e => ?_, h1.good⟩
              have h2 := World.ownsRow.lt h1.row q e
              rw [hf4.block q (by omega) (by omega)]
              exact HD3.out.2.2.1.block q h2.2 fun e2 => by
                have := HD3.out.2.2.2.1 q e2
                have := HQ.out.2.1.size
                omega
            · refine Mg.row_block HD3.out.1 fun q e => ?_
              have h2 := World.ownsRow.lt HD3.out.1 q e
              refine hf4.block q h2.2 fun e2 => ?_
              rcases HD3.out.2.1 q e with e3 | e3
              · have := HD3.out.2.2.2.1 q e3
                omega
              · omega
            · refine ((Fr.kept hb).trans HD3.out.2.2.1 fun q _ e => e).trans hf4 fun q h8 e => ?_
              have e2 : q = p := e
              omega
          rw [← hD4]
          clear hD4 ho3 r5 z5 r5' hr1 hr2 HOA
          have lb4 := HD4.out.1
          have r0 := lb4.cell 0 _ rfl
          have r1 := lb4.cell 1 _ rfl
          have r2 := lb4.cell 2 _ rfl
          have r3 := lb4.cell 3 _ rfl
          have r4 := lb4.cell 4 _ rfl
          have r5 := lb4.cell 5 _ rfl
          have r6 := lb4.cell 6 _ rfl
          have r7 := lb4.cell 7 _ rfl
          clear lb4
          have HDM : Hid (DM w0.heap.size D4 g S M ∧ w0.heap.size ≤ D4.heap.size ∧ Below w0.heap.size w0 D4) := by
            have hB := HO.out.1.be.size
            have h1 := HD4.out.2.2.2.1
            exact ⟨HO.out.1.dm.blk fun q e => h1.block q (HO.out.1.dm.ft e).2 fun e2 => HO.out.1.ap q (.inl e2) e, Nat.le_trans hB h1.size, HO.out.1.be.trans (h1.below hB fun q e => (World.ownsRow.lt HO.out.1.row q e).1)⟩
          have HVB : Hid (∀ (W : World) (l : List Nat), l.length = n0 → Own w1.heap.size W (Value.slice (some ⟨lb, 0, none⟩) (n0 + 3) lc) (l ++ [91, 92, 93]) → Bs W (.slice o3.da o3.data.length o3.dc) l) := fun W l hl h => by
            have h1 := h.bs
            have e8 : (l ++ [91, 92, 93]).length = n0 + 3 := by simp [hl]
            rw [← e8] at h1
            have h2 := bs_take h1 n0 (by omega)
            rw [List.take_left' hl] at h2
            rw [HO3.out.2.2.1, HO3.out.2.2.2.1, HO3.out.1, ← HN0.out.1]
            exact h2
          have HDO : Hid (Calls Try.prog 13 #[.pointer (some ⟨g, 0, none⟩), .agg #[.int .i64 o3.k, .bool o3.two, .string o3.a, .string o3.b, .int .i64 o3.n, .slice o3.da o3.data.length o3.dc, .slice o3.ca o3.cs.length o3.cc, .slice o3.fa o3.fn o3.fc]] D4 fun e w' => ∃ f E, D4.heap.size ≤ f ∧ e = .returned (.int .i64 E) ∧ DPost w0.heap.size g S M D4 (Dk.doS S o3 f) w') := (dldo_any0 _ g S M (k + 2) o3 D4 HDM.out.1 HDM.out.2.1 HW.out (by omega) HO3.out.2.2.2.2.1 HO3.out.2.2.2.2.2 (by
            have h1 := HVB.out D4 o2.data HN0.out.1.symm HD4.out.2.1
            rw [HO3.out.1] at h1 ⊢
            exact h1) (fun _ q x e e2 => by
            rw [HO3.out.2.2.1] at e
            injection e with e
            injection e with e _ _
            have h1 := (HO.out.1.dm.ft e2).2
            have h2 := HD4.out.2.2.2.2.2.2.1
            omega)).mono fun e w' ⟨f, h1, h2, h3⟩ => ⟨f, _, h1, h2, h3⟩
          go_wp2_with fail
          refine HDO.out.mono ?_
          rintro e W5 ⟨f9', E, hf9, rfl, hp9⟩
          have hfr9 : f9' ∉ S.ids := fun e => by
            have h8 := (HDM.out.1.ft (q := f9') (.inr (.inr (.inr (.inr ⟨f9', e, .inl rfl⟩))))).2
            omega
          obtain ⟨S2, hS2⟩ : ∃ X, X = Dk.doS S o3 f9' := ⟨_, rfl⟩
          have HW2 : Hid (Dk.WF S2 (k + 1 + 2) ∧ k + 1 + 2 ≤ 42) := by
            rw [hS2]
            exact ⟨HW.out.do o3 f9' hfr9, by omega⟩
          obtain ⟨M2, dm2, fr2, ft2⟩ := hp9
          rw [← hS2] at dm2 ft2
          have HL : Hid (LB W5 p 37 (opc o3) ∧ DM w0.heap.size W5 g S2 M2 ∧ Own w1.heap.size W5 (Value.slice (some ⟨lb, 0, none⟩) (n0 + 3) lc) (o2.data ++ [91, 92, 93]) ∧ W5.ownsRow w0.heap.size 29 1 (Value.slice a3 (nL + 1) c3) (nL + 1) ((ls.map fun x => x.1) ++ [(Value.slice (some ⟨lb, 0, none⟩) (n0 + 3) lc)]) ∧ Fr wo W5 (fun q => Ft g S M q ∨ (Value.slice a11 nL c11).ownBlock = some q) ∧ (∀ q, Ft g S2 M2 q → Ft g S M q ∨ D4.heap.size ≤ q) ∧ Below w0.heap.size w0 W5 ∧ D4.heap.size ≤ W5.heap.size) := by
            have hlt := fun q (e : Ft g S M q) => (HO.out.1.dm.ft e)
            have hlb := HD4.out.2.2.2.2.2.2.1
            refine ⟨?_, dm2, ⟨Mg.row_block HD4.out.2.1.row fun q e => ?_, HD4.out.2.1.good⟩, Mg.row_block HD4.out.2.2.1 fun q e => ?_, (HD4.out.2.2.2.1.mono (F2 := fun q => Ft g S M q ∨ (Value.slice a11 nL c11).ownBlock = some q) fun q e => .inr e).trans (F2 := fun q => Ft g S M q) ⟨fr2.os, fr2.tape, fr2.output, fr2.size, fr2.block⟩ ?_, ft2, HDM.out.2.2.trans (fr2.below _ HDM.out.2.1 fun q hq => (hlt q hq).1), fr2.size⟩
            · have h1 := HD4.out.1
              unfold LB at *
              rw [fr2.block p HD4.out.2.2.2.2.2.1 fun e => by
                have := (hlt p e).2
                have := HQ.out.2.2.2
                omega]
              exact h1
            · have h2 := World.ownsRow.lt HD4.out.2.1.row q e
              exact fr2.block q h2.2 fun e2 => by
                have := (hlt q e2).2
                have := HQ.out.2.1.size
                omega
            · have h2 := World.ownsRow.lt HD4.out.2.2.1 q e
              refine fr2.block q h2.2 fun e2 => ?_
              rcases HD4.out.2.2.2.2.2.2.2 q e with e3 | e3
              · exact HO.out.1.ap q (.inl e3) e2
              · have := (hlt q e2).2
                omega
            · exact fun q _ e => .inl e
          have HLP5 : Hid (∀ W, Below W5.heap.size W5 W → W.cell? ⟨p, 2, none⟩ = some (.string o3.a) ∧ LB W p 37 (opc o3)) := fun W hW => by
            have h1 : LB W p 37 (opc o3) := by
              have h2 := HL.out.1
              unfold LB at *
              rw [hW.block p (Array.getElem?_eq_some_iff.1 h2).1]
              exact h2
            exact ⟨h1.cell 2 _ rfl, h1⟩
          clear r0 r1 r2 r3 r4 r5 r6 r7 HDO fr2 ft2 dm2 hfr9 hf9 hS2 HLB3 HD3 HLP HDD HDC HO2
          have r5 := HL.out.1.cell 5 _ rfl
          have HAL : Hid (Calls Try.prog 14 #[.slice o3.da o3.data.length o3.dc, .slice a0 n0 c0] W5 fun e w' => e = .returned (.bool true) ∧ Below W5.heap.size W5 w') := dlalike_yes _ _ o2.data W5 (HVB.out W5 o2.data HN0.out.1.symm HL.out.2.2.1) (HBD.out W5 HL.out.2.2.2.2.2.2.1)
          go_wp2_with fail
          refine HAL.out.mono ?_
          rintro e W6 ⟨rfl, b6⟩
          have H6 : Hid (Below W5.heap.size W5 W6) := b6
          clear b6 HAL r5
          have HF1 : Hid (Calls Try.prog 16 #[.pointer (some ⟨g, 0, none⟩)] W6 fun e w' => ∃ a m c xs, e = .returned (.slice a m c) ∧ FOA W6.heap.size w' (.slice a m c) xs ∧ (xs.map fun x => (x.1, x.2.2)) = Dk.files S2 ∧ Below W6.heap.size W6 w') := (dkfilesA_wf _ g S2 M2 _ W6 (HL.out.2.1.kept H6.out) HW2.out.1 (by omega)).mono fun e w' ⟨v, xs, h1, h2, h3, h4⟩ => by
            obtain ⟨a, c, e9, -⟩ := Mg.row_shape h2.fo.row
            exact ⟨a, _, c, xs, by rw [h1, e9], by rw [← e9]; exact h2, h3, h4⟩
          go_wp2_with fail
          refine HF1.out.mono ?_
          rintro e W7 ⟨a5, m5, c5, x5, rfl, f5, g5, b5⟩
          have H7 : Hid (FOA W6.heap.size W7 (.slice a5 m5 c5) x5 ∧ (x5.map fun x => (x.1, x.2.2)) = Dk.files S2 ∧ Below W5.heap.size W5 W7) := ⟨f5, g5, andThen H6.out b5⟩
          clear f5 g5 b5 HF1
          have HFS : Hid ((Dk.files S2).length ≤ 1000 ∧ ∀ y ∈ Dk.files S2, y.2.length ≤ 4194304) := by
            refine ⟨?_, fun y hy => ?_⟩
            · unfold Dk.files
              rw [List.length_map]
              have := HW2.out.1.n1
              have := HW2.out.2
              omega
            · unfold Dk.files at hy
              obtain ⟨p, hp, rfl⟩ := List.mem_map.1 hy
              exact (HW2.out.1.fl _ (HW2.out.1.ids p hp)).2
          have HC1 : Hid (Calls Try.prog 15 #[.slice a5 m5 c5] W7 fun e w' => ∃ a m c ys, e = .returned (.slice a m c) ∧ FO W7.heap.size w' (.slice a m c) ys ∧ (ys.map fun x => (x.1, x.2.2)) = Dk.files S2 ∧ Below W7.heap.size W7 w') := (dlcopies_any _ _ (Dk.files S2) W7 (by
            have h9 := H7.out.1.fa.fls
            rw [H7.out.2.1] at h9
            exact h9) (Nat.le_trans HFS.out.1 (by omega)) (fun y hy => Nat.le_trans (HFS.out.2 y hy) (by omega))).mono fun e w' ⟨v, ys, h1, h2, h3, h4⟩ => by
            obtain ⟨a, c, e9, -⟩ := Mg.row_shape h2.row
            exact ⟨a, _, c, ys, by rw [h1, e9], by rw [← e9]; exact h2, h3, h4⟩
          go_wp2_with fail
          refine HC1.out.mono ?_
          rintro e W8 ⟨a6, m6, c6, x6, rfl, f5, g5, b5⟩
          have H8 : Hid (FO W7.heap.size W8 (.slice a6 m6 c6) x6 ∧ (x6.map fun x => (x.1, x.2.2)) = Dk.files S2 ∧ Below W5.heap.size W5 W8) := ⟨f5, g5, andThen H7.out.2.2 b5⟩
          have H75 : Hid (W5.heap.size ≤ W7.heap.size) := H7.out.2.2.size
          clear f5 g5 b5 H7
          go_wp2_with fail
          go_loopw [18] (fun i wr => ∃ (j : Nat) (d : List Nat), j ≤ n0 ∧ i = .int .i64 (j : Int) ∧ d.length = n0 ∧ Own w1.heap.size wr (Value.slice (some ⟨lb, 0, none⟩) (n0 + 3) lc) (d ++ [91, 92, 93]) ∧ Fr W8 wr (· = lb) ∧ wr.heap.size = W8.heap.size) (fun i _ => n0 - (intOf i).toNat)
          case atStart => exact ⟨0, o2.data, Nat.zero_le _, rfl, HN0.out.1.symm, HL.out.2.2.1.kept H8.out.2.2, Fr.refl _ _, rfl⟩
          case round =>
            obtain ⟨j, d, hj, rfl, hd, hown, hfr, hsz⟩ := hrel
            have HJ : Hid (d.length = n0 ∧ Own w1.heap.size wr (Value.slice (some ⟨lb, 0, none⟩) (n0 + 3) lc) (d ++ [91, 92, 93]) ∧ Fr W8 wr (· = lb) ∧ wr.heap.size = W8.heap.size) := ⟨hd, hown, hfr, hsz⟩
            clear hd hown hfr hsz
            by_cases hjl : j < n0
            · obtain ⟨x9, y9, r9, hy9, z9, HP9⟩ : ∃ x9 y9 : Nat, wr.cell? ⟨lb, j, none⟩ = some (.int .u8 (x9 : Int)) ∧ bits .xor .u8 (x9 : Int) 255 = (y9 : Int) ∧ wr.frozen? ⟨lb, j, none⟩ = false ∧ Hid (Own w1.heap.size (wr.setCell ⟨lb, j, none⟩ (.int .u8 (y9 : Int))) (Value.slice (some ⟨lb, 0, none⟩) (n0 + 3) lc) (d.set j y9 ++ [91, 92, 93]) ∧ Fr wr (wr.setCell ⟨lb, j, none⟩ (.int .u8 (y9 : Int))) (· = lb) ∧ (wr.setCell ⟨lb, j, none⟩ (.int .u8 (y9 : Int))).heap.size = wr.heap.size) := by
                have hjd : j < d.length := by rw [HJ.out.1]; exact hjl
                have hx8 : d[j] < 256 := HJ.out.2.1.good _ (List.mem_append.2 (.inl (List.getElem_mem hjd)))
                obtain ⟨y9, hy9, hy8⟩ := xor_u8 d[j] hx8
                obtain ⟨u1, u2, u3, u4, u5⟩ := Own.put HJ.out.2.1 j y9 (by rw [List.length_append]; omega) hy8
                rw [List.getElem_append_left hjd] at u1
                rw [List.set_append_left _ _ hjd] at u3
                exact ⟨d[j], y9, u1, hy9, u2, u3, u4, u5⟩
              have t6 : (j : Int) < ((n0 + 3 : Nat) : Int) := by omega
              go_wp2_with fail
              go_roundw
              case rel =>
                try rw [hy9]
                exact ⟨j + 1, d.set j y9, by omega, by go_num, by rw [List.length_set]; exact HJ.out.1, HP9.out.1, HJ.out.2.2.1.trans HP9.out.2.1 (fun q _ e => e), HP9.out.2.2.trans HJ.out.2.2.2⟩
              case measure => simp [intOf]; omega
            · obtain ⟨W9, hW9⟩ : ∃ x, x = wr := ⟨_, rfl⟩
              subst hW9
              have HLT : Hid (lb < D4.heap.size ∧ wo.heap.size ≤ lb ∧ D4.heap.size ≤ W5.heap.size ∧ W5.heap.size ≤ W8.heap.size ∧ (∀ q, Ft g S2 M2 q → q ≠ lb)) := by
                have hlb := HD4.out.2.2.2.2.2.2.1
                have hlb4 := HD4.out.2.2.2.2.1
                refine ⟨hlb4, hlb, HL.out.2.2.2.2.2.2.2, H8.out.2.2.size, fun q e e2 => ?_⟩
                rcases HL.out.2.2.2.2.2.1 q e with e3 | e3
                · have := (HO.out.1.dm.ft e3).2
                  omega
                · omega
              have HOS : Hid (OS w0.heap.size w0 W9 gb g S2 M2 C V l f n1 lh fh nh (Value.slice a3 (nL + 1) c3) (ls ++ [((Value.slice (some ⟨lb, 0, none⟩) (n0 + 3) lc), d)])) := by
                have h58 := H8.out.2.2
                have hr8 := Mg.row_kept HL.out.2.2.2.1 h58
                have ho8 := HL.out.2.2.1.kept h58
                have hd8 := HL.out.2.1.kept h58
                have e1 : (ls ++ [((Value.slice (some ⟨lb, 0, none⟩) (n0 + 3) lc), d)]).map (fun x => x.1) = (ls.map fun x => x.1) ++ [(Value.slice (some ⟨lb, 0, none⟩) (n0 + 3) lc)] := by simp
                have e2 : ((ls.map fun x => x.1) ++ [(Value.slice (some ⟨lb, 0, none⟩) (n0 + 3) lc)]).length = nL + 1 := by simp [HNL.out.1]
                obtain ⟨l1, l2, l3, l4, l5⟩ := HLT.out
                refine HO.out.1.turn HO.out.1.be.size ((HL.out.2.2.2.2.1.trans (Fr.kept h58) fun q _ e => e).trans HJ.out.2.2.1 fun q h8 e => ?_) (hd8.blk fun q e => HJ.out.2.2.1.block q (hd8.ft e).2 (l5 q e)) (fun q e => (HL.out.2.2.2.2.2.1 q e).imp id fun e2 => ?_) ((Value.slice (some ⟨lb, 0, none⟩) (n0 + 3) lc), d) ?_ (fun q e => HD4.out.2.2.2.2.2.2.2 q e) (HJ.out.2.1.mono ?_) (fun q e => ?_) (fun q e hq e2 => ?_) ?_
                · have e2 : q = lb := e
                  omega
                · have := HD4.out.2.2.2.1.size
                  omega
                · rw [e1, e2]
                  exact Mg.row_block hr8 fun q e => HJ.out.2.2.1.block q (World.ownsRow.lt hr8 q e).2 fun e2 => Mg.kinds_apart hr8 ho8.row (by decide) q e (by rw [show q = lb from e2]; rfl)
                · exact Nat.le_trans HO.out.1.be.size HQ.out.2.1.size
                · have e9 : lb = q := Option.some.inj e
                  omega
                · rcases HL.out.2.2.2.2.2.1 q e2 with e3 | e3
                  · have := (HO.out.1.dm.ft e3).2
                    omega
                  · rcases e with e | e
                    · have := (World.ownsRow.lt HD4.out.2.2.1 q e).2
                      omega
                    · have e9 : lb = q := Option.some.inj e
                      omega
                · show d.length ≤ _
                  rw [HJ.out.1]
                  omega
              have HX6 : Hid (FO W7.heap.size W9 (.slice a6 m6 c6) x6 ∧ ∀ W, Below W9.heap.size W9 W → W.cell? ⟨p, 2, none⟩ = some (.string o3.a)) := by
                obtain ⟨l1, l2, l3, l4, l5⟩ := HLT.out
                have h7 := H75.out
                refine ⟨FO.blkq H8.out.1 fun q e => HJ.out.2.2.1.block q (H8.out.1.lt e) fun e2 => ?_, fun W hW => ?_⟩
                · have h1 := H8.out.1.ge e
                  have e3 : q = lb := e2
                  omega
                · have h1 := (HLP5.out W8 H8.out.2.2).2
                  have h2 : LB W9 p 37 (opc o3) := by
                    have h3 := (Array.getElem?_eq_some_iff.1 h1).1
                    unfold LB at *
                    rw [HJ.out.2.2.1.block p h3 fun e2 => by
                      have e3 : p = lb := e2
                      have := HQ.out.2.2.1
                      have := HD2.out.1
                      omega]
                    exact h1
                  exact (h2.kept hW).cell 2 _ rfl
              clear HD2 HD4 HJ HDM HVB HBD HQ HN0 HC1 HLP5
              have HF2 : Hid (Calls Try.prog 16 #[.pointer (some ⟨g, 0, none⟩)] W9 fun e w' => ∃ a m c xs, e = .returned (.slice a m c) ∧ FOA W9.heap.size w' (.slice a m c) xs ∧ (xs.map fun x => (x.1, x.2.2)) = Dk.files S2 ∧ Below W9.heap.size W9 w') := (dkfilesA_wf _ g S2 M2 _ W9 HOS.out.dm HW2.out.1 (by omega)).mono fun e w' ⟨v, xs, h1, h2, h3, h4⟩ => by
                obtain ⟨a, c, e9, -⟩ := Mg.row_shape h2.fo.row
                exact ⟨a, _, c, xs, by rw [h1, e9], by rw [← e9]; exact h2, h3, h4⟩
              go_wp2_with fail
              refine HF2.out.mono ?_
              rintro e G1 ⟨a8, m8, c8, x8, rfl, f5, g5, b5⟩
              have HG1 : Hid (FOA W9.heap.size G1 (.slice a8 m8 c8) x8 ∧ (x8.map fun x => (x.1, x.2.2)) = Dk.files S2 ∧ Below W9.heap.size W9 G1) := ⟨f5, g5, b5⟩
              clear f5 g5 b5 HF2
              have HFA : Hid (Calls Try.prog 17 #[.slice a8 m8 c8, .slice a6 m6 c6] G1 fun e w' => e = .returned (.bool true) ∧ Below G1.heap.size G1 w') := by
                have h1 := HG1.out.1.fa.fls
                rw [HG1.out.2.1] at h1
                have h2 := (HX6.out.1.kept HG1.out.2.2).fls
                rw [H8.out.2.1] at h2
                exact dlfalike_yes _ _ _ _ (Dk.files S2) _ h1 h2
              go_wp2_with fail
              refine HFA.out.mono ?_
              rintro e G2 ⟨rfl, b5⟩
              have HG2 : Hid (Below W9.heap.size W9 G2) := andThen HG1.out.2.2 b5
              clear b5 HFA HG1
              have r2 := HX6.out.2 G2 HG2.out
              have HO2 : Hid (OS w0.heap.size w0 G2 gb g S2 M2 C V l f n1 lh fh nh (Value.slice a3 (nL + 1) c3) (ls ++ [((Value.slice (some ⟨lb, 0, none⟩) (n0 + 3) lc), d)])) := HOS.out.kept HOS.out.be.size HG2.out
              have HLK : Hid (Calls Try.prog 18 #[.pointer (some ⟨gb, 0, none⟩), .pointer (some ⟨g, 0, none⟩), .string o3.a, .int .i64 keep, cv] G2 fun e w' => e = .returned (.bool true) ∧ ∃ C' V' l' f' n' lh' fh' nh', LkP w0.heap.size G2 w' gb g S2 M2 (Lg (Value.slice a3 (nL + 1) c3) (ls ++ [((Value.slice (some ⟨lb, 0, none⟩) (n0 + 3) lc), d)])) C' V' l' f' n' lh' fh' nh' ∧ l'.length ≤ l.length + 20000 ∧ f'.length ≤ f.length + 4 ∧ n'.length ≤ n1.length + 2) := dllooked_any w0.heap.size gb g S2 M2 (k + 1 + 2) C V l f n1 lh fh nh (Lg (Value.slice a3 (nL + 1) c3) (ls ++ [((Value.slice (some ⟨lb, 0, none⟩) (n0 + 3) lc), d)])) o3.a keep cv cs G2 ⟨HO2.out.bk, HO2.out.dm, HO2.out.ou, fun _ _ => rfl, Below.refl _ _⟩ HO2.out.be.size HW2.out.1 (by omega) (fun W hW => HCV.out.kept (HO2.out.be.trans hW)) HO3.out.2.2.2.2.1 (by have := HO.out.2; omega)
              go_wp2_with fail
              refine HLK.out.mono ?_
              rintro e G3 ⟨rfl, C', V', l', f', n', lh', fh', nh', hk, b1, b2, b3⟩
              have HG3 : Hid (OS w0.heap.size w0 G3 gb g S2 M2 C' V' l' f' n' lh' fh' nh' (Value.slice a3 (nL + 1) c3) (ls ++ [((Value.slice (some ⟨lb, 0, none⟩) (n0 + 3) lc), d)]) ∧ l'.length ≤ l.length + 20000 ∧ f'.length ≤ f.length + 4 ∧ n'.length ≤ n1.length + 2) := ⟨HO2.out.look hk, b1, b2, b3⟩
              clear hk b1 b2 b3 HLK HO2 HOS r2
              have HTL : Hid (Calls Try.prog 19 #[(Value.slice a3 (nL + 1) c3)] G3 fun e w' => e = .returned (.bool true) ∧ Below G3.heap.size G3 w') := dltails_any _ _ G3 HG3.out.1.tl ⟨by rw [List.length_append]; have := HNL.out; simp only [List.length_cons, List.length_nil]; omega, HG3.out.1.len⟩
              go_wp2_with fail
              refine HTL.out.mono ?_
              rintro e G4 ⟨rfl, b5⟩
              have HG4 : Hid (Below G3.heap.size G3 G4) := b5
              clear b5 HTL
              go_wp2_with fail
              go_roundw
              case rel =>
                have h1 := HO.out.2
                have h2 := HG3.out.2
                have h3 := HNL.out
                refine ⟨k + 1, M2, S2, C', V', l', f', n', lh', fh', nh', ls ++ [((Value.slice (some ⟨lb, 0, none⟩) (n0 + 3) lc), d)], ⟨by omega, by omega⟩, by go_num, HG3.out.1.kept HG3.out.1.be.size HG4.out, HW2.out.1, by omega, by omega, by omega, ?_⟩
                rw [List.length_append]
                simp only [List.length_cons, List.length_nil]
                omega
              case measure => simp [intOf]; omega
    · by_cases h1 : k < n
      · have t1 : ((k : Int) < (n : Int)) = True := eq_true (by omega)
        have t2 : ((k : Int) < 40) = False := eq_false (by omega)
        go_wp2_with fail
        go_returns
        exact ⟨rfl, HO.out.1.be⟩
      · have t1 : ((k : Int) < (n : Int)) = False := eq_false (by omega)
        go_wp2_with fail
        go_returns
        exact ⟨rfl, HO.out.1.be⟩
end Go.Proofs.Ytjepeeopjjnglab
