import Derived.Maps.GroupsBeside
import Derived.Maps.Ext
import Derived.Maps.OwnRows
import Derived.Maps.AppendAt
import Derived.Deep.RegionHeldLaw
import Derived.Handy
import Derived.Test.YtceokpklcfmadaaQS1
/-
  Package index, pure: keys with their numbers, rising; what a map of them reads as; adding.
-/
namespace Go.Proofs.Ytceokpklcfmadaa
open Go Go.RowKit Go.ChangeShapes
namespace Ix

abbrev Gm := List (Int × List Int)
def rising (kvs : Gm) : Prop := kvs.Pairwise (fun p q => p.1 < q.1)
def get (kvs : Gm) (k : Int) : List Int := ((kvs.find? (fun p => p.1 == k)).map (·.2)).getD []
def add : Gm → Int → Int → Gm
  | [], k, v => [(k, [v])]
  | (k', l) :: r, k, v => if k < k' then (k, [v]) :: (k', l) :: r else if k' = k then (k', l ++ [v]) :: r else (k', l) :: add r k v
def en (p : Int × List Int) : Lit × DataW Unit := (.int .i64 p.1, .slice (lits .i64 p.2) [])
def dm (kvs : Gm) : DataW Unit := .map (kvs.map en)

theorem get_none (kvs : Gm) (k : Int) (h : ∀ p ∈ kvs, p.1 ≠ k) : kvs.find? (fun p => p.1 == k) = none := by
  rw [List.find?_eq_none]
  intro p hp
  simpa using h p hp
theorem get_nil (kvs : Gm) (k : Int) (h : ∀ p ∈ kvs, p.1 ≠ k) : get kvs k = [] := by
  unfold get
  rw [get_none kvs k h]
  rfl
theorem get_cons (p : Int × List Int) (r : Gm) (k : Int) : get (p :: r) k = if p.1 = k then p.2 else get r k := by
  unfold get
  rw [List.find?_cons]
  by_cases h : p.1 = k
  · rw [if_pos h]
    simp [h]
  · rw [if_neg h]
    have e : (p.1 == k) = false := by simp [h]
    rw [e]
theorem get_mem {kvs : Gm} (h : rising kvs) {k : Int} {l : List Int} (hm : (k, l) ∈ kvs) : get kvs k = l := by
  induction kvs with
  | nil => cases hm
  | cons p r ih =>
    rw [get_cons]
    unfold rising at h
    rw [List.pairwise_cons] at h
    rcases List.mem_cons.1 hm with e | e
    · rw [← e, if_pos rfl]
    · have := h.1 _ e
      rw [if_neg (by omega)]
      exact ih h.2 e
theorem find_en (kvs : Gm) (k : Int) : (kvs.map en).find? (fun p => p.1.sameKey (.int .i64 k)) = (kvs.find? (fun p => p.1 == k)).map en := by
  induction kvs with
  | nil => rfl
  | cons p r ih =>
    rw [List.map_cons, List.find?_cons, List.find?_cons]
    have e : (en p).1.sameKey (.int .i64 k) = (p.1 == k) := by
      unfold en Lit.sameKey
      by_cases h : p.1 = k <;> simp [h]
    rw [e, ih]
    cases p.1 == k <;> rfl
/-- what is read at a key -/
theorem dm_at (kvs : Gm) (k : Int) (z : DataW Unit) : ((∃ l, (k, l) ∈ kvs ∧ (dm kvs).atKey (.int .i64 k) z = .slice (lits .i64 l) [] ∧ get kvs k = l)) ∨ ((∀ p ∈ kvs, p.1 ≠ k) ∧ (dm kvs).atKey (.int .i64 k) z = z ∧ get kvs k = []) := by
  cases hf : kvs.find? (fun p => p.1 == k) with
  | none =>
    refine .inr ⟨fun p hp e => ?_, ?_, ?_⟩
    · rw [List.find?_eq_none] at hf
      have := hf p hp
      simp [e] at this
    · unfold dm DataW.atKey
      dsimp only
      rw [find_en, hf]
      rfl
    · unfold get
      rw [hf]
      rfl
  | some p =>
    have h1 := List.mem_of_find?_eq_some hf
    have h2 := List.find?_some hf
    have h3 : p.1 = k := by simpa using h2
    refine .inl ⟨p.2, by rw [← h3]; exact h1, ?_, ?_⟩
    · unfold dm DataW.atKey
      dsimp only
      rw [find_en, hf]
      rfl
    · unfold get
      rw [hf]
      rfl
theorem same_en (p : Int × List Int) (k : Int) : (!(en p).1.sameKey (.int .i64 k)) = !(p.1 == k) := by
  unfold en Lit.sameKey
  by_cases h : p.1 = k <;> simp [h]
theorem filter_all (kvs : Gm) (k : Int) (h : ∀ p ∈ kvs, p.1 ≠ k) : (kvs.map en).filter (fun p => !p.1.sameKey (.int .i64 k)) = kvs.map en := by
  rw [List.filter_eq_self]
  intro q hq
  obtain ⟨p, hp, rfl⟩ := List.mem_map.1 hq
  rw [same_en]
  have e : (p.1 == k) = false := by simpa using h p hp
  rw [e]
  rfl
theorem before_en (p q : Int × List Int) : (en p).1.before (en q).1 = decide (p.1 < q.1) := rfl
theorem put_add : ∀ (kvs : Gm) (k v : Int), rising kvs → DataW.insert (en (k, get kvs k ++ [v])) ((kvs.map en).filter (fun p => !p.1.sameKey (.int .i64 k))) = (add kvs k v).map en
  | [], k, v, _ => rfl
  | p :: r, k, v, h => by
    have h0 := h
    unfold rising at h
    rw [List.pairwise_cons] at h
    obtain ⟨k', l⟩ := p
    rw [add]
    by_cases h1 : k < k'
    · have hno : ∀ q ∈ ((k', l) :: r : Gm), q.1 ≠ k := fun q hq => by
        rcases List.mem_cons.1 hq with rfl | e
        · show k' ≠ k
          omega
        · have : k' < q.1 := h.1 q e
          omega
      rw [if_pos h1, filter_all _ k hno, get_nil _ k hno, List.map_cons, DataW.insert, before_en, if_pos (by simpa using h1)]
      rfl
    · rw [if_neg h1]
      by_cases h2 : k' = k
      · subst h2
        rw [if_pos rfl, List.map_cons, List.filter_cons, same_en, if_neg (by simp), get_cons, if_pos rfl]
        have hno : ∀ q ∈ r, q.1 ≠ k' := fun q hq => by
          have : k' < q.1 := h.1 q hq
          omega
        rw [filter_all _ k' hno]
        cases r with
        | nil => rfl
        | cons y r =>
          have : k' < y.1 := h.1 y (List.mem_cons_self ..)
          rw [List.map_cons, DataW.insert, before_en, if_pos (by simpa using this)]
          rfl
      · rw [if_neg h2, List.map_cons, List.filter_cons, same_en, if_pos (by simp [h2]), DataW.insert, before_en, if_neg (by simpa using h1), get_cons, if_neg h2, put_add r k v h.2]
        rfl
/-- one more at a key -/
theorem dm_put (kvs : Gm) (k v : Int) (h : rising kvs) : (dm kvs).put (.int .i64 k) (.slice (lits .i64 (get kvs k ++ [v])) []) = dm (add kvs k v) := by
  show DataW.map (DataW.insert (en (k, get kvs k ++ [v])) _) = _
  rw [put_add kvs k v h]
  rfl
theorem add_keys : ∀ (kvs : Gm) (k v : Int), ∀ q ∈ add kvs k v, q.1 = k ∨ ∃ p ∈ kvs, p.1 = q.1
  | [], k, v, q, h => by
    rw [add] at h
    exact .inl (by rw [List.mem_singleton.1 h])
  | (k', l) :: r, k, v, q, h => by
    rw [add] at h
    split at h
    · rcases List.mem_cons.1 h with rfl | e
      · exact .inl rfl
      · exact .inr ⟨q, e, rfl⟩
    · split at h
      · rcases List.mem_cons.1 h with rfl | e
        · exact .inr ⟨(k', l), List.mem_cons_self .., rfl⟩
        · exact .inr ⟨q, List.mem_cons_of_mem _ e, rfl⟩
      · rcases List.mem_cons.1 h with rfl | e
        · exact .inr ⟨(k', l), List.mem_cons_self .., rfl⟩
        · rcases add_keys r k v q e with h1 | ⟨p, hp, e2⟩
          · exact .inl h1
          · exact .inr ⟨p, List.mem_cons_of_mem _ hp, e2⟩
theorem add_rising : ∀ (kvs : Gm) (k v : Int), rising kvs → rising (add kvs k v)
  | [], k, v, _ => List.pairwise_singleton _ _
  | (k', l) :: r, k, v, h => by
    have h0 := h
    unfold rising at h
    rw [List.pairwise_cons] at h
    rw [add]
    split
    · rename_i h1
      refine List.pairwise_cons.2 ⟨fun q hq => ?_, h0⟩
      show k < q.1
      rcases List.mem_cons.1 hq with rfl | e
      · exact h1
      · have : k' < q.1 := h.1 q e
        omega
    · split
      · exact List.pairwise_cons.2 ⟨fun q hq => h.1 q hq, h.2⟩
      · rename_i h1 h2
        refine List.pairwise_cons.2 ⟨fun q hq => ?_, add_rising r k v h.2⟩
        show k' < q.1
        rcases add_keys r k v q hq with e | ⟨p, hp, e⟩
        · omega
        · have : k' < p.1 := h.1 p hp
          omega
/-- a key behind all others -/
theorem add_new : ∀ (kvs : Gm) (k v : Int), (∀ p ∈ kvs, p.1 < k) → add kvs k v = kvs ++ [(k, [v])]
  | [], k, v, _ => rfl
  | (k', l) :: r, k, v, h => by
    have h1 : k' < k := h _ (List.mem_cons_self ..)
    rw [add, if_neg (by omega), if_neg (by omega), add_new r k v fun p hp => h p (List.mem_cons_of_mem _ hp)]
    rfl
/-- the last key again -/
theorem add_last : ∀ (kvs : Gm) (k v : Int) (l : List Int), (∀ p ∈ kvs, p.1 < k) → add (kvs ++ [(k, l)]) k v = kvs ++ [(k, l ++ [v])]
  | [], k, v, l, _ => by
    rw [List.nil_append, add, if_neg (by omega), if_pos rfl]
    rfl
  | (k', l') :: r, k, v, l, h => by
    have h1 : k' < k := h _ (List.mem_cons_self ..)
    rw [List.cons_append, add, if_neg (by omega), if_neg (by omega), add_last r k v l fun p hp => h p (List.mem_cons_of_mem _ hp)]
    rfl
theorem lits_inj {q : IntKind} {a b : List Int} (h : (lits q a : List (DataW Unit)) = lits q b) : a = b := by
  unfold lits at h
  exact List.map_inj_right (fun x y e => by simpa using e) |>.1 h
end Ix
end Go.Proofs.Ytceokpklcfmadaa

/-
  Package index: a Multi in memory; New, Add.
-/
namespace Go.Proofs.Ytceokpklcfmadaa
open Go Go.RowKit Go.ChangeShapes
open Wb

/-- every block stays but those of F -/
structure IFr (w w' : World) (F : Nat → Prop) : Prop where
  os : w'.os = w.os
  tape : w'.tape = w.tape
  output : w'.output = w.output
  size : w.heap.size ≤ w'.heap.size
  block : ∀ k, k < w.heap.size → ¬ F k → w'.heap[k]? = w.heap[k]?
theorem IFr.trans {w w1 w2 : World} {F F2 : Nat → Prop} (h : IFr w w1 F) (h2 : IFr w1 w2 F2) (hF : ∀ k, k < w.heap.size → F2 k → F k) : IFr w w2 F :=
  ⟨h2.os.trans h.os, h2.tape.trans h.tape, h2.output.trans h.output, Nat.le_trans h.size h2.size, fun k hk hn => (h2.block k (Nat.lt_of_lt_of_le hk h.size) fun e => hn (hF k hk e)).trans (h.block k hk hn)⟩
theorem IFr.of {w w' : World} {F : Nat → Prop} {b : Option Nat} (h : w.grownBy w' b) (hb : ∀ k, k < w.heap.size → b = some k → F k) : IFr w w' F :=
  ⟨h.os, h.tape, h.output, h.size, fun k hk hn => h.block k hk fun e => hn (hb k hk e.symm)⟩
theorem IFr.refl (w : World) (F : Nat → Prop) : IFr w w F := ⟨rfl, rfl, rfl, Nat.le_refl _, fun _ _ _ => rfl⟩
theorem IFr.below {w w' : World} {F : Nat → Prop} (h : IFr w w' F) (B : Nat) (hB : B ≤ w.heap.size) (hF : ∀ k, F k → B ≤ k) : Below B w w' :=
  ⟨h.os, h.tape, h.output, h.size, fun k hk => h.block k (Nat.lt_of_lt_of_le hk hB) fun e => by have := hF k e; omega⟩
theorem IFr.mono {w w' : World} {F F2 : Nat → Prop} (h : IFr w w' F) (hF : ∀ k, F k → F2 k) : IFr w w' F2 := ⟨h.os, h.tape, h.output, h.size, fun k hk hn => h.block k hk fun e => hn (hF k e)⟩
theorem grown_none {w w' : World} (h : Below w.heap.size w w') (row : Option Nat) : w.grownBy w' row := ⟨h.os, h.tape, h.output, h.size, fun k hk _ => h.block k hk⟩

theorem lawI : Maps.Keyed Try.prog 3 := Maps.int_keyed Try.underlying3
theorem zeroIS (w : World) : (zeroValue 35).run Try.prog w = .ok (.slice none 0 0) w := by kernel_rfl
theorem keyI {k : Int} (h : (Lit.int .i64 k).wf = true) : keyOf Try.prog 3 (.int .i64 k) = some (.int .i64 k) := Maps.keyOf_int_mk Try.underlying3 h
theorem infoI : (Try.prog.info? 3).map (fun i => (i.zero, i.size, i.bytes)) = some (some (.int .i64 0), 1, 8) := by kernel_rfl
/-- a row of the map's -/
def Mrow (w : World) (b k : Nat) : Prop := ∃ es clock, w.heap[b]? = some (.map es clock) ∧ ∃ x ∈ es.toList, x.val.ownBlock = some k
/-- a Multi in memory -/
structure MI (w : World) (g b base n : Nat) (kvs : Ix.Gm) : Prop where
  box : LB w g 99 [.map (some b)]
  map : w.ownsGroups (H := Unit) Try.prog 3 base 3 .i64 b n (Ix.dm kvs)
  ris : Ix.rising kvs
  lo : g < base
  hi : base ≤ w.heap.size
section
variable {w w' : World} {g b base n : Nat} {kvs : Ix.Gm}
theorem MI.frame (h : MI w g b base n kvs) {row : Option Nat} (hg : w.grownBy w' row) (h1 : row ≠ some b) (h2 : row ≠ some g) (h3 : ∀ k, row = some k → ¬ Mrow w b k) : MI w' g b base n kvs := by
  refine ⟨(hg.block g h.box.lt fun e => h2 e.symm).trans h.box, h.map.kept hg (fun e => h1 e.symm) fun es clock hb x hx => ?_, h.ris, h.lo, Nat.le_trans h.hi hg.size⟩
  cases hx' : x.val.ownBlock with
  | none => exact .inl rfl
  | some k => exact .inr fun e => h3 k e.symm ⟨es, clock, hb, x, hx, hx'⟩
theorem MI.kept (h : MI w g b base n kvs) (hb : Below w.heap.size w w') : MI w' g b base n kvs := h.frame (grown_none hb none) (by simp) (by simp) (fun k e => by cases e)
theorem MI.ne (h : MI w g b base n kvs) : g ≠ b := by
  rintro rfl
  obtain ⟨es, clock, hb, -⟩ := h.map
  have := h.box
  unfold LB at this
  rw [this] at hb
  simp at hb
theorem MI.blt (h : MI w g b base n kvs) : b < base ∧ b < w.heap.size := by
  obtain ⟨es, clock, hb, -, -, -, hbb, -⟩ := h.map
  exact ⟨hbb, (Array.getElem?_eq_some_iff.1 hb).1⟩
theorem MI.row (h : MI w g b base n kvs) {k : Nat} (hm : Mrow w b k) : base ≤ k ∧ k < w.heap.size := by
  obtain ⟨es, clock, hb, x, hx, hk⟩ := hm
  obtain ⟨es', clock', hb', F, -⟩ := h.map
  obtain ⟨rfl, rfl⟩ : es' = es ∧ clock' = clock := by rw [hb'] at hb; simpa using hb
  obtain ⟨y, hy⟩ := F.reads x hx
  obtain ⟨z, hz, _⟩ := WideElems.rd_val hy
  obtain ⟨zs, hoi, _⟩ := rowElem_inv hz
  exact hoi.1.lt k hk
theorem Mrow.same {w w' : World} {b k : Nat} (h : Mrow w' b k) (e : w'.heap[b]? = w.heap[b]?) : Mrow w b k := by
  obtain ⟨es, clock, hb, x⟩ := h
  exact ⟨es, clock, e ▸ hb, x⟩
/-- what stands at a key -/
theorem MI.at (h : MI w g b base n kvs) (k : Int) (hk : (Lit.int .i64 k).wf = true) (hn : n < 1000000000) :
    ∃ v, (Instr.lookup 97 (.map (some b)) (.int .i64 k) false).run Try.prog w = .ok v w ∧ w.ownsInts base 3 .i64 v (Ix.get kvs k) ∧ (Ix.get kvs k).length ≤ n ∧ w.groupBack Try.prog 97 3 base 3 .i64 b n (Ix.dm kvs) (.int .i64 k) (.int .i64 k) v ∧ ∀ q, v.ownBlock = some q → Mrow w b q := by
  obtain ⟨v, zs, hrun, hat, hoi, hzl, hback⟩ := h.map.at lawI Try.underlying97 (zeroIS w) (by unfold maxLen; omega) (keyI hk)
  have hzs : zs = Ix.get kvs k := by
    rcases Ix.dm_at kvs k .nil with ⟨l, -, e1, e2⟩ | ⟨-, e1, e2⟩
    · rw [e1] at hat
      rcases hoi.datum (H := Unit) with ⟨e3, -⟩ | e3
      · rw [e3] at hat
        cases hat
      · rw [e3] at hat
        simp only [DataW.slice.injEq, and_true] at hat
        rw [e2]
        exact (Ix.lits_inj hat).symm
    · rw [e1] at hat
      rcases hoi.datum (H := Unit) with ⟨e3, e4⟩ | e3
      · rw [e2, e4]
      · rw [e3] at hat
        cases hat
  subst hzs
  refine ⟨v, hrun, hoi, hzl, hback, fun q hq => ?_⟩
  obtain ⟨es, clock, hb, F, -⟩ := h.map
  rcases Maps.fit_look false lawI Try.underlying97 (zeroIS w) hb F (keyI hk) with ⟨hrun', -, -⟩ | ⟨e0, y, hm0, -, hrun', -, -, -⟩
  · rw [hrun] at hrun'
    obtain rfl : v = .slice none 0 0 := by simpa using hrun'
    cases hq
  · rw [hrun] at hrun'
    obtain rfl : v = e0.val := by simpa using hrun'
    exact ⟨es, clock, hb, e0, hm0, hq⟩
/-- one more at a key: append, and the store -/
theorem MI.add (h : MI w g b base n kvs) (k x : Int) (hk : (Lit.int .i64 k).wf = true) (hx : (Lit.int .i64 x).wf = true) (hn : n < 1000000000) :
    ∃ v, (Instr.lookup 97 (.map (some b)) (.int .i64 k) false).run Try.prog w = .ok v w ∧ ∀ (W1 : World) (gx cx : Nat) (ty : TypeId), Below w.heap.size w W1 → W1.cell? ⟨gx, 0, none⟩ = some (.int .i64 x) →
      ∃ v' W2, (Builtin.append_ #[35, 35] ty #[v, .slice (some ⟨gx, 0, none⟩) 1 cx]).run Try.prog W1 = .ok v' W2 ∧ W2.cell? ⟨g, 0, none⟩ = some (.map (some b)) ∧
        ∃ W3, (Instr.mapUpdate 97 (.map (some b)) (.int .i64 k) v').run Try.prog W2 = .ok () W3 ∧ W3.cell? ⟨g, 0, none⟩ = some (.map (some b)) ∧ MI W3 g b base (n + 1) (Ix.add kvs k x) ∧ IFr w W3 (fun q => q = b ∨ Mrow w b q) ∧ ∀ q, Mrow W3 b q → Mrow w b q ∨ w.heap.size ≤ q := by
  obtain ⟨v, hrun, hoi, hzl, hback, hvm⟩ := h.at k hk hn
  refine ⟨v, hrun, fun W1 gx cx ty h01 hcx => ?_⟩
  obtain ⟨i0, hi, hz0, hz1, hz2⟩ := info_parts infoI
  have hoi1 : W1.ownsInts base 3 .i64 v (Ix.get kvs k) := hoi.kept (grown_none h01 none) (by cases v.ownBlock <;> simp)
  obtain ⟨v', W2, hr, hown', hgrow, -, hloc⟩ := run_append_own_at (P := Try.prog) W1 base 35 ty 3 i0 (.int .i64 0) 1 8 Try.underlying35 hi hz0 hz1 hz2 rfl (by omega) v (Ix.get kvs k).length ((Ix.get kvs k).map (Value.int .i64)) hoi1.1 ⟨gx, 0, none⟩ 1 cx [.int .i64 x] rfl (fun j u hj => by
    cases j with
    | zero =>
      rw [Addr.add_lit]
      have e : u = .int .i64 x := by simpa using hj.symm
      rw [e]
      exact hcx
    | succ j => simp at hj) (fun u hu => by rw [List.mem_singleton.1 hu]; rfl) (by unfold maxLen; omega) (by omega) (Nat.le_trans h.hi h01.size)
  have hoi2 := hoi1.appended hown' hx
  have hvb : ∀ q, v.ownBlock = some q → base ≤ q := fun q e => (hoi.1.lt q e).1
  have hg0 : w.grownBy W2 v.ownBlock := ⟨hgrow.os.trans h01.os, hgrow.tape.trans h01.tape, hgrow.output.trans h01.output, Nat.le_trans h01.size hgrow.size, fun q hq hne => (hgrow.block q (Nat.lt_of_lt_of_le hq h01.size) hne).trans (h01.block q hq)⟩
  have hbx2 : LB W2 g 99 [.map (some b)] := (hg0.block g h.box.lt fun e => by have := hvb g e.symm; have := h.lo; omega).trans h.box
  obtain ⟨W3, hrun3, hG3, hgr3⟩ := hback W2 v' _ hg0 hoi2 (by rw [List.length_append, List.length_singleton]; omega) (hloc.imp id fun e => ⟨_, e, h01.size⟩)
  have hbx3 : LB W3 g 99 [.map (some b)] := (hgr3.block g hbx2.lt fun e => h.ne (Option.some.inj e)).trans hbx2
  refine ⟨v', W2, hr, hbx2.cell 0 _ rfl, W3, hrun3, hbx3.cell 0 _ rfl, ⟨hbx3, ?_, Ix.add_rising kvs k x h.ris, h.lo, Nat.le_trans h.hi (Nat.le_trans hg0.size hgr3.size)⟩, ?_, ?_⟩
  · rw [hoi2.datum_pos (by simp), Ix.dm_put kvs k x h.ris] at hG3
    exact hG3
  · exact (IFr.of hg0 fun q _ e => .inr (hvm q e)).trans (IFr.of (F := fun q => q = b ∨ Mrow w b q) hgr3 fun q _ e => .inl (Option.some.inj e).symm) fun q _ e => e
  · intro q hq
    obtain ⟨es, clock, hb, F, hs, -, hbb, -⟩ := h.map
    have hblt : b < w.heap.size := (Array.getElem?_eq_some_iff.1 hb).1
    have hb1 : W2.heap[b]? = some (.map es clock) := (hg0.block b hblt fun e1 => by have := hvb b e1.symm; omega).trans hb
    obtain ⟨es', clock', hb2, hwho⟩ := stored_who lawI Try.underlying97 hb1 F (Nat.lt_of_le_of_lt hs (by unfold maxLen; omega)) (keyI hk) hrun3
    obtain ⟨es2, clock2, hb3, y, hy, hyq⟩ := hq
    obtain ⟨rfl, rfl⟩ : es' = es2 ∧ clock' = clock2 := by rw [hb2] at hb3; simpa using hb3
    rcases hwho y hy with ⟨hy0, _⟩ | ⟨_, hval⟩
    · exact .inl ⟨es, clock, hb, y, hy0, hyq⟩
    · rw [hval] at hyq
      rcases hloc with e | e
      · exact .inl (hvm q (e.symm.trans hyq))
      · have e9 := Option.some.inj (e.symm.trans hyq)
        have := h01.size
        exact .inr (by omega)
end
section
variable {P : Program} {ops : Array Oper} {o : Oper} {a : Act} {w W : World} {K : Act → World → Prop} {Q : Exit → Act → World → Prop} {E : Prop} {v u y : Value}
/-- a step by its run -/
theorem st_run (hgd : o.guard = none) (hr : (execOp a.eval o).run P w = .ok (.value v) W) (h : K (a.put o.dst v) W) : if Region.wanted o (yielded ops a.tmps) = true then Oper.wp P o a w K Q else E := by
  rw [if_pos (by simp [Region.wanted, hgd])]
  unfold Oper.wp
  rw [hr]
  simp [Oper.upon]
  exact h
theorem st_look (hgd : o.guard = none) (t : TypeId) (m x : Operand) (c : Bool) (ho : o.op = .lookup t m x c) (hm : a.eval m = u) (hx : a.eval x = y) (hr : (Instr.lookup t u y c).run P w = .ok v W) (h : K (a.put o.dst v) W) : if Region.wanted o (yielded ops a.tmps) = true then Oper.wp P o a w K Q else E :=
  st_run hgd (by simp [execOp, ho, hm, hx, hr, Result.andThen]) h
theorem st_appR (hgd : o.guard = none) (t : TypeId) (s x : Operand) (ho : o.op = .call { callee := .builtin .append, args := #[s, x], argTypes := #[t, t] }) (hs : a.eval s = u) (hx : a.eval x = y) (hr : (Builtin.append_ #[t, t] o.type #[u, y]).run P w = .ok v W) (h : K (a.put o.dst v) W) : if Region.wanted o (yielded ops a.tmps) = true then Oper.wp P o a w K Q else E :=
  st_run hgd (by simp [execOp, ho, resolve, invoke, builtin, hs, hx, hr, Result.andThen]) h
theorem st_upd (hgd : o.guard = none) (t : TypeId) (m x z : Operand) (ho : o.op = .mapUpdate t m x z) (hm : a.eval m = u) (hx : a.eval x = y) (hz : a.eval z = v) (hr : (Instr.mapUpdate t u y v).run P w = .ok () W) (h : K (a.put o.dst undef) W) : if Region.wanted o (yielded ops a.tmps) = true then Oper.wp P o a w K Q else E := by
  rw [if_pos (by simp [Region.wanted, hgd])]
  unfold Oper.wp
  simp [execOp, ho, hm, hx, hz, hr, Result.andThen]
  exact h
end
set_option maxRecDepth 100000 in
set_option maxHeartbeats 4000000 in
theorem ixadd_any (g b base n : Nat) (kvs : Ix.Gm) (k x : Int) (w : World) (h : MI w g b base n kvs) (hk : (Lit.int .i64 k).wf = true) (hx : (Lit.int .i64 x).wf = true) (hn : n < 1000000000) :
    Calls Try.prog 11 #[.pointer (some ⟨g, 0, none⟩), .int .i64 k, .int .i64 x] w fun e w' => e = .returned (.tuple #[]) ∧ MI w' g b base (n + 1) (Ix.add kvs k x) ∧ IFr w w' (fun q => q = b ∨ Mrow w b q) ∧ ∀ q, Mrow w' b q → Mrow w b q ∨ w.heap.size ≤ q := by
  have H0 : Hid (∀ W, Below w.heap.size w W → MI W g b base n kvs) := fun W hW => h.kept hW
  have HS : Hid (∀ W, MI W g b base n kvs → W.cell? ⟨g, 0, none⟩ = some (.map (some b))) := fun W hW => hW.box.cell 0 _ rfl
  have HM : Hid (∀ W W', Below w.heap.size w W → (IFr W W' (fun q => q = b ∨ Mrow W b q) ∧ ∀ q, Mrow W' b q → Mrow W b q ∨ W.heap.size ≤ q) → IFr w W' (fun q => q = b ∨ Mrow w b q) ∧ ∀ q, Mrow W' b q → Mrow w b q ∨ w.heap.size ≤ q) := fun W W' hW ⟨h1, h2⟩ => by
    have hs : ∀ q, Mrow W b q → Mrow w b q := fun q hq => hq.same (hW.block b h.blt.2)
    refine ⟨(IFr.of (F := fun q => q = b ∨ Mrow w b q) (grown_none hW none) fun k _ e => by cases e).trans h1 fun k _ e => e.imp id (hs k), fun q hq => ?_⟩
    rcases h2 q hq with e | e
    · exact .inl (hs q e)
    · exact .inr (Nat.le_trans hW.size e)
  clear h
  go_enter Try.func11, Try.ntmps11
  go_upto_region 0 with fail
  have hd9 : Below w.heap.size w w.drew := Below.drew (Below.refl _ _)
  refine wp_region_held_drew (S := fun W : World => W.cell? ⟨g, 0, none⟩ = some (.map (some b))) (by kernel_rfl) (HS.out _ (H0.out _ hd9)) (fun hH => ?_)
  obtain ⟨W0, hW0⟩ : ∃ x, x = w.drew := ⟨_, rfl⟩
  rw [← hW0] at hd9 hH ⊢
  clear hW0
  refine zqk 0 rfl hH ?_
  simp only [Act.put, List.setIfInBounds_toArray, List.set_cons_zero, List.set_cons_succ, List.getElem_toArray, List.getElem_cons_zero]
  refine zqk 1 rfl hH ?_
  simp only [Act.put, List.setIfInBounds_toArray, List.set_cons_zero, List.set_cons_succ, List.getElem_toArray, List.getElem_cons_zero, List.getElem_cons_succ]
  refine zqk 2 rfl hH ?_
  simp only [Act.put, List.setIfInBounds_toArray, List.set_cons_zero, List.set_cons_succ, List.getElem_toArray, List.getElem_cons_zero, List.getElem_cons_succ]
  refine zqk 3 rfl hH ?_
  simp only [Act.put, List.setIfInBounds_toArray, List.set_cons_zero, List.set_cons_succ, List.getElem_toArray, List.getElem_cons_zero, List.getElem_cons_succ]
  refine zqk 4 rfl hH ?_
  simp only [Act.put, List.setIfInBounds_toArray, List.set_cons_zero, List.set_cons_succ, List.getElem_toArray, List.getElem_cons_zero, List.getElem_cons_succ]
  refine zqk 5 rfl hH ?_
  simp only [Act.put, List.setIfInBounds_toArray, List.set_cons_zero, List.set_cons_succ, List.getElem_toArray, List.getElem_cons_zero, List.getElem_cons_succ]
  refine zqk 6 rfl hH ?_
  simp only [Act.put, List.setIfInBounds_toArray, List.set_cons_zero, List.set_cons_succ, List.getElem_toArray, List.getElem_cons_zero, List.getElem_cons_succ]
  refine zqk 7 rfl hH ?_
  simp only [Act.put, List.setIfInBounds_toArray, List.set_cons_zero, List.set_cons_succ, List.getElem_toArray, List.getElem_cons_zero, List.getElem_cons_succ]
  refine zqk 8 rfl hH ?_
  simp only [Act.put, List.setIfInBounds_toArray, List.set_cons_zero, List.set_cons_succ, List.getElem_toArray, List.getElem_cons_zero, List.getElem_cons_succ]
  refine zqk 9 rfl hH ?_
  simp only [Act.put, List.setIfInBounds_toArray, List.set_cons_zero, List.set_cons_succ, List.getElem_toArray, List.getElem_cons_zero, List.getElem_cons_succ]
  refine zqk 11 rfl hH ?_
  simp only [Act.put, List.setIfInBounds_toArray, List.set_cons_zero, List.set_cons_succ, List.getElem_toArray, List.getElem_cons_zero, List.getElem_cons_succ]
  refine wpAnyH_ready (rs := [10, 12]) (by kernel_rfl) (by simp) ?_
  refine AllReadyH.cons rfl (fun K hK => ?_) (AllReadyH.cons rfl (fun K hK => ?_) AllReadyH.nil)
  · obtain ⟨v, hr, hadd⟩ := (H0.out _ hd9).add k x hk hx hn
    refine st_look rfl 97 (.tmp 14) (.tmp 15) false rfl rfl rfl hr ?_
    refine hK.out _ _ hH (fun hH => ?_)
    clear hK K
    simp only [Act.put, List.setIfInBounds_toArray, List.set_cons_zero, List.set_cons_succ, List.getElem_toArray, List.getElem_cons_zero, List.getElem_cons_succ]
    have hbx := up0 W0 (.cells #[.int .i64 x] 3)
    refine zqr 12 rfl (fun K hK => ?_)
    refine st_run rfl (v := .slice (some ⟨W0.heap.size, 0, none⟩) 1 1) (W := W0.alloc (.cells #[.int .i64 x] 3)) (by go_simp) ?_
    refine hK.out _ _ (HS.out _ ((H0.out _ hd9).kept hbx)) (fun hH => ?_)
    clear hK K
    simp only [Act.put, List.setIfInBounds_toArray, List.set_cons_zero, List.set_cons_succ, List.getElem_toArray, List.getElem_cons_zero, List.getElem_cons_succ]
    obtain ⟨v', W2, hr2, hc2, W3, hr3, hc3, m3, f3, q3⟩ := hadd _ W0.heap.size 1 35 hbx (lb_new W0 [.int .i64 x] 3 |>.cell 0 _ rfl)
    refine zqr 13 rfl (fun K hK => ?_)
    refine st_appR rfl 35 (.tmp 16) (.tmp 18) rfl rfl rfl hr2 ?_
    refine hK.out _ _ hc2 (fun hH => ?_)
    clear hK K
    simp only [Act.put, List.setIfInBounds_toArray, List.set_cons_zero, List.set_cons_succ, List.getElem_toArray, List.getElem_cons_zero, List.getElem_cons_succ]
    refine zqr 14 rfl (fun K hK => ?_)
    refine st_upd rfl 97 (.tmp 9) (.tmp 10) (.tmp 19) rfl rfl rfl rfl hr3 ?_
    refine hK.out _ _ hc3 (fun hH => ?_)
    clear hK K
    refine wpAnyH_done (by kernel_rfl) ?_ _
    have HE : Hid (MI W3 g b base (n + 1) (Ix.add kvs k x) ∧ IFr w W3 (fun q => q = b ∨ Mrow w b q) ∧ ∀ q, Mrow W3 b q → Mrow w b q ∨ w.heap.size ≤ q) := ⟨m3, HM.out _ _ hd9 ⟨f3, q3⟩⟩
    clear m3 f3 q3 hr hr2 hr3 hadd
    simp only [Act.put, List.getElem_toArray, List.getElem_cons_zero, List.getElem_cons_succ]
    go_wp2_with fail
    go_returns
    exact ⟨rfl, HE.out⟩
  · have hbx := up hd9 (.cells #[.int .i64 x] 3)
    refine st_run rfl (v := .slice (some ⟨W0.heap.size, 0, none⟩) 1 1) (W := W0.alloc (.cells #[.int .i64 x] 3)) (by go_simp) ?_
    refine hK.out _ _ (HS.out _ (H0.out _ hbx)) (fun hH => ?_)
    clear hK K
    simp only [Act.put, List.setIfInBounds_toArray, List.set_cons_zero, List.set_cons_succ, List.getElem_toArray, List.getElem_cons_zero, List.getElem_cons_succ]
    obtain ⟨v, hr, hadd⟩ := (H0.out _ hbx).add k x hk hx hn
    refine zqr 10 rfl (fun K hK => ?_)
    refine st_look rfl 97 (.tmp 14) (.tmp 15) false rfl rfl rfl hr ?_
    refine hK.out _ _ hH (fun hH => ?_)
    clear hK K
    simp only [Act.put, List.setIfInBounds_toArray, List.set_cons_zero, List.set_cons_succ, List.getElem_toArray, List.getElem_cons_zero, List.getElem_cons_succ]
    obtain ⟨v', W2, hr2, hc2, W3, hr3, hc3, m3, f3, q3⟩ := hadd _ W0.heap.size 1 35 (Below.refl _ _) (lb_new W0 [.int .i64 x] 3 |>.cell 0 _ rfl)
    refine zqr 13 rfl (fun K hK => ?_)
    refine st_appR rfl 35 (.tmp 16) (.tmp 18) rfl rfl rfl hr2 ?_
    refine hK.out _ _ hc2 (fun hH => ?_)
    clear hK K
    simp only [Act.put, List.setIfInBounds_toArray, List.set_cons_zero, List.set_cons_succ, List.getElem_toArray, List.getElem_cons_zero, List.getElem_cons_succ]
    refine zqr 14 rfl (fun K hK => ?_)
    refine st_upd rfl 97 (.tmp 9) (.tmp 10) (.tmp 19) rfl rfl rfl rfl hr3 ?_
    refine hK.out _ _ hc3 (fun hH => ?_)
    clear hK K
    refine wpAnyH_done (by kernel_rfl) ?_ _
    have HE : Hid (MI W3 g b base (n + 1) (Ix.add kvs k x) ∧ IFr w W3 (fun q => q = b ∨ Mrow w b q) ∧ ∀ q, Mrow W3 b q → Mrow w b q ∨ w.heap.size ≤ q) := ⟨m3, HM.out _ _ hbx ⟨f3, q3⟩⟩
    clear m3 f3 q3 hr hr2 hr3 hadd
    simp only [Act.put, List.getElem_toArray, List.getElem_cons_zero, List.getElem_cons_succ]
    go_wp2_with fail
    go_returns
    exact ⟨rfl, HE.out⟩
end Go.Proofs.Ytceokpklcfmadaa
