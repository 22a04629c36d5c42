import Derived.Test.YtdnackjakfiffaaGreatDoorQS7
import Derived.Test.YtdnackjakfiffaaGreatDoorQSL
/-
  Package saga: what a record does, whatever its kind.
-/
namespace Go.Proofs.YtdnackjakfiffaaGreatDoor
open Go Go.RowKit
open Wb

/-- the tables that saga reads -/
structure STabs (w : World) : Prop where
  e : ETabs w
  k : KindsT w
theorem STabs.kept {w w' : World} (h : STabs w) (hb : Below w.heap.size w w') : STabs w' := ⟨h.e.kept hb, h.k.kept hb⟩
/-- which function does it -/
def fK (k : Int) : Nat := if k = 2 ∨ k = 5 then 107 else if k = 3 then 108 else if k = 4 then 109 else if k = 6 then 110 else 111
/-- the lists of a saga in memory of their own -/
structure SgO (B : Nat) (w : World) (S : Sg) (h : SH) : Prop where
  inp : Own B w (.slice h.ai S.inp.length h.ci) S.inp
  outs : OwnP B w (.slice h.ao S.outs.length h.co) S.outs
  und : OwnP B w (.slice h.au S.und.length h.cu) S.und
  fail : Own B w (.slice h.af S.fail.length h.cf) S.fail
theorem SgO.at {B : Nat} {w : World} {S : Sg} {h : SH} (k : SgO B w S h) : SgAt w S h := ⟨k.inp.bs, k.outs.ps, k.und.ps, k.fail.bs⟩
theorem SgO.sets {B : Nat} {w : World} {S : Sg} {h : SH} (k : SgO B w S h) (g o : Nat) (vs : List Value) (hg : g < B) : SgO B (w.setCells g o vs) S h := ⟨Own.cells k.inp g o vs hg, k.outs.setsB g o vs hg, k.und.setsB g o vs hg, Own.cells k.fail g o vs hg⟩
def DoPost (B g : Nat) (w : World) (S' : Sg) (e : Ending) (w' : World) : Prop := ∃ h', e = .returned (.tuple #[]) ∧ LB w' g 126 (scl S' h') ∧ SgO B w' S' h' ∧ Below B w w' ∧ ∀ b t cs, b < g → t ≠ 30 → LB w b t cs → LB w' b t cs
theorem own_ne_g {B g : Nat} {w : World} {d : Value} {l : List Nat} {C : List Value} (h : Own B w d l) (L : LB w g 126 C) (b : Nat) (e : d.ownBlock = some b) : b ≠ g := by
  rintro rfl
  rcases h.row.2 with ⟨e3, _⟩ | ⟨g', cap, cur, e3, _, hg', _⟩
  · rw [e3] at e; simp [Value.ownBlock] at e
  · rw [e3] at e; simp [Value.ownBlock] at e; subst e; rw [L] at hg'; simp at hg'
theorem own_ne_row {B : Nat} {w : World} {d : Value} {l : List Nat} {v : Value} {ls : List (List Nat)} (h : Own B w d l) (r : OwnP B w v ls) (b : Nat) (e : d.ownBlock = some b) : v.ownBlock ≠ some b := by
  intro e2
  obtain ⟨vs, r1, _⟩ := r
  obtain ⟨cs, z, h4⟩ := row_typed r1 b e2
  rcases h.row.2 with ⟨e3, _⟩ | ⟨g', cap, cur, e3, _, hg', _⟩
  · rw [e3] at e; simp [Value.ownBlock] at e
  · rw [e3] at e; simp [Value.ownBlock] at e; subst e; rw [hg'] at h4; simp at h4
theorem own_g {B g : Nat} {w w' : World} {d : Value} {l : List Nat} {C : List Value} (h : Own B w d l) (L : LB w g 126 C) (hs : w.heap.size ≤ g + 1) (hb : Below g w w') : Own B w' d l := own_keptB h fun b e => hb.block b (by have := own_ne_g h L b e; have := (own_block h b e).2; omega)
theorem ownp_ne_g {B g : Nat} {w : World} {v : Value} {ls : List (List Nat)} {C : List Value} (h : OwnP B w v ls) (L : LB w g 126 C) : v.ownBlock ≠ some g := fun e => by
  obtain ⟨vs, r1, _⟩ := h
  obtain ⟨cs, z, h4⟩ := row_typed r1 g e
  rw [L] at h4
  simp at h4
theorem ownp_g {B g : Nat} {w w' : World} {v : Value} {ls : List (List Nat)} {C : List Value} (h : OwnP B w v ls) (L : LB w g 126 C) (hs : w.heap.size ≤ g + 1) (hb : Below g w w') : OwnP B w' v ls := by
  have hng := ownp_ne_g h L
  obtain ⟨vs, r1, r2, r3⟩ := h
  refine ⟨vs, row_kept2 r1 fun b e => hb.block b ?_, r2, fun j a b => own_g (r3 j a b) L hs hb⟩
  have := (row_block r1 b e).2
  have h9 : b ≠ g := fun e2 => hng (by rw [e, e2])
  omega
/-- a deed that writes into the course alone -/
theorem do_plain {P : Program} {f : FuncId} {args : Array Value} {B g : Nat} {w : World} {S0 S' : Sg} {h h' : SH} (L : LB w g 126 (scl S0 h)) (hs : w.heap.size ≤ g + 1) (hB : B ≤ g) (hi : Own B w (.slice h'.ai S'.inp.length h'.ci) S'.inp) (ho : OwnP B w (.slice h'.ao S'.outs.length h'.co) S'.outs) (hu : OwnP B w (.slice h'.au S'.und.length h'.cu) S'.und) (hf : Own B w (.slice h'.af S'.fail.length h'.cf) S'.fail)
    (c : Calls P f args w fun e w' => e = .returned (.tuple #[]) ∧ LB w' g 126 (scl S' h') ∧ Below g w w') : Calls P f args w fun e w' => DoPost B g w S' e w' :=
  c.mono fun _ _ ⟨he, hl, hb⟩ => ⟨h', he, hl, ⟨own_g hi L hs hb, ownp_g ho L hs hb, ownp_g hu L hs hb, own_g hf L hs hb⟩, hb.mono hB, fun b _ _ hbg _ h1 => (hb.block b hbg).trans h1⟩
/-- what a record that may come does -/
theorem do_any (S : Sg) (h : SH) (u : Rec) (ad : Option Addr) (cd : Nat) (B g : Nat) (w : World) (L : LB w g 126 (scl { S with x := { S.x with la := u.x.a } } h)) (hs : w.heap.size ≤ g + 1) (hB : B ≤ g) (k : SgOwn B w S h) (hd : Own B w (.slice ad u.l.length cd) u.l) (hc : chkS S = true) (hv : V3 u) (hk1 : u.x.k ≠ 1) :
    Calls Tryz.prog (fK u.x.k) #[.pointer (some ⟨g, 0, none⟩), rv u.x u.nm (.slice ad u.l.length cd)] w fun e w' => DoPost B g w (deedS S u) e w' := by
  obtain ⟨hGB, hG⟩ := (chkS_iff S).1 hc
  have hn : 0 ≤ S.x.nx ∧ S.x.nx ≤ 32 ∧ S.outs.length ≤ 32 ∧ S.und.length ≤ 32 := by
    obtain ⟨_, _, h3, _⟩ := hGB
    rcases hG with ⟨_, _, _, _, c4, c5, c6, c7, _⟩ | ⟨_, _, _, _, c4, c5, c6, _⟩ | ⟨_, c1, c2, c3, c4, c5, c6, _⟩ | ⟨_, c0, c1, c2, c3, c4, c5, c6, _⟩
    · rw [c4]; simp; omega
    · rw [c4]; simp; omega
    · omega
    · omega
  obtain ⟨v1, v2, v3, vk⟩ := hv
  have hk : (u.x.k = 2 ∨ u.x.k = 5) ∨ u.x.k = 3 ∨ u.x.k = 4 ∨ u.x.k = 6 ∨ u.x.k = 7 := by omega
  rcases hk with k2 | k3 | k4 | k6 | k7
  · have ef : fK u.x.k = 107 := by unfold fK; rw [if_pos k2]
    have ed : deedS S u = { S with x := { S.x with la := u.x.a, fl := true, tr := u.x.t } } := by unfold deedS; rw [if_pos k2]
    rw [ef, ed]
    exact do_plain L hs hB k.inp k.outs k.und k.fail (start_any _ h u.x u.nm _ g w L)
  · have ef : fK u.x.k = 108 := by unfold fK; rw [if_neg (by omega), if_pos k3]
    have ed : deedS S u = { S with x := { S.x with la := u.x.a, fl := false, tr := 0, nx := S.x.nx + 1 }, outs := S.outs ++ [u.l] } := by unfold deedS; rw [if_neg (by omega), if_pos k3]
    rw [ef, ed]
    have hrt : ∀ b, (Value.slice h.ao S.outs.length h.co).ownBlock = some b → ∃ cs z, w.heap[b]? = some (.cells cs 30 z) := fun b e => by obtain ⟨vs, r1, _⟩ := k.outs; exact row_typed r1 b e
    refine (done_any { S with x := { S.x with la := u.x.a } } h u.x u.nm ad u.l cd B g w L hB k.outs hd ⟨hn.1, hn.2.1⟩ (show S.outs.length ≤ 100 by omega)).mono fun e w' ⟨a', c', he, hl, hop, hbut⟩ => ?_
    refine ⟨{ h with ao := a', co := c' }, he, hl, ⟨own_other k.inp hbut fun b e => ⟨?_, own_ne_row k.inp k.outs b e⟩, ?_, ownp_other k.und hbut hs (ownp_ne_g k.und L) ?_ hrt ⟨_, L⟩, own_other k.fail hbut fun b e => ⟨?_, own_ne_row k.fail k.outs b e⟩⟩, hbut.below, fun b t cs hbg ht h1 => (hbut.rest b hbg (fun e2 => ?_)).trans h1⟩
    · have := own_ne_g k.inp L b e; have := (own_block k.inp b e).2; omega
    · have e9 : (S.outs ++ [u.l]).length = S.outs.length + 1 := by simp
      have := hop
      rw [← e9] at this
      exact this
    · by_cases e9 : (Value.slice h.au S.und.length h.cu).ownBlock = none
      · exact .inr e9
      · obtain ⟨b9, hb9⟩ := Option.ne_none_iff_exists'.1 e9
        exact .inl (fun e8 => k.apart b9 (by rw [← hb9]; exact e8) hb9)
    · have := own_ne_g k.fail L b e; have := (own_block k.fail b e).2; omega
    · obtain ⟨cs2, z, h4⟩ := hrt b e2
      rw [h1] at h4
      simp at h4
      exact ht h4.2.1
  · have ef : fK u.x.k = 109 := by unfold fK; rw [if_neg (by omega), if_neg (by omega), if_pos k4]
    rw [ef]
    by_cases hl0 : u.x.l = 0
    · have ed : deedS S u = { S with x := { S.x with la := u.x.a, fl := false } } := by unfold deedS; rw [if_neg (by omega), if_neg (by omega), if_pos k4, if_pos hl0]
      rw [ed]
      exact do_plain L hs hB k.inp k.outs k.und k.fail (fail0_any _ h u.x u.nm _ g w L (by simp [hl0]))
    · have ed : deedS S u = { S with x := { S.x with la := u.x.a, fl := false, tr := 0, ph := 2, fs := u.x.p, fc := u.x.c }, fail := u.l } := by unfold deedS; rw [if_neg (by omega), if_neg (by omega), if_pos k4, if_neg hl0]
      rw [ed]
      exact do_plain (h' := { h with af := ad, cf := cd }) L hs hB k.inp k.outs k.und hd (fail1_any _ h u.x u.nm ad u.l cd g w L (by simpa using hl0))
  · have ef : fK u.x.k = 110 := by unfold fK; rw [if_neg (by omega), if_neg (by omega), if_neg (by omega), if_pos k6]
    have ed : deedS S u = { S with x := { S.x with la := u.x.a, fl := false, tr := 0, nx := S.x.nx - 1 }, und := S.und ++ [u.l] } := by unfold deedS; rw [if_neg (by omega), if_neg (by omega), if_neg (by omega), if_pos k6]
    rw [ef, ed]
    have hrt : ∀ b, (Value.slice h.au S.und.length h.cu).ownBlock = some b → ∃ cs z, w.heap[b]? = some (.cells cs 30 z) := fun b e => by obtain ⟨vs, r1, _⟩ := k.und; exact row_typed r1 b e
    refine (undone_any { S with x := { S.x with la := u.x.a } } h u.x u.nm ad u.l cd B g w L hB k.und hd ⟨hn.1, hn.2.1⟩ (show S.und.length ≤ 100 by omega)).mono fun e w' ⟨a', c', he, hl, hop, hbut⟩ => ?_
    refine ⟨{ h with au := a', cu := c' }, he, hl, ⟨own_other k.inp hbut fun b e => ⟨?_, own_ne_row k.inp k.und b e⟩, ownp_other k.outs hbut hs (ownp_ne_g k.outs L) ?_ hrt ⟨_, L⟩, ?_, own_other k.fail hbut fun b e => ⟨?_, own_ne_row k.fail k.und b e⟩⟩, hbut.below, fun b t cs hbg ht h1 => (hbut.rest b hbg (fun e2 => ?_)).trans h1⟩
    · have := own_ne_g k.inp L b e; have := (own_block k.inp b e).2; omega
    · by_cases e9 : (Value.slice h.ao S.outs.length h.co).ownBlock = none
      · exact .inr e9
      · obtain ⟨b9, hb9⟩ := Option.ne_none_iff_exists'.1 e9
        exact .inl (fun e8 => k.apart b9 hb9 (by rw [← hb9]; exact e8))
    · have e9 : (S.und ++ [u.l]).length = S.und.length + 1 := by simp
      have := hop
      rw [← e9] at this
      exact this
    · have := own_ne_g k.fail L b e; have := (own_block k.fail b e).2; omega
    · obtain ⟨cs2, z, h4⟩ := hrt b e2
      rw [h1] at h4
      simp at h4
      exact ht h4.2.1
  · have ef : fK u.x.k = 111 := by unfold fK; rw [if_neg (by omega), if_neg (by omega), if_neg (by omega), if_neg (by omega)]
    have ed : deedS S u = { S with x := { S.x with la := u.x.a, ph := if S.x.ph = 1 then 3 else 4 } } := by unfold deedS; rw [if_neg (by omega), if_neg (by omega), if_neg (by omega), if_neg (by omega)]
    rw [ef, ed]
    by_cases hp : S.x.ph = 1
    · rw [if_pos hp]
      exact do_plain L hs hB k.inp k.outs k.und k.fail (end1_any _ h u.x u.nm _ g w L (by simpa using hp))
    · rw [if_neg hp]
      exact do_plain L hs hB k.inp k.outs k.und k.fail (end2_any _ h u.x u.nm _ g w L (by simpa using hp))
end Go.Proofs.YtdnackjakfiffaaGreatDoor
