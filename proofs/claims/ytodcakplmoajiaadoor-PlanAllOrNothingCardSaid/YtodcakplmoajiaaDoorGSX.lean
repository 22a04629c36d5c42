import Derived.BigQuiet
import Derived.Test.YtodcakplmoajiaaDoorGSM
import Derived.Test.YtodcakplmoajiaaDoorGE2
namespace Go.Proofs.YtodcakplmoajiaaDoor
open Go Go.RowKit
open Wb

theorem up_v3 (r : Rec) (hv : V3 r) (h3 : r.x.v = 3) : upP 3 r = (0, r) := by
 have hc : chkR r = 0 := (v3_iff r h3).2 hv
 have hl : lckE 3 r = 0 := by unfold lckE; rw [if_neg (by simpa using hc), if_pos (by omega)]
 unfold upP
 rw [if_neg (by simpa using hl), if_neg (by omega), car33 r h3]
theorem apply_v3 (S : Sg) (r : Rec) (hc : chkS S = true) (hv : V3 r) (h3 : r.x.v = 3) (h0 : refP S.x r.x = 0) : applyP S r = (0, deedS S r) := by
 unfold applyP
 rw [up_v3 r hv h3, if_neg (by simp [hc]), if_neg (by simp), if_neg (by simpa using h0)]
theorem fit_v3 (r : Rec) (hv : V3 r) (hs : r.x.s ≤ 9223372036854775807) : r.x.fit := by
 obtain ⟨v1, v2, v3, vk⟩ := hv
 intro t h1 h9
 unfold Nums.tag
 obtain rfl | rfl | rfl | rfl | rfl | rfl | rfl | rfl | rfl : t = 1 ∨ t = 2 ∨ t = 3 ∨ t = 4 ∨ t = 5 ∨ t = 6 ∨ t = 7 ∨ t = 8 ∨ t = 9 := by omega
 all_goals
  simp
  omega
theorem id_of (S : Sg) (hc : chkS S = true) : 1 ≤ S.x.id ∧ S.x.id ≤ 9223372036854775807 := by
 obtain ⟨⟨_, b2, _⟩, _⟩ := (chkS_iff S).1 hc
 exact b2
theorem cnt_of (S : Sg) (hc : chkS S = true) : 1 ≤ S.x.cnt ∧ S.x.cnt ≤ 32 ∧ 1 ≤ S.x.ph ∧ S.x.ph ≤ 4 := by
 obtain ⟨⟨_, _, b3, _⟩, hG⟩ := (chkS_iff S).1 hc
 refine ⟨b3.1, b3.2, ?_⟩
 rcases hG with ⟨c1, _⟩ | ⟨c1, _⟩ | ⟨c1, _⟩ | ⟨c1, _⟩ <;> omega
def KS (S : Sg) (h : SH) (G : Nat) (wr : World) (S' : Sg) (h' : SH) : Prop := (S' = S ∧ h' = h) ∨ ∃ n, G < n ∧ SgO n wr S' h'
theorem KS.at {w wr : World} {S S' : Sg} {h h' : SH} {G : Nat} (q : KS S h G wr S' h') (k : SgAt w S h) (b : Below w.heap.size w wr) : SgAt wr S' h' := by
 rcases q with ⟨rfl, rfl⟩ | ⟨n, _, o⟩
 ·exact k.kept b
 ·exact o.at
theorem KS.kept {wr wr' : World} {S S' : Sg} {h h' : SH} {G : Nat} (q : KS S h G wr S' h') (b : Below wr.heap.size wr wr') : KS S h G wr' S' h' := by
 rcases q with q | ⟨n, hn, o⟩
 ·exact .inl q
 ·exact .inr ⟨n, hn, o.kept b⟩
theorem KS.sets {wr : World} {S S' : Sg} {h h' : SH} {G : Nat} (q : KS S h G wr S' h') (g o : Nat) (vs : List Value) (hg : g ≤ G) : KS S h G (wr.setCells g o vs) S' h' := by
 rcases q with q | ⟨n, hn, q⟩
 ·exact .inl q
 ·exact .inr ⟨n, hn, q.sets g o vs (by omega)⟩
def trl (cnt piv dn un : Int) : List Value := [.int .i64 cnt, .int .i64 piv, .int .i64 dn, .int .i64 un]
def Oth (g : Nat) (w w' : World) : Prop := ∀ b, b ≠ g → b < w.heap.size → w'.heap[b]? = w.heap[b]?
theorem lb_ne {w : World} {a b : Nat} {t t2 : TypeId} {C C2 : List Value} (h : LB w a t C) (h2 : LB w b t2 C2) (ht : t ≠ t2) : a ≠ b := by
 rintro rfl
 unfold LB at h h2
 rw [h] at h2
 simp at h2
 exact ht h2.2
theorem Oth.sets (w : World) (g o : Nat) (vs : List Value) : Oth g w (w.setCells g o vs) := fun b hb _ => cells_other g vs o w b hb
theorem LB.oth {w w' : World} {a g : Nat} {t : TypeId} {C : List Value} (h : LB w a t C) (ho : Oth g w w') (hne : a ≠ g) : LB w' a t C := (ho a hne h.lt).trans h
theorem own_oth {w w' : World} {B g : Nat} {t : TypeId} {C : List Value} {d : Value} {l : List Nat} (h : Own B w d l) (L : LB w g t C) (ht : t ≠ 5) (ho : Oth g w w') : Own B w' d l := own_keptB h fun b e => ho b (by
 rintro rfl
 rcases h.row.2 with ⟨e3, _⟩ | ⟨g', cap, cur, e3, _, hg', _⟩
 ·rw [e3] at e; simp [Value.ownBlock] at e
 ·rw [e3] at e; simp [Value.ownBlock] at e; subst e; rw [L] at hg'; simp at hg'; exact ht hg'.2) (own_block h b e).2
theorem ownp_oth {w w' : World} {B g : Nat} {t : TypeId} {C : List Value} {v : Value} {ls : List (List Nat)} (h : OwnP B w v ls) (L : LB w g t C) (ht : t ≠ 5) (ht2 : t ≠ 25) (ho : Oth g w w') : OwnP B w' v ls := by
 obtain ⟨vs, r1, r2, r3⟩ := h
 refine ⟨vs, row_kept2 r1 fun b e => ho b ?_ (row_block r1 b e).2, r2, fun j a b => own_oth (r3 j a b) L ht ho⟩
 rintro rfl
 obtain ⟨cs, z, h4⟩ := row_typed r1 b e
 rw [L] at h4
 simp at h4
 exact ht2 h4.2.1
theorem SgO.oth {w w' : World} {B g : Nat} {t : TypeId} {C : List Value} {S : Sg} {h : SH} (k : SgO B w S h) (L : LB w g t C) (ht : t ≠ 5) (ht2 : t ≠ 25) (ho : Oth g w w') : SgO B w' S h := ⟨own_oth k.inp L ht ho, ownp_oth k.outs L ht ht2 ho, ownp_oth k.und L ht ht2 ho, own_oth k.fail L ht ho⟩
def recA : Rec := ⟨⟨3, 2, 7, 0, 1, 6, 0, 0, 0, 0⟩, ⟨#[]⟩, []⟩
def recB : Rec := ⟨⟨3, 3, 7, 0, 0, 6, 0, 0, 0, 0⟩, ⟨#[]⟩, []⟩
def sgA : Sg := deedS sg1 recA
def sgB : Sg := deedS sgA recB
end Go.Proofs.YtodcakplmoajiaaDoor
