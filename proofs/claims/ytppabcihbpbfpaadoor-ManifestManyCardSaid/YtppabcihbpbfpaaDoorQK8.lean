import Derived.Laws.OwnMore
import Derived.Test.YtppabcihbpbfpaaDoorQK7
/-
  Package disk: what a crash leaves of a file.
-/
namespace Go.Proofs.YtppabcihbpbfpaaDoor
open Go Go.RowKit Go.ChangeShapes
open Wb

namespace Dk
/-- how many of the bytes that are not synced stay, how many are zero -/
def kp (x : Fl) (keep : Int) : Nat := (wth keep ((x.data.length - x.syn : Nat) : Int)).toNat
def zr (x : Fl) (keep zero : Int) : Nat := (wth zero ((x.data.length - x.syn - kp x keep : Nat) : Int)).toNat
/-- the bytes of a file that a crash leaves -/
def lv (x : Fl) (c : Int × Int) : List Nat := x.data.take (x.syn + kp x c.1) ++ List.replicate (zr x c.1 c.2) 0
theorem wth_nat (n : Int) (m : Nat) : wth n (m : Int) = ((wth n (m : Int)).toNat : Int) ∧ (wth n (m : Int)).toNat ≤ m := by
  unfold wth
  omega
end Dk
theorem made_bv (t : Nat) : (madeCells #[Value.int .u8 0] t).toList = bv (List.replicate t 0) := by
  rw [toList_madeCells_one]
  simp [bv]
theorem own_of_lb {B g : Nat} {w : World} {l : List Nat} (L : LB w g 5 (bv l)) (hB : B ≤ g) (hg : Wb.ok l) (hl : l.length ≤ maxLen) : Own B w (.slice (some ⟨g, 0, none⟩) l.length l.length) l := ⟨⟨by rw [bv_length, Nat.mul_one], .inr ⟨g, l.length, _, rfl, hB, L, Nat.le_refl _, hl, by simp [bv_length], by simp []; exact List.take_of_length_le (by rw [bv_length]; exact Nat.le_refl _)⟩⟩, hg⟩
end Go.Proofs.YtppabcihbpbfpaaDoor

/-
  Package disk: the names that a crash leaves.
-/
namespace Go.Proofs.YtppabcihbpbfpaaDoor
open Go Go.RowKit Go.ChangeShapes Go.Maps Go.Sort Go.Shelf
open Wb
attribute [local go_sem] run_mkmap

namespace Dk
theorem bb_asym {a b : List UInt8} (h : bytesBefore a b = true) : bytesBefore b a = false := by
  cases h2 : bytesBefore b a with
  | false => rfl
  | true =>
    have h3 := bb_trans _ _ _ h h2
    rw [bb_irrefl] at h3
    cases h3
theorem ins_last (x : List UInt8 × Nat) : ∀ l : Nm, (∀ p ∈ l, bytesBefore p.1 x.1 = true) → ins x l = l ++ [x]
  | [], _ => rfl
  | y :: r, h => by
    rw [ins, if_neg (by rw [bb_asym (h y (List.mem_cons_self ..))]; simp), ins_last x r fun p hp => h p (List.mem_cons_of_mem _ hp)]
    rfl
theorem put_last (l : Nm) (s : List UInt8) (f : Nat) (h : ∀ p ∈ l, bytesBefore p.1 s = true) : put l s f = l ++ [(s, f)] := by
  have e : del l s = l := by
    unfold del
    rw [List.filter_eq_self]
    intro p hp
    have h9 := h p hp
    have : (p.1 == s) = false := by
      simp only [beq_eq_false_iff_ne, ne_eq]
      intro e
      rw [e, bb_irrefl] at h9
      cases h9
    rw [this]
    rfl
  unfold put
  rw [e]
  exact ins_last (s, f) l h
theorem merge_pre : ∀ (r pre : Nm), rising (pre ++ r) → (r.map en).foldl (fun D p => D.put p.1 p.2) (dm pre) = dm (pre ++ r)
  | [], pre, _ => by simp
  | p :: r, pre, h => by
    rw [List.map_cons, List.foldl_cons]
    have h0 : ∀ y ∈ pre, bytesBefore y.1 p.1 = true := fun y hy => (List.pairwise_append.1 h).2.2 y hy p (List.mem_cons_self ..)
    have e : (dm pre).put (en p).1 (en p).2 = dm (pre ++ [p]) := by
      have h9 := dm_put pre p.1 p.2
      rw [put_last pre p.1 p.2 h0] at h9
      exact h9
    rw [e, merge_pre r (pre ++ [p]) (by rw [List.append_assoc]; exact h), List.append_assoc]
    rfl
/-- the names that a crash leaves -/
def lvK (S : DS) (keep : Int) : Nat := (wth keep (S.ch.length : Int)).toNat
def lvF (cs : List Ch) (l : Nm) : Nm := cs.foldl (fun l c => c.app l) l
def lvN (S : DS) (keep : Int) : Nm := lvF (S.ch.take (lvK S keep)) S.la
theorem app_len (c : Ch) (l : Nm) : (c.app l).length ≤ l.length + 1 := by
  unfold Ch.app
  split
  · have := len_del l c.frm
    omega
  · have h1 := len_put (del l c.frm) c.tow (c.f.getD 0)
    have h2 := len_del l c.frm
    omega
theorem lvF_len (cs : List Ch) : ∀ l : Nm, (lvF cs l).length ≤ l.length + cs.length := by
  induction cs with
  | nil => exact fun l => Nat.le_refl _
  | cons c r ih =>
    intro l
    have h1 := ih (c.app l)
    have h2 := app_len c l
    show (lvF r (c.app l)).length ≤ _
    rw [List.length_cons]
    omega
theorem lvF_snoc (cs : List Ch) (c : Ch) (l : Nm) : lvF (cs ++ [c]) l = c.app (lvF cs l) := by
  unfold lvF
  rw [List.foldl_append]
  rfl
end Dk
theorem sz_of {l : List UInt8} (h : l.length ≤ 1000) : (⟨l.toArray⟩ : ByteArray).size ≤ maxLen := by
  show l.toArray.size ≤ _
  rw [List.size_toArray]
  unfold maxLen
  omega
theorem flatC_at : ∀ (cs : List Dk.Ch) (j : Nat) (h : j < cs.length), (cs.flatMap enC)[j * 3]? = some (enS cs[j].frm) ∧ (cs.flatMap enC)[j * 3 + 1]? = some (enS cs[j].tow) ∧ (cs.flatMap enC)[j * 3 + 2]? = some (fpo cs[j].f)
  | [], j, h => by simp at h
  | x :: r, 0, _ => by simp [enC]
  | x :: r, j + 1, h => by
    have hj : j < r.length := by simpa using h
    obtain ⟨h1, h2, h3⟩ := flatC_at r j hj
    have hl : (enC x).length = 3 := rfl
    rw [List.flatMap_cons, show (j + 1) * 3 = (enC x).length + j * 3 by rw [hl]; omega, show (enC x).length + j * 3 + 1 = (enC x).length + (j * 3 + 1) by omega, show (enC x).length + j * 3 + 2 = (enC x).length + (j * 3 + 2) by omega, List.getElem?_append_right (by omega), List.getElem?_append_right (by omega), List.getElem?_append_right (by omega), Nat.add_sub_cancel_left, Nat.add_sub_cancel_left, Nat.add_sub_cancel_left]
    simp only [List.getElem_cons_succ]
    exact ⟨h1, h2, h3⟩
end Go.Proofs.YtppabcihbpbfpaaDoor

/-
  Package disk: Crash.
-/
namespace Go.Proofs.YtppabcihbpbfpaaDoor
open Go Go.RowKit Go.ChangeShapes
open Wb

/-- a list of cuts -/
def CtS (w : World) (v : Value) (cs : List (Int × Int)) : Prop := ∃ a c, v = .slice a cs.length c ∧ cs.length ≤ c ∧ c ≤ maxLen ∧ (cs ≠ [] → ∃ b off, a = some ⟨b, off, none⟩ ∧ ∀ j (h : j < cs.length), w.cell? ⟨b, off + j * 2, none⟩ = some (.int .i64 cs[j].1) ∧ w.cell? ⟨b, off + j * 2 + 1, none⟩ = some (.int .i64 cs[j].2))
theorem CtS.kept {w w' : World} {v : Value} {cs : List (Int × Int)} (h : CtS w v cs) (hb : Below w.heap.size w w') : CtS w' v cs := by
  obtain ⟨a, c, e, h1, h2, h3⟩ := h
  refine ⟨a, c, e, h1, h2, fun hne => ?_⟩
  obtain ⟨b, off, e2, hc⟩ := h3 hne
  refine ⟨b, off, e2, fun j hj => ?_⟩
  obtain ⟨c0, c1⟩ := hc j hj
  exact ⟨(hb.cell (p := ⟨b, _, none⟩) (World.block_lt_of_cell? _ _ c0)).trans c0, (hb.cell (p := ⟨b, _, none⟩) (World.block_lt_of_cell? _ _ c1)).trans c1⟩
namespace Dk
/-- what a crash leaves of these files -/
def crL (l : Nm) (fo : Nat → Fl) (cs : List (Int × Int)) : List (List UInt8 × List Nat) := l.mapIdx fun k p => (p.1, lv (fo p.2) (cs.getD k (0, 0)))
def crash (S : DS) (keep : Int) (cs : List (Int × Int)) : List (List UInt8 × List Nat) := crL (lvN S keep) S.fo cs
end Dk
end Go.Proofs.YtppabcihbpbfpaaDoor
