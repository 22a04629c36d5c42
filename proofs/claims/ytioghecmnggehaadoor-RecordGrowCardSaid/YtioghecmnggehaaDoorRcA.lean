/-
  Package record: what a record may hold: the small functions.
-/
import Derived.Test.YtioghecmnggehaaDoorRL1
import Derived.Test.YtioghecmnggehaaDoorWalk8
import Derived.Test.YtioghecmnggehaaDoorNam2
import Derived.Laws.IdiomStrings
import Derived.Laws.BytesString
namespace Go.Proofs.YtioghecmnggehaaDoor
open Go Go.RowKit
open Wb

def bstr (l : List Nat) : ByteArray := ⟨(l.map UInt8.ofNat).toArray⟩
theorem conv_bs {w : World} {v : Value} {l : List Nat} (h : Bs w v l) : (convert 22 9 v).run Tryd.prog w = .ok (.string (bstr l)) w := by
  rcases h.cases with ⟨rfl, ao, cap, rfl, _⟩ | ⟨hl, b, off, cap, rfl, _, _, hc⟩
  · rw [run_convert_bytes_string w 22 9 5 _ 0 cap Tryd.underlying22 Tryd.underlying5 Tryd.underlying9]
    cases ao <;> simp [Conv.bytesToString, loadCells]
    all_goals rfl
  · have := run_convert_bytes_back w 22 9 5 ⟨b, off, none⟩ cap (l.map UInt8.ofNat) Tryd.underlying22 Tryd.underlying5 Tryd.underlying9 (fun j hj => by
      have hj' : j < l.length := by simpa using hj
      rw [Addr.add_lit, hc j hj']
      have h256 := ok_get h.good j hj'
      simp [Nat.mod_eq_of_lt h256])
    rw [List.length_map] at this
    exact this
theorem bstr_inj {a b : List Nat} (ha : ok a) (hb : ok b) : ((bstr a).toList == (bstr b).toList) = decide (a = b) := by
  have e : ∀ l, (bstr l).toList = l.map UInt8.ofNat := fun l => by unfold bstr; rw [ByteArray.toList_eq]
  rw [e, e]
  by_cases h : a = b
  · subst h; simp
  · rw [decide_eq_false h, beq_eq_false_iff_ne]
    intro hh
    apply h
    have h1 := congrArg (List.map UInt8.toNat) hh
    simp only [List.map_map] at h1
    have key : ∀ l : List Nat, ok l → l.map (UInt8.toNat ∘ UInt8.ofNat) = l := fun l hl => by
      conv => rhs; rw [← List.map_id l]
      apply List.map_congr_left
      intro x hx
      exact UInt8.toNat_ofNat_of_lt' (show x < 256 from hl x hx)
    rwa [key a ha, key b hb] at h1

theorem bstr_size (l : List Nat) : (bstr l).size = l.length := by
  show (l.map UInt8.ofNat).toArray.size = _
  simp
def tagRs : List (List Int) := [[1, 2, 3, 11, 0, 0, 0], [1, 2, 5, 8, 10, 11, 0], [1, 2, 5, 8, 9, 10, 11], [1, 2, 3, 0, 0, 0, 0], [1, 2, 3, 4, 5, 0, 0], [1, 2, 3, 4, 5, 0, 0], [1, 2, 3, 11, 0, 0, 0], [1, 2, 3, 5, 11, 0, 0], [1, 2, 3, 5, 11, 0, 0], [1, 2, 3, 11, 0, 0, 0], [1, 2, 3, 5, 6, 11, 0], [1, 2, 3, 5, 6, 7, 11], [1, 2, 3, 0, 0, 0, 0], [1, 2, 3, 4, 5, 0, 0], [1, 2, 3, 4, 5, 0, 0], [1, 2, 3, 11, 0, 0, 0], [1, 2, 3, 5, 11, 0, 0], [1, 2, 3, 5, 11, 0, 0], [1, 2, 0, 0, 0, 0, 0], [1, 2, 5, 0, 0, 0, 0], [1, 2, 5, 7, 0, 0, 0]]
def tagR (m : Nat) : List Int := tagRs.getD m []
/-- the tags of a record's version and kind -/
def Nums.row (x : Nums) : List Int := tagR ((x.k.toNat - 1) * 3 + (x.v.toNat - 1))
def Nums.old (x : Nums) : Bool := decide (x.v = 1) && decide (x.k = 1)
def Nums.lo (x : Nums) (t : Nat) : Int := if t = 3 then (if x.old then 1 else 0) else if t = 4 then 1 else if t = 7 then (if x.k = 7 then 0 else -9223372036854775808) else if t = 8 then 1 else 0
def Nums.hi (x : Nums) (t : Nat) : Int := if t = 3 then (if x.old then 32 else 31) else if t = 4 then 1000 else if t = 6 then 1 else if t = 7 then (if x.k = 7 then 2 else 9223372036854775807) else if t = 8 then 32 else if t = 9 then x.n else 9223372036854775807
/-- the error of a label -/
def lab (s : ByteArray) : Int := if (Text.Tx.nmA s).1 = 0 then 0 else 35
def datE (x : Nums) (l : List Nat) : Int := if 16384 < l.length then 36 else if x.old then lab (bstr l) else 0
def fldE (x : Nums) (nm : ByteArray) (l : List Nat) (t : Nat) : Int := if t = 10 then lab nm else if t = 11 then datE x l else if x.tag t < x.lo t ∨ x.hi t < x.tag t then 34 else 0
def zeroT (x : Nums) (nm : ByteArray) (n : Nat) (t : Nat) : Bool := if t = 10 then nm.toList.isEmpty else if t = 11 then decide (n = 0) else decide (x.tag t = 0)
def tagE (x : Nums) (nm : ByteArray) (l : List Nat) (t : Nat) : Int := if x.row.contains (t : Int) then fldE x nm l t else if zeroT x nm l.length t then 0 else 33
/-- the first error of the tags from 12 - n to 11 -/
def chkN (x : Nums) (nm : ByteArray) (l : List Nat) : Nat → Int
  | 0 => 0
  | n + 1 => if tagE x nm l (11 - n) = 0 then chkN x nm l n else tagE x nm l (11 - n)
def chk (x : Nums) (nm : ByteArray) (l : List Nat) : Int := if ¬ (1 ≤ x.v ∧ x.v ≤ 3) then 3 else if ¬ (1 ≤ x.k ∧ x.k ≤ 7) then 31 else if x.s < 1 then 32 else chkN x nm l 9
/-- parts by value -/
def pv (x : Nums) (nm : ByteArray) (d : Value) : Value := .agg #[.int .i64 0, .int .i64 x.k, .int .i64 x.s, .int .i64 x.p, .int .i64 x.t, .int .i64 x.a, .int .i64 x.l, .int .i64 x.c, .int .i64 x.n, .int .i64 x.i, .string nm, d]

theorem isV_any (v : Int) (w : World) : Calls Tryd.prog 19 #[.int .i64 v] w fun e w' => e = .returned (.bool (decide (1 ≤ v) && decide (v ≤ 3))) ∧ w' = w := by
  by_cases h1 : 1 ≤ v
  · have H1 : Hid ((decide (1 ≤ v) && decide (v ≤ 3)) = decide (v ≤ 3)) := by show _ = _; rw [decide_eq_true h1, Bool.true_and]
    rw [H1.out]
    go_enter Tryd.func19, Tryd.ntmps19
    go_wp2
    go_ret
    exact ⟨rfl, rfl⟩
  · have H1 : Hid ((decide (1 ≤ v) && decide (v ≤ 3)) = false) := by show _ = _; rw [decide_eq_false h1, Bool.false_and]
    rw [H1.out]
    go_enter Tryd.func19, Tryd.ntmps19
    go_wp2
    go_ret
    exact ⟨rfl, rfl⟩
theorem isK_any (v : Int) (w : World) : Calls Tryd.prog 24 #[.int .i64 v] w fun e w' => e = .returned (.bool (decide (1 ≤ v) && decide (v ≤ 7))) ∧ w' = w := by
  by_cases h1 : 1 ≤ v
  · have H1 : Hid ((decide (1 ≤ v) && decide (v ≤ 7)) = decide (v ≤ 7)) := by show _ = _; rw [decide_eq_true h1, Bool.true_and]
    rw [H1.out]
    go_enter Tryd.func24, Tryd.ntmps24
    go_wp2
    go_ret
    exact ⟨rfl, rfl⟩
  · have H1 : Hid ((decide (1 ≤ v) && decide (v ≤ 7)) = false) := by show _ = _; rw [decide_eq_false h1, Bool.false_and]
    rw [H1.out]
    go_enter Tryd.func24, Tryd.ntmps24
    go_wp2
    go_ret
    exact ⟨rfl, rfl⟩
theorem old_any (x : Nums) (nm : ByteArray) (ao : Option Addr) (n cap : Nat) (w : World) :
    Calls Tryd.prog 46 #[rv x nm (.slice ao n cap)] w fun e w' => e = .returned (.bool x.old) ∧ Below w.heap.size w w' := by
  unfold rv
  by_cases h1 : x.v = 1
  · have H1 : Hid (x.old = (x.k == 1)) := by show _ = _; unfold Nums.old; rw [decide_eq_true h1, Bool.true_and]; rfl
    rw [H1.out, h1]
    go_enter Tryd.func46, Tryd.ntmps46
    go_wp2
    go_ret
    exact ⟨rfl, by go_grown⟩
  · have H1 : Hid (x.old = false) := by show _ = _; unfold Nums.old; rw [decide_eq_false h1, Bool.false_and]
    have d1 : (x.v == 1) = false := by rw [beq_eq_false_iff_ne]; exact h1
    rw [H1.out]
    go_enter Tryd.func46, Tryd.ntmps46
    go_wp2
    go_ret
    exact ⟨rfl, by go_grown⟩
set_option maxRecDepth 100000 in
set_option maxHeartbeats 4000000 in
theorem isZero_any (x : Nums) (nm : ByteArray) (ao : Option Addr) (n cap : Nat) (t : Nat) (w : World) (h1 : 1 ≤ t) (h2 : t ≤ 11) :
    Calls Tryd.prog 28 #[pv x nm (.slice ao n cap), .int .i64 (t : Int)] w fun e w' => e = .returned (.bool (zeroT x nm n t)) ∧ Below w.heap.size w w' := by
  unfold pv
  have hz : ∀ z : Int, decide (z = 0) = (z == 0) := fun z => rfl
  have hn : decide (n = 0) = ((n : Int) == 0) := by
    by_cases e : n = 0
    · subst e; rfl
    · rw [decide_eq_false e]; symm; rw [beq_eq_false_iff_ne]; omega
  obtain rfl | rfl | rfl | rfl | rfl | rfl | rfl | rfl | rfl | rfl | rfl : t = 1 ∨ t = 2 ∨ t = 3 ∨ t = 4 ∨ t = 5 ∨ t = 6 ∨ t = 7 ∨ t = 8 ∨ t = 9 ∨ t = 10 ∨ t = 11 := by omega
  all_goals
    simp only [zeroT, Nums.tag, hz, hn, Nat.reduceEqDiff, if_true, if_false]
    clear hz hn
    go_enter Tryd.func28, Tryd.ntmps28
    go_wp2
    go_ret
    exact ⟨rfl, by go_grown⟩
end Go.Proofs.YtioghecmnggehaaDoor
