import Derived.Deep.RegionHeldLaw
import Derived.Deep.QuietTactic
import Derived.BigQuiet
import Derived.WalkSmall
import Derived.Test.YtdnackjakfiffaaGreatDoorQR2
import Derived.Test.YtdnackjakfiffaaGreatDoorQR1
/-
  Package record: what is read as a record of version 2 is one of version 3.
-/
namespace Go.Proofs.YtdnackjakfiffaaGreatDoor
open Go Go.RowKit
open Wb

theorem chkN_all (x : Nums) (nm : ByteArray) (l : List Nat) : chkN x nm l 9 = 0 ↔ (tagE x nm l 3 = 0 ∧ tagE x nm l 4 = 0 ∧ tagE x nm l 5 = 0 ∧ tagE x nm l 6 = 0 ∧ tagE x nm l 7 = 0 ∧ tagE x nm l 8 = 0 ∧ tagE x nm l 9 = 0 ∧ tagE x nm l 10 = 0 ∧ tagE x nm l 11 = 0) := by
  simp only [chkN, Nat.reduceSub]
  generalize tagE x nm l 3 = a3
  generalize tagE x nm l 4 = a4
  generalize tagE x nm l 5 = a5
  generalize tagE x nm l 6 = a6
  generalize tagE x nm l 7 = a7
  generalize tagE x nm l 8 = a8
  generalize tagE x nm l 9 = a9
  generalize tagE x nm l 10 = a10
  generalize tagE x nm l 11 = a11
  repeat' split
  all_goals simp_all
theorem fldE_later (x : Nums) (nm : ByteArray) (l : List Nat) (t : Nat) : fldE (x.ofV 3) nm l t = fldE (x.ofV 2) nm l t := by
  have h2 : (x.ofV 2).old = false := rfl
  have h3 : (x.ofV 3).old = false := rfl
  have e1 : (x.ofV 3).lo t = (x.ofV 2).lo t := by unfold Nums.lo; rw [h2, h3]; rfl
  have e2 : (x.ofV 3).hi t = (x.ofV 2).hi t := by unfold Nums.hi; rw [h2, h3]; rfl
  have e3 : (x.ofV 3).tag t = (x.ofV 2).tag t := rfl
  have e4 : datE (x.ofV 3) l = datE (x.ofV 2) l := by unfold datE; rw [h2, h3]
  unfold fldE
  rw [e1, e2, e3, e4]
theorem tag_later (x : Nums) (nm : ByteArray) (l : List Nat) (t : Nat) (hrow : (x.ofV 2).row.contains (t : Int) = true → (x.ofV 3).row.contains (t : Int) = true)
    (hnew : (x.ofV 2).row.contains (t : Int) = false → (x.ofV 3).row.contains (t : Int) = true → zeroT (x.ofV 2) nm l.length t = true → fldE (x.ofV 2) nm l t = 0) (h : tagE (x.ofV 2) nm l t = 0) : tagE (x.ofV 3) nm l t = 0 := by
  have e : zeroT (x.ofV 3) nm l.length t = zeroT (x.ofV 2) nm l.length t := rfl
  unfold tagE at h ⊢
  rw [e, fldE_later]
  cases h2 : (x.ofV 2).row.contains (t : Int) with
  | true =>
    rw [h2] at h
    rw [hrow h2]
    simpa using h
  | false =>
    rw [h2] at h
    cases hz : zeroT (x.ofV 2) nm l.length t with
    | false => rw [hz] at h; simp at h
    | true =>
      cases h3 : (x.ofV 3).row.contains (t : Int) with
      | false => simp
      | true =>
        have := hnew h2 h3 hz
        simpa using this
theorem fld7 (x : Nums) (nm : ByteArray) (l : List Nat) (h : zeroT (x.ofV 2) nm l.length 7 = true) : fldE (x.ofV 2) nm l 7 = 0 := by
  have hc : x.c = 0 := by
    have : decide (x.c = 0) = true := h
    simpa using this
  show (if x.c < (x.ofV 2).lo 7 ∨ (x.ofV 2).hi 7 < x.c then (34 : Int) else 0) = 0
  rw [if_neg]
  have e1 : (x.ofV 2).lo 7 = if x.k = 7 then 0 else -9223372036854775808 := rfl
  have e2 : (x.ofV 2).hi 7 = if x.k = 7 then 2 else 9223372036854775807 := rfl
  rw [e1, e2, hc]
  split <;> decide
theorem fld9 (x : Nums) (nm : ByteArray) (l : List Nat) (h : zeroT (x.ofV 2) nm l.length 9 = true) (hn : 1 ≤ x.n) : fldE (x.ofV 2) nm l 9 = 0 := by
  have hc : x.i = 0 := by
    have : decide (x.i = 0) = true := h
    simpa using this
  show (if x.i < 0 ∨ x.n < x.i then (34 : Int) else 0) = 0
  rw [if_neg (by omega)]
theorem cnt (x : Nums) (nm : ByteArray) (l : List Nat) (hr : (x.ofV 2).row.contains ((8 : Nat) : Int) = true) (h : tagE (x.ofV 2) nm l 8 = 0) : 1 ≤ x.n := by
  unfold tagE at h
  rw [hr] at h
  have h3 : fldE (x.ofV 2) nm l 8 = 0 := by simpa using h
  have h2 : (if x.n < 1 ∨ 32 < x.n then (34 : Int) else 0) = 0 := h3
  split at h2
  · simp at h2
  · omega
theorem rows_later (k : Int) (_h1 : 1 ≤ k) (_h7 : k ≤ 7) (x : Nums) (hk : x.k = k) (v : Int) (_hv : v = 2 ∨ v = 3) : (x.ofV v).row = tagR ((k.toNat - 1) * 3 + (v.toNat - 1)) := by
  show tagR ((x.k.toNat - 1) * 3 + (v.toNat - 1)) = _
  rw [hk]
theorem chk_later (x : Nums) (nm : ByteArray) (l : List Nat) (h : chk (x.ofV 2) nm l = 0) : chk (x.ofV 3) nm l = 0 := by
  have ev2 : (x.ofV 2).v = 2 := rfl
  have ev3 : (x.ofV 3).v = 3 := rfl
  have ek2 : (x.ofV 2).k = x.k := rfl
  have ek3 : (x.ofV 3).k = x.k := rfl
  have es2 : (x.ofV 2).s = x.s := rfl
  have es3 : (x.ofV 3).s = x.s := rfl
  unfold chk at h ⊢
  rw [ev2, ek2, es2, if_neg (by decide)] at h
  rw [ev3, ek3, es3, if_neg (by decide)]
  by_cases hk : 1 ≤ x.k ∧ x.k ≤ 7
  · rw [if_neg (by simpa using hk)] at h
    rw [if_neg (by simpa using hk)]
    by_cases hs : x.s < 1
    · rw [if_pos hs] at h; simp at h
    · rw [if_neg hs] at h
      rw [if_neg hs]
      rw [chkN_all] at h ⊢
      obtain ⟨t3, t4, t5, t6, t7, t8, t9, t10, t11⟩ := h
      have r2 := rows_later x.k hk.1 hk.2 x rfl 2 (.inl rfl)
      have r3 := rows_later x.k hk.1 hk.2 x rfl 3 (.inr rfl)
      obtain h1 | h1 | h1 | h1 | h1 | h1 | h1 : x.k = 1 ∨ x.k = 2 ∨ x.k = 3 ∨ x.k = 4 ∨ x.k = 5 ∨ x.k = 6 ∨ x.k = 7 := by omega
      all_goals
        rw [h1] at r2 r3
        refine ⟨?_, ?_, ?_, ?_, ?_, ?_, ?_, ?_, ?_⟩
        · exact tag_later x nm l 3 (by rw [r2, r3]; decide) (fun a b _ => absurd (And.intro a b) (by rw [r2, r3]; decide)) t3
        · exact tag_later x nm l 4 (by rw [r2, r3]; decide) (fun a b _ => absurd (And.intro a b) (by rw [r2, r3]; decide)) t4
        · exact tag_later x nm l 5 (by rw [r2, r3]; decide) (fun a b _ => absurd (And.intro a b) (by rw [r2, r3]; decide)) t5
        · exact tag_later x nm l 6 (by rw [r2, r3]; decide) (fun a b _ => absurd (And.intro a b) (by rw [r2, r3]; decide)) t6
        · exact tag_later x nm l 7 (by rw [r2, r3]; decide) (fun _ _ z => fld7 x nm l z) t7
        · exact tag_later x nm l 8 (by rw [r2, r3]; decide) (fun a b _ => absurd (And.intro a b) (by rw [r2, r3]; decide)) t8
        · first | exact tag_later x nm l 9 (by rw [r2, r3]; decide) (fun a b _ => absurd (And.intro a b) (by rw [r2, r3]; decide)) t9 | exact tag_later x nm l 9 (by rw [r2, r3]; decide) (fun _ _ z => fld9 x nm l z (cnt x nm l (by rw [r2]; decide) t8)) t9
        · exact tag_later x nm l 10 (by rw [r2, r3]; decide) (fun a b _ => absurd (And.intro a b) (by rw [r2, r3]; decide)) t10
        · exact tag_later x nm l 11 (by rw [r2, r3]; decide) (fun a b _ => absurd (And.intro a b) (by rw [r2, r3]; decide)) t11
  · rw [if_pos hk] at h
    simp at h
theorem dcd_later (b : List Nat) (q : Pts) (h : dcd 2 b = (0, q)) : dcd 3 b = (0, q.ofV 3) ∧ q.x.v = 2 := by
  unfold dcd at h ⊢
  rw [if_neg (by decide)] at h
  rw [if_neg (by decide)]
  generalize rpF b 12 0 0 zeroPts = Q at *
  obtain ⟨er, p⟩ := Q
  simp only at h ⊢
  by_cases he : er = 0
  · rw [if_neg (by simpa using he)] at h
    rw [if_neg (by simpa using he)]
    by_cases hc : chk (p.x.ofV 2) (bstr p.nm) p.l = 0
    · rw [if_neg (by simpa using hc)] at h
      rw [if_neg (by simpa using chk_later p.x (bstr p.nm) p.l hc)]
      obtain ⟨_, rfl⟩ := Prod.mk.inj h
      exact ⟨rfl, rfl⟩
    · rw [if_pos hc] at h
      exact absurd (Prod.mk.inj h).1 hc
  · rw [if_pos he] at h
    have := (Prod.mk.inj h).1
    omega
theorem dcd0 : dcd 2 [1, 2, 2, 5, 4, 1] = (0, ⟨⟨2, 2, 5, 0, 1, 0, 0, 0, 0, 0⟩, [], []⟩) := by kernel_rfl
end Go.Proofs.YtdnackjakfiffaaGreatDoor

/-
  RecordLater: equal, and the law's walk.
-/
namespace Go.Proofs.YtdnackjakfiffaaGreatDoor
open Go Go.RowKit
open Wb

theorem box_set {w : World} {g : Nat} {x0 : Nums} {nm0 : ByteArray} {d0 : Value} (h : Box w g x0 nm0 d0) (x : Nums) (nm : ByteArray) (d : Value) : Box (w.setCells g 0 [.int .i64 x.v, .int .i64 x.k, .int .i64 x.s, .int .i64 x.p, .int .i64 x.t, .int .i64 x.a, .int .i64 x.l, .int .i64 x.c, .int .i64 x.n, .int .i64 x.i, .string nm, d]) g x nm d := by
  unfold Box at *
  simp [World.setCells, World.setCell, Array.getElem?_modify, h]
theorem lit6 (w : World) : Bs (w.alloc (.cells #[.int .u8 1, .int .u8 2, .int .u8 2, .int .u8 5, .int .u8 4, .int .u8 1] 5)) (.slice (some ⟨w.heap.size, 0, none⟩) 6 6) [1, 2, 2, 5, 4, 1] :=
  (Own.lit (B := 0) w [1, 2, 2, 5, 4, 1] (by unfold ok; decide) (Nat.zero_le _) (by decide) #[.int .u8 1, .int .u8 2, .int .u8 2, .int .u8 5, .int .u8 4, .int .u8 1] rfl).bs
end Go.Proofs.YtdnackjakfiffaaGreatDoor

/-
  Package record: value.
-/
namespace Go.Proofs.YtdnackjakfiffaaGreatDoor
open Go Go.RowKit
open Wb

/-- a text's bytes -/
def nbs (s : ByteArray) : List Nat := s.data.toList.map UInt8.toNat
/-- the bytes of the field of a tag -/
def valB (x : Nums) (nm : ByteArray) (l : List Nat) (t : Nat) : List Nat := if t = 7 then Wn.uint (zz x.c) else if t = 10 then Wn.uint (nbs nm).length ++ nbs nm else if t = 11 then Wn.uint l.length ++ l else Wn.uint (x.tag t).toNat
theorem nbs_len (s : ByteArray) : (nbs s).length = s.size := by
  unfold nbs
  rw [List.length_map]
  rfl
theorem nbs_ok (s : ByteArray) : ok (nbs s) := by
  intro x hx
  obtain ⟨u, _, rfl⟩ := List.mem_map.1 hx
  exact u.toNat_lt
end Go.Proofs.YtdnackjakfiffaaGreatDoor

/-
  Package record: value, the other tags.
-/
namespace Go.Proofs.YtdnackjakfiffaaGreatDoor
open Go Go.RowKit
open Wb

/-- the bytes of a text, made anew -/
theorem bs_of_string (w : World) (s : ByteArray) (hs : s.size ≤ maxLen) (g : Nat) (hg : g = w.heap.size) (fr : Nat × Nat) : Bs (w.drew.alloc (.cells (bytesRow s (grownCap w s.size 0 5)) 5 fr)) (.slice (some ⟨g, 0, none⟩) s.size (grownCap w s.size 0 5)) (nbs s) := by
  subst hg
  refine ⟨⟨some ⟨w.heap.size, 0, none⟩, grownCap w s.size 0 5, by rw [nbs_len], by rw [nbs_len]; exact grownCap_ge _ _ _ _, grownCap_le_maxLen _ _ _ _ hs, (fun e => nomatch e), fun _ => ⟨w.heap.size, 0, rfl, fun j hj => ?_⟩⟩, nbs_ok s⟩
  rw [Nat.zero_add]
  have hj' : j < s.data.size := by rw [nbs_len] at hj; exact hj
  have e : (w.drew.alloc (.cells (bytesRow s (grownCap w s.size 0 5)) 5 fr)).cell? ⟨w.heap.size, j, none⟩ = (bytesRow s (grownCap w s.size 0 5))[j]? := by
    have h : (w.drew.alloc (.cells (bytesRow s (grownCap w s.size 0 5)) 5 fr)).heap[w.heap.size]? = some (.cells (bytesRow s (grownCap w s.size 0 5)) 5 fr) := Array.getElem?_push_size
    unfold World.cell?
    simp only [h]
    rfl
  rw [e, bytesRow_at s _ j hj']
  simp [nbs]
/-- a record's numbers that are written as they are -/
def Nums.nice (x : Nums) : Prop := (∀ t, 1 ≤ t → t ≤ 9 → t ≠ 7 → 0 ≤ x.tag t ∧ x.tag t ≤ 9223372036854775807) ∧ -9223372036854775808 ≤ x.c ∧ x.c ≤ 9223372036854775807
end Go.Proofs.YtdnackjakfiffaaGreatDoor

/-
  Package record: Encode, Size.
-/
namespace Go.Proofs.YtdnackjakfiffaaGreatDoor
open Go Go.RowKit
open Wb

/-- the bytes of the fields from the tag 12 - n on -/
def encN (x : Nums) (nm : ByteArray) (l : List Nat) : Nat → List Nat
  | 0 => []
  | n + 1 => (if zeroT x nm l.length (11 - n) then [] else Wn.uint (11 - n) ++ valB x nm l (11 - n)) ++ encN x nm l n
def enc (x : Nums) (nm : ByteArray) (l : List Nat) : List Nat := encN x nm l 11
theorem encN_succ (x : Nums) (nm : ByteArray) (l : List Nat) (n : Nat) : encN x nm l (n + 1) = (if zeroT x nm l.length (11 - n) then [] else Wn.uint (11 - n) ++ valB x nm l (11 - n)) ++ encN x nm l n := rfl
theorem valB_len (x : Nums) (nm : ByteArray) (l : List Nat) (t : Nat) (hx : x.nice) (hs : nm.size ≤ 1000000) (hl : l.length ≤ 16384) (h1 : 1 ≤ t) (h2 : t ≤ 11) : (valB x nm l t).length ≤ 1000100 := by
  unfold valB
  split
  · have := Wn.uint_len10 (zz x.c) (zz_lt x.c hx.2.1 hx.2.2)
    omega
  · split
    · have := Wn.uint_len10 (nbs nm).length (by rw [nbs_len]; omega)
      rw [List.length_append]
      rw [nbs_len] at *
      omega
    · split
      · have := Wn.uint_len10 l.length (by omega)
        rw [List.length_append]
        omega
      · have h := hx.1 t h1 (by omega) (by omega)
        have := Wn.uint_len10 (x.tag t).toNat (by omega)
        omega
theorem fld_nice (x : Nums) (nm : ByteArray) (l : List Nat) (t : Nat) (h : tagE x nm l t = 0) (h3 : 3 ≤ t) (h9 : t ≤ 9) (h7 : t ≠ 7) : 0 ≤ x.tag t := by
  unfold tagE at h
  cases hr : x.row.contains (t : Int) with
  | true =>
    rw [hr] at h
    have h2 : fldE x nm l t = 0 := by simpa using h
    unfold fldE at h2
    rw [if_neg (by omega), if_neg (by omega)] at h2
    have h4 : ¬ (x.tag t < x.lo t ∨ x.hi t < x.tag t) := by
      intro hh
      rw [if_pos hh] at h2
      simp at h2
    have h5 : 0 ≤ x.lo t := by
      unfold Nums.lo
      split
      · split <;> omega
      · split
        · omega
        · split <;> omega
    omega
  | false =>
    rw [hr] at h
    cases hz : zeroT x nm l.length t with
    | false => rw [hz] at h; simp at h
    | true =>
      unfold zeroT at hz
      rw [if_neg (by omega), if_neg (by omega)] at hz
      have : x.tag t = 0 := by simpa using hz
      omega
/-- a valid record's numbers are written as they are -/
theorem chk_nice (x : Nums) (nm : ByteArray) (l : List Nat) (hc : chk x nm l = 0) (hb : ∀ t, 1 ≤ t → t ≤ 9 → -9223372036854775808 ≤ x.tag t ∧ x.tag t ≤ 9223372036854775807) : x.nice ∧ (1 ≤ x.v ∧ x.v ≤ 3) ∧ (1 ≤ x.k ∧ x.k ≤ 7) ∧ 1 ≤ x.s ∧ chkN x nm l 9 = 0 := by
  unfold chk at hc
  by_cases hv : 1 ≤ x.v ∧ x.v ≤ 3
  · rw [if_neg (by simpa using hv)] at hc
    by_cases hk : 1 ≤ x.k ∧ x.k ≤ 7
    · rw [if_neg (by simpa using hk)] at hc
      by_cases hs : x.s < 1
      · rw [if_pos hs] at hc; simp at hc
      · rw [if_neg hs] at hc
        refine ⟨⟨fun t h1 h9 h7 => ⟨?_, (hb t h1 h9).2⟩, hb 7 (by omega) (by omega)⟩, hv, hk, by omega, hc⟩
        have key : ∀ n, chkN x nm l n = 0 → ∀ t, t ≤ 11 → 11 < t + n → tagE x nm l t = 0 := by
          intro n
          induction n with
          | zero => intro _ t _ _; omega
          | succ n ih =>
            intro h t ht htn
            rw [chkN_succ] at h
            by_cases h0 : tagE x nm l (11 - n) = 0
            · rw [if_pos h0] at h
              by_cases he : t = 11 - n
              · subst he; exact h0
              · exact ih h t ht (by omega)
            · rw [if_neg h0] at h
              exact absurd h h0
        by_cases ht1 : t = 1
        · subst ht1; show 0 ≤ x.k; omega
        · by_cases ht2 : t = 2
          · subst ht2; show 0 ≤ x.s; omega
          · exact fld_nice x nm l t (key 9 hc t (by omega) (by omega)) (by omega) h9 h7
    · rw [if_pos hk] at hc; simp at hc
  · rw [if_pos hv] at hc; simp at hc
end Go.Proofs.YtdnackjakfiffaaGreatDoor

/-
  The reference's Alike and Same.
-/
namespace Go.Proofs.YtdnackjakfiffaaGreatDoor
open Go Go.RowKit
open Wb

set_option maxHeartbeats 400000 in
theorem ralike_any (va vb : Value) (a b : List Nat) (w : World) (ha : Bs w va a) (hb : Bs w vb b) :
    Calls Tryz.prog 41 #[va, vb] w fun e w' => e = .returned (.bool (decide (a = b))) ∧ Below w.heap.size w w' := by
  obtain ⟨aoa, capa, rfl, hla, hma, hna, hca⟩ := ha.shape
  obtain ⟨aob, capb, rfl, hlb, hmb, hnb, hcb⟩ := hb.shape
  unfold maxLen at hma hmb
  have ga := ha.good
  have gb := hb.good
  by_cases hlen : a.length = b.length
  · have HL : Hid (a.length = b.length) := hlen
    have d0 : ((a.length : Int) != (b.length : Int)) = false := by simp [hlen]
    clear hlen
    go_enter Tryz.func41, Tryz.ntmps41
    go_wp2
    go_loopw [5] (fun i wr => ∃ k : Nat, k ≤ a.length ∧ i = .int .i64 k ∧ a.take k = b.take k ∧ Below w.heap.size w wr) (fun i _ => a.length - (intOf i).toNat)
    case atStart => exact ⟨0, Nat.zero_le _, rfl, by simp, Below.refl _ _⟩
    case round =>
      obtain ⟨k, hk, rfl, heq, hbel⟩ := hrel
      have HQ : Hid (a.take k = b.take k) := heq
      clear heq
      by_cases hlt : k < a.length
      · have hlt' : k < b.length := by rw [← HL.out]; exact hlt
        obtain ⟨b1, off1, rfl, hcell1⟩ := hca (List.ne_nil_of_length_pos (by omega))
        obtain ⟨b2, off2, rfl, hcell2⟩ := hcb (List.ne_nil_of_length_pos (by omega))
        have q1 := (hbel.cell (p := ⟨b1, off1 + k, none⟩) (World.block_lt_of_cell? _ _ (hcell1 k hlt))).trans (hcell1 k hlt)
        have q2 := (hbel.cell (p := ⟨b2, off2 + k, none⟩) (World.block_lt_of_cell? _ _ (hcell2 k hlt'))).trans (hcell2 k hlt')
        clear hca hcb hcell1 hcell2 hna hnb ha hb
        by_cases hxy : a[k] = b[k]
        · have HS : Hid (a.take (k + 1) = b.take (k + 1)) := by
            show _ = _
            rw [List.take_succ_eq_append_getElem hlt, List.take_succ_eq_append_getElem hlt', HQ.out, hxy]
          rw [hxy] at q1
          generalize b[k] = y at *
          have d1 : ((y : Int) != (y : Int)) = false := by simp
          clear hxy
          go_wp2
          go_quiet (fail)
          go_wp2
          go_roundw
          case rel => exact ⟨k + 1, by omega, by go_num, HS.out, below_drewN hbel _⟩
          case measure => simp [intOf]; omega
        · have HN : Hid (¬ a = b) := by
            intro e
            subst e
            exact hxy rfl
          have d1 : ((a[k] : Int) != (b[k] : Int)) = true := by rw [bne_iff_ne]; omega
          generalize a[k] = x at *
          generalize b[k] = y at *
          clear hxy
          go_wp2
          go_quiet (fail)
          go_wp2
          go_ret
          exact ⟨by rw [decide_eq_false HN.out]; rfl, below_drewN hbel _⟩
      · have HE : Hid (a = b) := by
          have h := HQ.out
          rw [List.take_of_length_le (by omega), List.take_of_length_le (by rw [← HL.out]; omega)] at h
          exact h
        go_wp2
        go_ret
        exact ⟨by rw [decide_eq_true HE.out]; rfl, hbel⟩
  · have HN : Hid (¬ a = b) := fun e => hlen (by rw [e])
    have d0 : ((a.length : Int) != (b.length : Int)) = true := by rw [bne_iff_ne]; omega
    clear hlen hca hcb
    go_enter Tryz.func41, Tryz.ntmps41
    go_wp2
    go_ret
    exact ⟨by rw [decide_eq_false HN.out]; rfl, Below.refl _ _⟩

/-- do two records hold the same? -/
def recEq (x y : Nums) (nm nm2 : ByteArray) (l l2 : List Nat) : Bool := decide (x = y) && (nm.toList == nm2.toList) && decide (l = l2)
theorem nums_eq (x y : Nums) (hv : x.v = y.v) (h : ∀ t, 1 ≤ t → t ≤ 9 → x.tag t = y.tag t) : x = y := by
  have h1 : x.k = y.k := h 1 (by omega) (by omega)
  have h2 : x.s = y.s := h 2 (by omega) (by omega)
  have h3 : x.p = y.p := h 3 (by omega) (by omega)
  have h4 : x.t = y.t := h 4 (by omega) (by omega)
  have h5 : x.a = y.a := h 5 (by omega) (by omega)
  have h6 : x.l = y.l := h 6 (by omega) (by omega)
  have h7 : x.c = y.c := h 7 (by omega) (by omega)
  have h8 : x.n = y.n := h 8 (by omega) (by omega)
  have h9 : x.i = y.i := h 9 (by omega) (by omega)
  cases x
  cases y
  simp_all
end Go.Proofs.YtdnackjakfiffaaGreatDoor

/-
  The record laws' 'started'.
-/
namespace Go.Proofs.YtdnackjakfiffaaGreatDoor
open Go Go.RowKit
open Wb

def oneN : Nums := ⟨1, 7, 1, 0, 0, 0, 0, 0, 0, 0⟩
theorem enc_one : enc oneN ⟨#[]⟩ [] = [1, 7, 2, 1] := by kernel_rfl
theorem chk_one : chk oneN ⟨#[]⟩ [] = 0 := by kernel_rfl
theorem chk_zero : chk zeroNums ⟨#[]⟩ [] = 3 := by kernel_rfl
theorem dcd_one : dcd 1 [1, 7, 2, 1] = (0, ⟨⟨1, 7, 1, 0, 0, 0, 0, 0, 0, 0⟩, [], []⟩) := by kernel_rfl
theorem nice_one : oneN.nice := ⟨fun t h1 h9 _ => by
  obtain rfl | rfl | rfl | rfl | rfl | rfl | rfl | rfl | rfl : t = 1 ∨ t = 2 ∨ t = 3 ∨ t = 4 ∨ t = 5 ∨ t = 6 ∨ t = 7 ∨ t = 8 ∨ t = 9 := by omega
  all_goals decide, by decide, by decide⟩
theorem lit4 (w : World) (g : Nat) (hg : g = w.heap.size) : Bs (w.alloc (.cells #[.int .u8 1, .int .u8 7, .int .u8 2, .int .u8 1] 5)) (.slice (some ⟨g, 0, none⟩) 4 4) [1, 7, 2, 1] := by
  subst hg
  exact (Own.lit (B := 0) w [1, 7, 2, 1] (by unfold ok; decide) (Nat.zero_le _) (by decide) #[.int .u8 1, .int .u8 7, .int .u8 2, .int .u8 1] rfl).bs
end Go.Proofs.YtdnackjakfiffaaGreatDoor
