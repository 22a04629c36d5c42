import Derived.Laws.EntriesVeiled
import Derived.Test.YtdnackjakfiffaaGreatDoorQK2
import Derived.Test.YtdnackjakfiffaaGreatDoorQL1
import Derived.Test.YtdnackjakfiffaaGreatDoorQR3
/-
  Package lift: what the four ways do.
-/
namespace Go.Proofs.YtdnackjakfiffaaGreatDoor
open Go Go.RowKit
open Wb

set_option maxRecDepth 100000 in
set_option maxHeartbeats 1000000 in
theorem two3_any (x : Nums) (nm : ByteArray) (ao : Option Addr) (n cap : Nat) (w : World) :
    Calls Tryz.prog 83 #[rv x nm (.slice ao n cap)] w fun e w' => e = .returned (rv { x with v := 3 } nm (.slice ao n cap)) ∧ Below w.heap.size w w' := by
  unfold rv
  go_enter Tryz.func83, Tryz.ntmps83
  go_wp2
  go_returns
  exact ⟨rfl, by go_grown⟩
set_option maxRecDepth 100000 in
set_option maxHeartbeats 1000000 in
theorem three2_any (x : Nums) (nm : ByteArray) (ao : Option Addr) (n cap : Nat) (w : World) :
    Calls Tryz.prog 84 #[rv x nm (.slice ao n cap)] w fun e w' => e = .returned (rv { x with v := 2, i := 0, c := 0 } nm (.slice ao n cap)) ∧ Below w.heap.size w w' := by
  unfold rv
  go_enter Tryz.func84, Tryz.ntmps84
  go_wp2
  go_returns
  exact ⟨rfl, by go_grown⟩
set_option maxRecDepth 100000 in
set_option maxHeartbeats 1000000 in
theorem one2_25 (x : Nums) (nm : ByteArray) (ao : Option Addr) (n cap : Nat) (w : World) (hk : x.k = 2 ∨ x.k = 5) :
    Calls Tryz.prog 82 #[rv x nm (.slice ao n cap)] w fun e w' => e = .returned (rv { x with v := 2, t := 1 } nm (.slice ao n cap)) ∧ Below w.heap.size w w' := by
  rcases hk with hk | hk
  · rw [show rv x nm (.slice ao n cap) = rv { x with k := 2 } nm (.slice ao n cap) by rw [← hk], show rv { x with v := 2, t := 1 } nm (.slice ao n cap) = rv { x with v := 2, t := 1, k := 2 } nm (.slice ao n cap) by rw [← hk]]
    clear hk
    unfold rv
    go_enter Tryz.func82, Tryz.ntmps82
    go_wp2
    go_returns
    exact ⟨rfl, by go_grown⟩
  · rw [show rv x nm (.slice ao n cap) = rv { x with k := 5 } nm (.slice ao n cap) by rw [← hk], show rv { x with v := 2, t := 1 } nm (.slice ao n cap) = rv { x with v := 2, t := 1, k := 5 } nm (.slice ao n cap) by rw [← hk]]
    clear hk
    unfold rv
    go_enter Tryz.func82, Tryz.ntmps82
    go_wp2
    go_returns
    exact ⟨rfl, by go_grown⟩
set_option maxRecDepth 100000 in
set_option maxHeartbeats 1000000 in
theorem one2_4 (x : Nums) (nm : ByteArray) (ao : Option Addr) (n cap : Nat) (w : World) (hk : x.k = 4) :
    Calls Tryz.prog 82 #[rv x nm (.slice ao n cap)] w fun e w' => e = .returned (rv { x with v := 2, l := 1 } nm (.slice ao n cap)) ∧ Below w.heap.size w w' := by
  rw [show rv x nm (.slice ao n cap) = rv { x with k := 4 } nm (.slice ao n cap) by rw [← hk], show rv { x with v := 2, l := 1 } nm (.slice ao n cap) = rv { x with v := 2, l := 1, k := 4 } nm (.slice ao n cap) by rw [← hk]]
  clear hk
  unfold rv
  go_enter Tryz.func82, Tryz.ntmps82
  go_wp2
  go_returns
  exact ⟨rfl, by go_grown⟩
set_option maxRecDepth 100000 in
set_option maxHeartbeats 1000000 in
theorem one2_0 (x : Nums) (nm : ByteArray) (ao : Option Addr) (n cap : Nat) (w : World) (h1 : x.k ≠ 1) (h2 : x.k ≠ 2) (h4 : x.k ≠ 4) (h5 : x.k ≠ 5) :
    Calls Tryz.prog 82 #[rv x nm (.slice ao n cap)] w fun e w' => e = .returned (rv { x with v := 2 } nm (.slice ao n cap)) ∧ Below w.heap.size w w' := by
  have d1 : (x.k == 1) = false := by rw [beq_eq_false_iff_ne]; exact h1
  have d2 : (x.k == 2) = false := by rw [beq_eq_false_iff_ne]; exact h2
  have d4 : (x.k == 4) = false := by rw [beq_eq_false_iff_ne]; exact h4
  have d5 : (x.k == 5) = false := by rw [beq_eq_false_iff_ne]; exact h5
  unfold rv
  go_enter Tryz.func82, Tryz.ntmps82
  go_wp2
  go_returns
  exact ⟨rfl, by go_grown⟩
set_option maxRecDepth 100000 in
set_option maxHeartbeats 2000000 in
theorem one2_1 (x : Nums) (nm : ByteArray) (d : Value) (l : List Nat) (w : World) (h : Bs w d l) (hk : x.k = 1) :
    Calls Tryz.prog 82 #[rv x nm d] w fun e w' => e = .returned (rv { x with v := 2, n := x.p, p := 0 } (bstr l) (.slice none 0 0)) ∧ Below w.heap.size w w' := by
  have HB : Hid (∀ w', Below w.heap.size w w' → Bs w' d l) := fun w' hb => h.kept hb
  obtain ⟨ao, cap, rfl, _⟩ := h.shape
  have hcv1 : ∀ o1 o2, (convert 30 9 (.slice ao l.length cap)).run Tryz.prog ((w.alloc o1).alloc o2).drew = .ok (.string (bstr l)) ((w.alloc o1).alloc o2).drew := fun o1 o2 => conv_bs (HB.out _ (Below.drew (up (up0 _ _) _)))
  rw [show rv x nm (.slice ao l.length cap) = rv { x with k := 1 } nm (.slice ao l.length cap) by rw [← hk], show rv { x with v := 2, n := x.p, p := 0 } (bstr l) (.slice none 0 0) = rv { x with v := 2, n := x.p, p := 0, k := 1 } (bstr l) (.slice none 0 0) by rw [← hk]]
  clear hk h
  unfold rv
  go_enter Tryz.func82, Tryz.ntmps82
  go_wp2
  go_region
  all_goals
    go_wp2
    go_returns
    exact ⟨rfl, by go_grown⟩
end Go.Proofs.YtdnackjakfiffaaGreatDoor

/-
  Package lift: twoToOne.
-/
namespace Go.Proofs.YtdnackjakfiffaaGreatDoor
open Go Go.RowKit
open Wb

set_option maxRecDepth 100000 in
set_option maxHeartbeats 1000000 in
theorem two1_0 (x : Nums) (nm : ByteArray) (ao : Option Addr) (n cap : Nat) (w : World) (hk : x.k ≠ 1) :
    Calls Tryz.prog 85 #[rv x nm (.slice ao n cap)] w fun e w' => e = .returned (rv ⟨1, x.k, x.s, x.p, 0, 0, 0, 0, 0, 0⟩ ⟨#[]⟩ (.slice ao n cap)) ∧ Below w.heap.size w w' := by
  have d1 : (x.k == 1) = false := by rw [beq_eq_false_iff_ne]; exact hk
  unfold rv
  go_enter Tryz.func85, Tryz.ntmps85
  go_wp2
  go_returns
  exact ⟨rfl, by go_grown⟩
/-- the bytes of a text in a new row -/
theorem bs_row (w : World) (s : ByteArray) (G : Nat) (h1 : s.size ≤ G) (h2 : G ≤ maxLen) (g : Nat) (hg : g = w.heap.size) (fr : Nat × Nat) : Bs (w.alloc (.cells (bytesRow s G) 5 fr)) (.slice (some ⟨g, 0, none⟩) s.size G) (nbs s) := by
  subst hg
  refine ⟨⟨some ⟨w.heap.size, 0, none⟩, G, by rw [nbs_len], by rw [nbs_len]; exact h1, h2, (fun e => nomatch e), fun _ => ⟨w.heap.size, 0, rfl, fun j hj => ?_⟩⟩, nbs_ok s⟩
  rw [Nat.zero_add]
  have hj' : j < s.data.size := by rw [nbs_len] at hj; exact hj
  have e : (w.alloc (.cells (bytesRow s G) 5 fr)).cell? ⟨w.heap.size, j, none⟩ = (bytesRow s G)[j]? := by
    have h : (w.alloc (.cells (bytesRow s G) 5 fr)).heap[w.heap.size]? = some (.cells (bytesRow s G) 5 fr) := Array.getElem?_push_size
    unfold World.cell?
    simp only [h]
    rfl
  rw [e, bytesRow_at s _ j hj']
  simp [nbs]
set_option maxRecDepth 100000 in
set_option maxHeartbeats 2000000 in
theorem two1_1 (x : Nums) (nm : ByteArray) (ao : Option Addr) (n cap : Nat) (w : World) (hs : nm.size ≤ 1000000) (hk : x.k = 1) :
    Calls Tryz.prog 85 #[rv x nm (.slice ao n cap)] w fun e w' => ∃ g, ∃ cap' : Nat, e = .returned (rv ⟨1, x.k, x.s, x.n, 0, 0, 0, 0, 0, 0⟩ ⟨#[]⟩ (.slice (some ⟨g, 0, none⟩) nm.size cap')) ∧ w.heap.size ≤ g ∧ Bs w' (.slice (some ⟨g, 0, none⟩) nm.size cap') (nbs nm) ∧ Below w.heap.size w w' := by
  have hc : ∀ w' : World, (convert 9 30 (.string nm)).run Tryz.prog w' = .ok (.slice (some ⟨w'.heap.size, 0, none⟩) nm.size (grownCap w' nm.size 0 5)) (w'.drew.alloc (.cells (bytesRow nm (grownCap w' nm.size 0 5)) 5 ((bytesRow nm (grownCap w' nm.size 0 5)).size, (bytesRow nm (grownCap w' nm.size 0 5)).size + 1))) := fun w' => run_bytes_of_string w' 9 30 5 nm Tryz.underlying9 Tryz.underlying30 Tryz.underlying5
  have HG : Hid (∀ w', nm.size ≤ grownCap w' nm.size 0 5 ∧ grownCap w' nm.size 0 5 ≤ maxLen) := fun w' => ⟨grownCap_ge _ _ _ _, grownCap_le_maxLen _ _ _ _ (by unfold maxLen; omega)⟩
  rw [show rv x nm (.slice ao n cap) = rv { x with k := 1 } nm (.slice ao n cap) by rw [← hk], hk]
  clear hk
  unfold rv
  go_enter Tryz.func85, Tryz.ntmps85
  go_wp2
  go_region
  all_goals
    generalize hGe : grownCap _ nm.size 0 5 = G
    have hG : Hid (nm.size ≤ G ∧ G ≤ maxLen) := by
      show _ ∧ _
      rw [← hGe]
      exact HG.out _
    clear hGe hc HG
    go_wp2
    go_returns
    exact ⟨_, _, rfl, by omega, Bs.kept (bs_row _ nm G hG.out.1 hG.out.2 _ (by rw [heap_one, heap_one, heap_one]) _) (Below.drew (Below.drew (Below.refl _ _))), by go_grown⟩
end Go.Proofs.YtdnackjakfiffaaGreatDoor

/-
  Package lift: carry.
-/
namespace Go.Proofs.YtdnackjakfiffaaGreatDoor
open Go Go.RowKit
open Wb

/-- a record by its values -/
structure Rec where
  x : Nums
  nm : ByteArray
  l : List Nat
/-- what the ways do -/
def cOne (r : Rec) : Rec := if r.x.k = 1 then ⟨{ r.x with v := 2, n := r.x.p, p := 0 }, bstr r.l, []⟩ else if r.x.k = 2 ∨ r.x.k = 5 then ⟨{ r.x with v := 2, t := 1 }, r.nm, r.l⟩ else if r.x.k = 4 then ⟨{ r.x with v := 2, l := 1 }, r.nm, r.l⟩ else ⟨{ r.x with v := 2 }, r.nm, r.l⟩
def cTwo (r : Rec) : Rec := ⟨{ r.x with v := 3 }, r.nm, r.l⟩
def cThree (r : Rec) : Rec := ⟨{ r.x with v := 2, i := 0, c := 0 }, r.nm, r.l⟩
def cBack (r : Rec) : Rec := if r.x.k = 1 then ⟨⟨1, r.x.k, r.x.s, r.x.n, 0, 0, 0, 0, 0, 0⟩, ⟨#[]⟩, nbs r.nm⟩ else ⟨⟨1, r.x.k, r.x.s, r.x.p, 0, 0, 0, 0, 0, 0⟩, ⟨#[]⟩, r.l⟩
def deedP (j : Nat) (r : Rec) : Rec := if j = 0 then cOne r else if j = 1 then cTwo r else if j = 2 then cThree r else cBack r
def Rec.small (r : Rec) : Prop := r.nm.size ≤ 20000 ∧ r.l.length ≤ 20000
theorem deedP_small (j : Nat) (r : Rec) (h : r.small) : (deedP j r).small := by
  have e0 : (⟨#[]⟩ : ByteArray).size = 0 := rfl
  obtain ⟨h1, h2⟩ := h
  unfold deedP
  split
  · unfold cOne
    split
    · exact ⟨by rw [bstr_size]; exact h2, by simp⟩
    · split
      · exact ⟨h1, h2⟩
      · split <;> exact ⟨h1, h2⟩
  · split
    · exact ⟨h1, h2⟩
    · split
      · exact ⟨h1, h2⟩
      · unfold cBack
        split
        · exact ⟨by rw [e0]; omega, by rw [nbs_len]; exact h1⟩
        · exact ⟨by rw [e0]; omega, h2⟩
/-- data that does not lie in block g -/
def Off (g : Nat) (d : Value) (l : List Nat) : Prop := l ≠ [] → ∀ b off n cap, d = .slice (some ⟨b, off, none⟩) n cap → b ≠ g
theorem bs_off {w : World} {d : Value} {l : List Nat} (h : Bs w d l) (g o : Nat) (vs : List Value) (ho : Off g d l) : Bs (w.setCells g o vs) d l := by
  obtain ⟨⟨ao, cap, h1, h2, h3, h4, h5⟩, hok⟩ := h
  refine ⟨⟨ao, cap, h1, h2, h3, h4, fun hne => ?_⟩, hok⟩
  obtain ⟨b, off, hb, hc⟩ := h5 hne
  refine ⟨b, off, hb, fun j hj => ?_⟩
  have hbg : b ≠ g := ho hne b off l.length cap (by rw [h1, hb])
  have e := cells_other g vs o w b hbg
  have hcj := hc j hj
  unfold World.cell? at hcj ⊢
  simp only at hcj ⊢
  rw [e]
  exact hcj
theorem off_of {w : World} {d : Value} {l : List Nat} (h : Bs w d l) (g : Nat) (hg : w.heap.size ≤ g) : Off g d l := fun hne b off n cap e => by
  obtain ⟨ao', cap', e', _, _, _, hc⟩ := h.shape
  obtain ⟨b', off', e2, hcell⟩ := hc hne
  rw [e', e2] at e
  simp at e
  have := World.block_lt_of_cell? _ _ (hcell 0 (List.length_pos_iff.2 hne))
  simp at this
  omega
/-- what a way's deed answers -/
theorem deed_do (j : Nat) (hj : j < 4) (r : Rec) (d : Value) (w : World) (h : Bs w d r.l) (hs : r.small) :
    Calls Tryz.prog (82 + j) #[rv r.x r.nm d] w fun e w' => ∃ ao, ∃ cap : Nat, e = .returned (rv (deedP j r).x (deedP j r).nm (.slice ao (deedP j r).l.length cap)) ∧ Bs w' (.slice ao (deedP j r).l.length cap) (deedP j r).l ∧ (∀ g, g < w.heap.size → Off g d r.l → Off g (.slice ao (deedP j r).l.length cap) (deedP j r).l) ∧ Below w.heap.size w w' := by
  have hh := h
  obtain ⟨ao, cap, rfl, _⟩ := hh.shape
  obtain ⟨x, nm, l⟩ := r
  simp only at *
  have same : ∀ (w' : World), Below w.heap.size w w' → Bs w' (.slice ao l.length cap) l ∧ (∀ g, g < w.heap.size → Off g (.slice ao l.length cap) l → Off g (.slice ao l.length cap) l) ∧ Below w.heap.size w w' := fun w' hb => ⟨h.kept hb, fun _ _ h => h, hb⟩
  obtain rfl | rfl | rfl | rfl : j = 0 ∨ j = 1 ∨ j = 2 ∨ j = 3 := by omega
  · by_cases h1 : x.k = 1
    · have e : deedP 0 ⟨x, nm, l⟩ = ⟨{ x with v := 2, n := x.p, p := 0 }, bstr l, []⟩ := by show cOne _ = _; unfold cOne; rw [if_pos h1]
      rw [e]
      exact (one2_1 x nm _ l w h h1).mono fun e w' ⟨he, hb⟩ => ⟨none, 0, he, Bs.nil _, fun _ _ _ hne => absurd rfl hne, hb⟩
    · by_cases h2 : x.k = 2 ∨ x.k = 5
      · have e : deedP 0 ⟨x, nm, l⟩ = ⟨{ x with v := 2, t := 1 }, nm, l⟩ := by show cOne _ = _; unfold cOne; rw [if_neg h1, if_pos h2]
        rw [e]
        exact (one2_25 x nm ao l.length cap w h2).mono fun e w' ⟨he, hb⟩ => ⟨ao, cap, he, same w' hb⟩
      · by_cases h4 : x.k = 4
        · have e : deedP 0 ⟨x, nm, l⟩ = ⟨{ x with v := 2, l := 1 }, nm, l⟩ := by show cOne _ = _; unfold cOne; rw [if_neg h1, if_neg h2, if_pos h4]
          rw [e]
          exact (one2_4 x nm ao l.length cap w h4).mono fun e w' ⟨he, hb⟩ => ⟨ao, cap, he, same w' hb⟩
        · have e : deedP 0 ⟨x, nm, l⟩ = ⟨{ x with v := 2 }, nm, l⟩ := by show cOne _ = _; unfold cOne; rw [if_neg h1, if_neg h2, if_neg h4]
          rw [e]
          exact (one2_0 x nm ao l.length cap w h1 (fun e => h2 (.inl e)) h4 (fun e => h2 (.inr e))).mono fun e w' ⟨he, hb⟩ => ⟨ao, cap, he, same w' hb⟩
  · exact (two3_any x nm ao l.length cap w).mono fun e w' ⟨he, hb⟩ => ⟨ao, cap, he, same w' hb⟩
  · exact (three2_any x nm ao l.length cap w).mono fun e w' ⟨he, hb⟩ => ⟨ao, cap, he, same w' hb⟩
  · by_cases hk : x.k = 1
    · have e : deedP 3 ⟨x, nm, l⟩ = ⟨⟨1, x.k, x.s, x.n, 0, 0, 0, 0, 0, 0⟩, ⟨#[]⟩, nbs nm⟩ := by show cBack _ = _; unfold cBack; rw [if_pos hk]
      rw [e]
      refine (two1_1 x nm ao l.length cap w (by have := hs.1; simp only at this; omega) hk).mono fun e w' ⟨g, cap', he, hg, hbs, hb⟩ => ⟨some ⟨g, 0, none⟩, cap', by rw [nbs_len]; exact he, by rw [nbs_len]; exact hbs, fun g' hg' _ _ b off n c e => ?_, hb⟩
      simp at e
      omega
    · have e : deedP 3 ⟨x, nm, l⟩ = ⟨⟨1, x.k, x.s, x.p, 0, 0, 0, 0, 0, 0⟩, ⟨#[]⟩, l⟩ := by show cBack _ = _; unfold cBack; rw [if_neg hk]
      rw [e]
      exact (two1_0 x nm ao l.length cap w hk).mono fun e w' ⟨he, hb⟩ => ⟨ao, cap, he, same w' hb⟩
/-- what carry answers -/
def carL (ks : List Nat) (r : Rec) : Rec := ks.foldl (fun r k => deedP k r) r
def carP (t : Int) (r : Rec) : Rec := carL (Lft.go r.x.v t 4).2 r
theorem go_lt (f t : Int) : ∀ k, ∀ j ∈ (Lft.go f t k).2, j < k
  | 0, j, h => by simp [Lft.go] at h
  | k + 1, j, h => by
    have ih := go_lt f t k
    unfold Lft.go at h
    split at h
    · simp at h
      rcases h with h | rfl
      · have := ih j h; omega
      · omega
    · have := ih j h; omega
theorem ros_cells {B : Nat} {w : World} {v : Value} {l : List Nat} (h : Lft.RoS B w v l) (g o : Nat) (vs : List Value) (hp : g < B) : Lft.RoS B (w.setCells g o vs) v l := by
  refine ⟨h.1, ?_⟩
  rcases h.2 with h1 | ⟨g', cap, cur, rfl, h1, hg, rest⟩
  · exact .inl h1
  · exact .inr ⟨g', cap, cur, rfl, h1, (cells_other g vs o w g' (by omega)).trans hg, rest⟩
theorem box_cells {w : World} {g : Nat} {x : Nums} {nm : ByteArray} {d : Value} (h : Box w g x nm d) (y : Nums) (nm2 : ByteArray) (d2 : Value) : Box (w.setCells g 0 [.int .i64 y.v, .int .i64 y.k, .int .i64 y.s, .int .i64 y.p, .int .i64 y.t, .int .i64 y.a, .int .i64 y.l, .int .i64 y.c, .int .i64 y.n, .int .i64 y.i, .string nm2, d2]) g y nm2 d2 := by
  unfold Box at *
  simp [World.setCells, World.setCell, Array.getElem?_modify, h]
theorem box_cells_other {w : World} {g g' : Nat} {x : Nums} {nm : ByteArray} {d : Value} (h : Box w g x nm d) (o : Nat) (vs : List Value) (hne : g ≠ g') : Box (w.setCells g' o vs) g x nm d := (cells_other g' vs o w g hne).trans h
set_option maxRecDepth 100000 in
set_option maxHeartbeats 4000000 in
theorem carry_any (t : Int) (r : Rec) (d : Value) (w : World) (h : Bs w d r.l) (hs : r.small) (hW : Lft.WaysT w) :
    Calls Tryz.prog 27 #[rv r.x r.nm d, .int .i64 t] w fun e w' => ∃ ao, ∃ cap : Nat, e = .returned (rv (carP t r).x (carP t r).nm (.slice ao (carP t r).l.length cap)) ∧ Bs w' (.slice ao (carP t r).l.length cap) (carP t r).l ∧ Below w.heap.size w w' := by
  have HIR : Hid ((Tryz.prog.info? 32).map (·.size) = some 12) := infoRec
  have HX : Hid (∀ o1 o2, ((w.alloc o1).alloc o2).heap[w.heap.size]? = some o1 ∧ ((w.alloc o1).alloc o2).heap[w.heap.size + 1]? = some o2 ∧ Below w.heap.size w ((w.alloc o1).alloc o2) ∧ ((w.alloc o1).alloc o2).heap.size = w.heap.size + 2) := fun o1 o2 => ⟨(heap2 w o1 o2).1, (heap2 w o1 o2).2.1, (heap2 w o1 o2).2.2, by rw [heap_one, heap_one]⟩
  have HWK : Hid (∀ w', Below w.heap.size w w' → Lft.WaysT w') := fun w' hb => hW.kept hb
  have HWA : Hid (∀ w', Lft.WaysT w' → Calls Tryz.prog 51 #[.int .i64 r.x.v, .int .i64 t] w' fun e w'' => ∃ o, e = .returned o ∧ Lft.RoS w'.heap.size w'' o (Lft.go r.x.v t 4).2 ∧ Below w'.heap.size w' w'') := fun w' hw => Lft.walk_any r.x.v t w' hw
  have HBS : Hid (∀ w', Below w.heap.size w w' → Bs w' d r.l) := fun w' hb => h.kept hb
  have HOF : Hid (Off w.heap.size d r.l) := off_of h _ (Nat.le_refl _)
  have HOF1 : Hid (Off (w.heap.size + 1) d r.l) := off_of h _ (Nat.le_succ _)
  have HLT : Hid (∀ j ∈ (Lft.go r.x.v t 4).2, j < 4) := go_lt _ _ 4
  have HLN : Hid ((Lft.go r.x.v t 4).2.length ≤ 4) := Lft.go_len _ _ 4
  have HCP : Hid (carP t r = carL (Lft.go r.x.v t 4).2 r) := rfl
  have HSM : Hid r.small := hs
  rw [HCP.out]
  clear HCP hW hs
  obtain ⟨ao, cap, rfl, _⟩ := h.shape
  clear h
  generalize (Lft.go r.x.v t 4).2 = L at *
  obtain ⟨A, hA⟩ : ∃ A, carL L r = A := ⟨_, rfl⟩
  have HA : Hid (carL L r = A) := hA
  rw [hA]
  clear hA
  unfold rv at *
  go_enter Tryz.func27, Tryz.ntmps27
  go_wp2_with fail
  refine (HWA.out _ (HWK.out _ (HX.out _ _).2.2.1)).mono ?_
  rintro e w3 ⟨o3, rfl, hro, b3⟩
  obtain ⟨ao3, cap3, rfl⟩ := hro.shape
  have HI : Hid (Box w3 w.heap.size r.x r.nm (.slice ao r.l.length cap) ∧ Box w3 (w.heap.size + 1) zeroNums ⟨#[]⟩ (.slice none 0 0) ∧ Lft.RoS (w.heap.size + 2) w3 (.slice ao3 L.length cap3) L ∧ Below w.heap.size w w3) := ⟨Box.kept (HX.out _ _).1 b3, Box.kept (HX.out _ _).2.1 b3, by have := hro; rw [(HX.out _ _).2.2.2] at this; exact this, andThen (HX.out _ _).2.2.1 b3⟩
  clear hro b3 HX HWA HWK
  go_wp2
  go_loopw [12] (fun i wr => ∃ (k : Nat) (q : Rec) (aq : Option Addr) (cq : Nat), k ≤ L.length ∧ i = .int .i64 (k : Int) ∧ carL (L.drop k) q = A ∧ q.small ∧ Box wr w.heap.size q.x q.nm (.slice aq q.l.length cq) ∧ Bs wr (.slice aq q.l.length cq) q.l ∧ (Off w.heap.size (.slice aq q.l.length cq) q.l ∧ Off (w.heap.size + 1) (.slice aq q.l.length cq) q.l) ∧ Box wr (w.heap.size + 1) zeroNums ⟨#[]⟩ (.slice none 0 0) ∧ Lft.RoS (w.heap.size + 2) wr (.slice ao3 L.length cap3) L ∧ Below w.heap.size w wr) (fun i _ => L.length - (intOf i).toNat)
  case atStart => exact ⟨0, r, ao, cap, Nat.zero_le _, rfl, HA.out, HSM.out, HI.out.1, HBS.out _ HI.out.2.2.2, ⟨HOF.out, HOF1.out⟩, HI.out.2.1, HI.out.2.2.1, HI.out.2.2.2⟩
  case round =>
    obtain ⟨k, q, aq, cq, hk, rfl, hca, hsq, hbx, hbq, ⟨hof, hof1⟩, hbz, hros, hbel⟩ := hrel
    have HCA : Hid (carL (L.drop k) q = A) := hca
    have hln := HLN.out
    clear hca HI HBS HOF HOF1 HSM HA
    by_cases hlt : k < L.length
    · obtain ⟨gs, rfl, hc0, hc1⟩ := hros.cell k hlt
      have HNX : Hid (carL (L.drop (k + 1)) (deedP L[k] q) = A) := by
        show _ = _
        rw [← HCA.out, List.drop_eq_getElem_cons hlt]
        rfl
      have hj4 : L[k] < 4 := HLT.out _ (List.getElem_mem hlt)
      have HDD : Hid (∀ w', Below wr.heap.size wr w' → Calls Tryz.prog (82 + L[k]) #[rv q.x q.nm (.slice aq q.l.length cq)] w' fun e w'' => ∃ ao, ∃ cap : Nat, e = .returned (rv (deedP L[k] q).x (deedP L[k] q).nm (.slice ao (deedP L[k] q).l.length cap)) ∧ Bs w'' (.slice ao (deedP L[k] q).l.length cap) (deedP L[k] q).l ∧ (∀ g, g < w'.heap.size → Off g (.slice aq q.l.length cq) q.l → Off g (.slice ao (deedP L[k] q).l.length cap) (deedP L[k] q).l) ∧ Below w'.heap.size w' w'') := fun w' hb => deed_do L[k] hj4 q _ w' (hbq.kept hb) hsq
      have HSM : Hid (deedP L[k] q).small := deedP_small _ _ hsq
      have HKP : Hid (∀ w', Below wr.heap.size wr w' → Box w' w.heap.size q.x q.nm (.slice aq q.l.length cq) ∧ Box w' (w.heap.size + 1) zeroNums ⟨#[]⟩ (.slice none 0 0) ∧ Lft.RoS (w.heap.size + 2) w' (.slice (some ⟨gs, 0, none⟩) L.length cap3) L ∧ Below w.heap.size w w' ∧ w.heap.size < w'.heap.size) := fun w' hb => ⟨hbx.kept hb, hbz.kept hb, hros.kept hb, andThen hbel hb, Nat.lt_of_lt_of_le hbx.lt hb.size⟩
      have HX1 : Hid (∀ o, Below wr.heap.size wr (wr.alloc o)) := fun o => up0 wr o
      have c0 := fun o => (HKP.out _ (HX1.out o)).1.cells.1
      have c1 := fun o => (HKP.out _ (HX1.out o)).1.cells.2.1
      have c2 := fun o => (HKP.out _ (HX1.out o)).1.cells.2.2.1
      have c3 := fun o => (HKP.out _ (HX1.out o)).1.cells.2.2.2.1
      have c4 := fun o => (HKP.out _ (HX1.out o)).1.cells.2.2.2.2.1
      have c5 := fun o => (HKP.out _ (HX1.out o)).1.cells.2.2.2.2.2.1
      have c6 := fun o => (HKP.out _ (HX1.out o)).1.cells.2.2.2.2.2.2.1
      have c7 := fun o => (HKP.out _ (HX1.out o)).1.cells.2.2.2.2.2.2.2.1
      have c8 := fun o => (HKP.out _ (HX1.out o)).1.cells.2.2.2.2.2.2.2.2.1
      have c9 := fun o => (HKP.out _ (HX1.out o)).1.cells.2.2.2.2.2.2.2.2.2.1
      have c10 := fun o => (HKP.out _ (HX1.out o)).1.cells.2.2.2.2.2.2.2.2.2.2.1
      have c11 := fun o => (HKP.out _ (HX1.out o)).1.cells.2.2.2.2.2.2.2.2.2.2.2
      clear HCA hbx hbz hros hbel hbq hsq HLT
      generalize L[k] = jj at *
      generalize deedP jj q = Q at *
      generalize Lft.wN jj = wn at *
      unfold rv at HDD
      obtain rfl | rfl | rfl | rfl : jj = 0 ∨ jj = 1 ∨ jj = 2 ∨ jj = 3 := by omega
      all_goals
        clear hj4
        simp only [Nat.reduceAdd, Nat.add_zero] at HDD hc1
        go_wp2_with fail
        refine (HDD.out _ (HX1.out _)).mono ?_
        rintro e w5 ⟨ao5, cap5, rfl, hb5, ho5, b5⟩
        have B5 := andThen (HX1.out _) b5
        have hK5 := HKP.out _ B5
        have HO5 : Hid (Off w.heap.size (.slice ao5 Q.l.length cap5) Q.l) := ho5 _ (Nat.lt_of_lt_of_le (HKP.out wr (Below.refl _ _)).2.2.2.2 (HX1.out _).size) hof
        have HO6 : Hid (Off (w.heap.size + 1) (.slice ao5 Q.l.length cap5) Q.l) := ho5 _ (Nat.lt_of_lt_of_le (HKP.out wr (Below.refl _ _)).2.1.lt (HX1.out _).size) hof1
        obtain ⟨e0, e1, e2, e3, e4, e5, e6, e7, e8, e9, e10, e11⟩ := hK5.1.cells
        have f0 := hK5.1.free' 0
        have f1 := hK5.1.free' 1
        have f2 := hK5.1.free' 2
        have f3 := hK5.1.free' 3
        have f4 := hK5.1.free' 4
        have f5 := hK5.1.free' 5
        have f6 := hK5.1.free' 6
        have f7 := hK5.1.free' 7
        have f8 := hK5.1.free' 8
        have f9 := hK5.1.free' 9
        have f10 := hK5.1.free' 10
        have f11 := hK5.1.free' 11
        have HN5 : Hid (Box (w5.setCells w.heap.size 0 [.int .i64 Q.x.v, .int .i64 Q.x.k, .int .i64 Q.x.s, .int .i64 Q.x.p, .int .i64 Q.x.t, .int .i64 Q.x.a, .int .i64 Q.x.l, .int .i64 Q.x.c, .int .i64 Q.x.n, .int .i64 Q.x.i, .string Q.nm, .slice ao5 Q.l.length cap5]) w.heap.size Q.x Q.nm (.slice ao5 Q.l.length cap5) ∧ Bs (w5.setCells w.heap.size 0 [.int .i64 Q.x.v, .int .i64 Q.x.k, .int .i64 Q.x.s, .int .i64 Q.x.p, .int .i64 Q.x.t, .int .i64 Q.x.a, .int .i64 Q.x.l, .int .i64 Q.x.c, .int .i64 Q.x.n, .int .i64 Q.x.i, .string Q.nm, .slice ao5 Q.l.length cap5]) (.slice ao5 Q.l.length cap5) Q.l ∧ Box (w5.setCells w.heap.size 0 [.int .i64 Q.x.v, .int .i64 Q.x.k, .int .i64 Q.x.s, .int .i64 Q.x.p, .int .i64 Q.x.t, .int .i64 Q.x.a, .int .i64 Q.x.l, .int .i64 Q.x.c, .int .i64 Q.x.n, .int .i64 Q.x.i, .string Q.nm, .slice ao5 Q.l.length cap5]) (w.heap.size + 1) zeroNums ⟨#[]⟩ (.slice none 0 0) ∧ Lft.RoS (w.heap.size + 2) (w5.setCells w.heap.size 0 [.int .i64 Q.x.v, .int .i64 Q.x.k, .int .i64 Q.x.s, .int .i64 Q.x.p, .int .i64 Q.x.t, .int .i64 Q.x.a, .int .i64 Q.x.l, .int .i64 Q.x.c, .int .i64 Q.x.n, .int .i64 Q.x.i, .string Q.nm, .slice ao5 Q.l.length cap5]) (.slice (some ⟨gs, 0, none⟩) L.length cap3) L ∧ Below w.heap.size w (w5.setCells w.heap.size 0 [.int .i64 Q.x.v, .int .i64 Q.x.k, .int .i64 Q.x.s, .int .i64 Q.x.p, .int .i64 Q.x.t, .int .i64 Q.x.a, .int .i64 Q.x.l, .int .i64 Q.x.c, .int .i64 Q.x.n, .int .i64 Q.x.i, .string Q.nm, .slice ao5 Q.l.length cap5])) := ⟨box_cells hK5.1 _ _ _, bs_off hb5 _ _ _ HO5.out, box_cells_other hK5.2.1 _ _ (by omega), ros_cells hK5.2.2.1 _ _ _ (by omega), below_cells (Nat.le_refl _) _ _ _ hK5.2.2.2.1⟩
        clear c0 c1 c2 c3 c4 c5 c6 c7 c8 c9 c10 c11 hb5 ho5 hof hof1 b5 B5 hK5 HKP HX1 HDD hc0 hc1
        go_wp2
        go_roundw
        case rel => exact ⟨k + 1, Q, ao5, cap5, by omega, by go_num, HNX.out, HSM.out, HN5.out.1, HN5.out.2.1, ⟨HO5.out, HO6.out⟩, HN5.out.2.2.1, HN5.out.2.2.2.1, HN5.out.2.2.2.2⟩
        case measure => simp [intOf]; omega
    · have hE : q = A := by
        have := HCA.out
        rw [List.drop_eq_nil_of_le (by omega)] at this
        exact this
      subst hE
      have HTH : Hid (wr.there (w.heap.size + 1) 0 12) := hbz.there
      have HOF1 : Off (w.heap.size + 1) (.slice aq q.l.length cq) q.l := hof1
      have HF : Hid (Bs (wr.setCells (w.heap.size + 1) 0 [.int .i64 q.x.v, .int .i64 q.x.k, .int .i64 q.x.s, .int .i64 q.x.p, .int .i64 q.x.t, .int .i64 q.x.a, .int .i64 q.x.l, .int .i64 q.x.c, .int .i64 q.x.n, .int .i64 q.x.i, .string q.nm, .slice aq q.l.length cq]) (.slice aq q.l.length cq) q.l ∧ Below w.heap.size w (wr.setCells (w.heap.size + 1) 0 [.int .i64 q.x.v, .int .i64 q.x.k, .int .i64 q.x.s, .int .i64 q.x.p, .int .i64 q.x.t, .int .i64 q.x.a, .int .i64 q.x.l, .int .i64 q.x.c, .int .i64 q.x.n, .int .i64 q.x.i, .string q.nm, .slice aq q.l.length cq])) := ⟨bs_off hbq _ _ _ HOF1, below_cells (by omega) _ _ _ hbel⟩
      obtain ⟨c0, c1, c2, c3, c4, c5, c6, c7, c8, c9, c10, c11⟩ := hbx.cells
      obtain ⟨e0, e1, e2, e3, e4, e5, e6, e7, e8, e9, e10, e11⟩ := hbz.cells
      have f0 := hbz.free' 0
      have f1 := hbz.free' 1
      have f2 := hbz.free' 2
      have f3 := hbz.free' 3
      have f4 := hbz.free' 4
      have f5 := hbz.free' 5
      have f6 := hbz.free' 6
      have f7 := hbz.free' 7
      have f8 := hbz.free' 8
      have f9 := hbz.free' 9
      have f10 := hbz.free' 10
      have f11 := hbz.free' 11
      clear hbx hbz hbq hros hbel hof HOF1 HCA HLT HLN hln hof1
      go_wp2
      refine bodyPost_ret (results_cell_mid rfl _ (wr.setCells (w.heap.size + 1) 0 [.int .i64 q.x.v, .int .i64 q.x.k, .int .i64 q.x.s, .int .i64 q.x.p, .int .i64 q.x.t, .int .i64 q.x.a, .int .i64 q.x.l, .int .i64 q.x.c, .int .i64 q.x.n, .int .i64 q.x.i, .string q.nm, .slice aq q.l.length cq]) (w.heap.size + 1) [.int .i64 q.x.v, .int .i64 q.x.k, .int .i64 q.x.s, .int .i64 q.x.p, .int .i64 q.x.t, .int .i64 q.x.a, .int .i64 q.x.l, .int .i64 q.x.c, .int .i64 q.x.n, .int .i64 q.x.i, .string q.nm, .slice aq q.l.length cq] _ rfl (World.rangeAt_setCells_same _ _ _ _ HTH.out) Tryz.underlying32 rfl HIR.out) rfl ?_
      exact ⟨aq, cq, rfl, HF.out.1, HF.out.2⟩
end Go.Proofs.YtdnackjakfiffaaGreatDoor
