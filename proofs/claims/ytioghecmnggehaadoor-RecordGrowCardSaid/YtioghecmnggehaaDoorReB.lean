/-
  Package record: value, the other tags.
-/
import Derived.Test.YtioghecmnggehaaDoorReA
namespace Go.Proofs.YtioghecmnggehaaDoor
open Go Go.RowKit
open Wb

/-- the bytes of a text, made anew -/
theorem bs_of_string (w : World) (s : ByteArray) (hs : s.size ≤ maxLen) (g : Nat) (hg : g = w.heap.size) (fr : Nat × Nat) : Bs (w.drew.alloc (.cells (bytesRow s (grownCap w s.size 0 5)) 5 fr)) (.slice (some ⟨g, 0, none⟩) s.size (grownCap w s.size 0 5)) (nbs s) := by
  subst hg
  refine ⟨⟨some ⟨w.heap.size, 0, none⟩, grownCap w s.size 0 5, by rw [nbs_len], by rw [nbs_len]; exact grownCap_ge _ _ _ _, grownCap_le_maxLen _ _ _ _ hs, (fun e => nomatch e), fun _ => ⟨w.heap.size, 0, rfl, fun j hj => ?_⟩⟩, nbs_ok s⟩
  rw [Nat.zero_add]
  have hj' : j < s.data.size := by rw [nbs_len] at hj; exact hj
  have e : (w.drew.alloc (.cells (bytesRow s (grownCap w s.size 0 5)) 5 fr)).cell? ⟨w.heap.size, j, none⟩ = (bytesRow s (grownCap w s.size 0 5))[j]? := by
    have h : (w.drew.alloc (.cells (bytesRow s (grownCap w s.size 0 5)) 5 fr)).heap[w.heap.size]? = some (.cells (bytesRow s (grownCap w s.size 0 5)) 5 fr) := Array.getElem?_push_size
    unfold World.cell?
    simp only [h]
    rfl
  rw [e, bytesRow_at s _ j hj']
  simp [nbs]
set_option maxRecDepth 100000 in
set_option maxHeartbeats 1000000 in
theorem value_seven (x : Nums) (nm : ByteArray) (ao : Option Addr) (n cap : Nat) (l : List Nat) (w : World) (h0 : -9223372036854775808 ≤ x.c) (h1 : x.c ≤ 9223372036854775807) :
    Calls Tryd.prog 30 #[pv x nm (.slice ao n cap), .int .i64 ((7 : Nat) : Int)] w fun e w' => ∃ v', e = .returned v' ∧ Own w.heap.size w' v' (valB x nm l 7) ∧ Below w.heap.size w w' := by
  have HX : Hid (∀ o, Below w.heap.size w (w.alloc o) ∧ w.heap.size ≤ (w.alloc o).heap.size) := fun o => ⟨up0 w o, (up0 w o).size⟩
  have HU : Hid (∀ w', Calls Tryd.prog 39 #[.int .i64 x.c] w' fun e w'' => ∃ v', e = .returned v' ∧ Own w'.heap.size w'' v' (Wn.uint (zz x.c)) ∧ Below w'.heap.size w' w'') := fun w' => int_any x.c w' h0 h1
  have HV : Hid (valB x nm l 7 = Wn.uint (zz x.c)) := rfl
  rw [HV.out]
  generalize Wn.uint (zz x.c) = V at *
  unfold pv
  clear HV
  go_enter Tryd.func30, Tryd.ntmps30
  go_wp2_with fail
  refine (HU.out _).mono ?_
  rintro e w1 ⟨v1, rfl, ho, hb⟩
  obtain ⟨ao1, cap1, rfl, _⟩ := ho.bs.shape
  have HO : Hid (Own w.heap.size w1 (.slice ao1 V.length cap1) V ∧ Below w.heap.size w w1) := ⟨ho.mono (HX.out _).2, andThen (HX.out _).1 hb⟩
  clear ho hb
  go_wp2
  go_ret
  exact ⟨_, rfl, HO.out.1, HO.out.2⟩
set_option maxRecDepth 100000 in
set_option maxHeartbeats 1000000 in
theorem value_data (x : Nums) (nm : ByteArray) (d : Value) (l : List Nat) (w : World) (h : Bs w d l) (hlen : l.length ≤ 140737488355000) :
    Calls Tryd.prog 30 #[pv x nm d, .int .i64 ((11 : Nat) : Int)] w fun e w' => ∃ v', e = .returned v' ∧ Own w.heap.size w' v' (valB x nm l 11) ∧ Below w.heap.size w w' := by
  have HX : Hid (∀ o, Below w.heap.size w (w.alloc o) ∧ w.heap.size ≤ (w.alloc o).heap.size) := fun o => ⟨up0 w o, (up0 w o).size⟩
  have HU : Hid (∀ w', Below w.heap.size w w' → Calls Tryd.prog 40 #[d] w' fun e w'' => ∃ v', e = .returned v' ∧ Own w'.heap.size w'' v' (Wn.uint l.length ++ l) ∧ Below w'.heap.size w' w'') := fun w' hb => bytes_any d l w' (h.kept hb) hlen
  have HV : Hid (valB x nm l 11 = Wn.uint l.length ++ l) := rfl
  rw [HV.out]
  obtain ⟨ao, cap, rfl, _⟩ := h.shape
  clear h
  generalize Wn.uint l.length ++ l = V at *
  unfold pv
  clear HV
  go_enter Tryd.func30, Tryd.ntmps30
  go_wp2_with fail
  refine (HU.out _ (HX.out _).1).mono ?_
  rintro e w1 ⟨v1, rfl, ho, hb⟩
  obtain ⟨ao1, cap1, rfl, _⟩ := ho.bs.shape
  have HO : Hid (Own w.heap.size w1 (.slice ao1 V.length cap1) V ∧ Below w.heap.size w w1) := ⟨ho.mono (HX.out _).2, andThen (HX.out _).1 hb⟩
  clear ho hb
  go_wp2
  go_ret
  exact ⟨_, rfl, HO.out.1, HO.out.2⟩
set_option maxRecDepth 100000 in
set_option maxHeartbeats 1000000 in
theorem value_name (x : Nums) (nm : ByteArray) (ao : Option Addr) (n cap : Nat) (l : List Nat) (w : World) (hs : nm.size ≤ 1000000) :
    Calls Tryd.prog 30 #[pv x nm (.slice ao n cap), .int .i64 ((10 : Nat) : Int)] w fun e w' => ∃ v', e = .returned v' ∧ Own w.heap.size w' v' (valB x nm l 10) ∧ Below w.heap.size w w' := by
  have HX : Hid (∀ o, Below w.heap.size w (w.alloc o) ∧ w.heap.size ≤ (w.alloc o).heap.size) := fun o => ⟨up0 w o, (up0 w o).size⟩
  have HU : Hid (∀ d w', Bs w' d (nbs nm) → Calls Tryd.prog 40 #[d] w' fun e w'' => ∃ v', e = .returned v' ∧ Own w'.heap.size w'' v' (Wn.uint (nbs nm).length ++ nbs nm) ∧ Below w'.heap.size w' w'') := fun d w' hb => bytes_any d (nbs nm) w' hb (by rw [nbs_len]; omega)
  have HC : Hid (∀ w' : World, (convert 9 22 (.string nm)).run Tryd.prog w' = .ok (.slice (some ⟨w'.heap.size, 0, none⟩) nm.size (grownCap w' nm.size 0 5)) (w'.drew.alloc (.cells (bytesRow nm (grownCap w' nm.size 0 5)) 5 ((bytesRow nm (grownCap w' nm.size 0 5)).size, (bytesRow nm (grownCap w' nm.size 0 5)).size + 1)))) := fun w' => run_bytes_of_string w' 9 22 5 nm Tryd.underlying9 Tryd.underlying22 Tryd.underlying5
  have HB : Hid (∀ (w' : World) g fr, g = w'.heap.size → Bs (w'.drew.alloc (.cells (bytesRow nm (grownCap w' nm.size 0 5)) 5 fr)) (.slice (some ⟨g, 0, none⟩) nm.size (grownCap w' nm.size 0 5)) (nbs nm)) := fun w' g fr hg => bs_of_string w' nm (by unfold maxLen; omega) g hg fr
  have hc := HC.out
  have HV : Hid (valB x nm l 10 = Wn.uint (nbs nm).length ++ nbs nm) := rfl
  rw [HV.out]
  generalize Wn.uint (nbs nm).length ++ nbs nm = V at *
  unfold pv
  clear HV HC
  go_enter Tryd.func30, Tryd.ntmps30
  go_wp2_with fail
  have HW := HX.out (.cells #[.int .i64 0, .int .i64 x.k, .int .i64 x.s, .int .i64 x.p, .int .i64 x.t, .int .i64 x.a, .int .i64 x.l, .int .i64 x.c, .int .i64 x.n, .int .i64 x.i, .string nm, .slice ao n cap] 47)
  have HSZ : w.heap.size + 1 = (w.alloc (.cells #[.int .i64 0, .int .i64 x.k, .int .i64 x.s, .int .i64 x.p, .int .i64 x.t, .int .i64 x.a, .int .i64 x.l, .int .i64 x.c, .int .i64 x.n, .int .i64 x.i, .string nm, .slice ao n cap] 47)).heap.size := by
    show _ = (w.heap.push _).size
    rw [Array.size_push]
  clear hc
  generalize w.alloc (.cells #[.int .i64 0, .int .i64 x.k, .int .i64 x.s, .int .i64 x.p, .int .i64 x.t, .int .i64 x.a, .int .i64 x.l, .int .i64 x.c, .int .i64 x.n, .int .i64 x.i, .string nm, .slice ao n cap] 47) = W at *
  refine (HU.out _ _ (HB.out W _ _ HSZ)).mono ?_
  rintro e w1 ⟨v1, rfl, ho, hb⟩
  obtain ⟨ao1, cap1, rfl, _⟩ := ho.bs.shape
  have hb' : Below W.heap.size W w1 := andThen (up (Below.drew (Below.refl _ W)) _) hb
  have HO : Hid (Own w.heap.size w1 (.slice ao1 V.length cap1) V ∧ Below w.heap.size w w1) := ⟨ho.mono (Nat.le_trans HW.2 (up (Below.drew (Below.refl _ W)) _).size), andThen HW.1 hb'⟩
  clear ho hb hb'
  go_wp2
  go_ret
  exact ⟨_, rfl, HO.out.1, HO.out.2⟩
/-- a record's numbers that are written as they are -/
def Nums.nice (x : Nums) : Prop := (∀ t, 1 ≤ t → t ≤ 9 → t ≠ 7 → 0 ≤ x.tag t ∧ x.tag t ≤ 9223372036854775807) ∧ -9223372036854775808 ≤ x.c ∧ x.c ≤ 9223372036854775807
theorem value_any (x : Nums) (nm : ByteArray) (d : Value) (l : List Nat) (t : Nat) (w : World) (h : Bs w d l) (hlen : l.length ≤ 140737488355000) (hs : nm.size ≤ 1000000) (hx : x.nice) (h1 : 1 ≤ t) (h2 : t ≤ 11) :
    Calls Tryd.prog 30 #[pv x nm d, .int .i64 (t : Int)] w fun e w' => ∃ v', e = .returned v' ∧ Own w.heap.size w' v' (valB x nm l t) ∧ Below w.heap.size w w' := by
  by_cases h11 : t = 11
  · subst h11
    exact value_data x nm d l w h hlen
  · obtain ⟨ao, cap, rfl, _⟩ := h.shape
    obtain rfl | rfl | rfl | rfl | rfl | rfl | rfl | rfl | rfl | rfl : t = 1 ∨ t = 2 ∨ t = 3 ∨ t = 4 ∨ t = 5 ∨ t = 6 ∨ t = 7 ∨ t = 8 ∨ t = 9 ∨ t = 10 := by omega
    · exact value_n1 x nm ao _ cap l w (hx.1 1 (by omega) (by omega) (by omega)).1 (hx.1 1 (by omega) (by omega) (by omega)).2
    · exact value_n2 x nm ao _ cap l w (hx.1 2 (by omega) (by omega) (by omega)).1 (hx.1 2 (by omega) (by omega) (by omega)).2
    · exact value_n3 x nm ao _ cap l w (hx.1 3 (by omega) (by omega) (by omega)).1 (hx.1 3 (by omega) (by omega) (by omega)).2
    · exact value_n4 x nm ao _ cap l w (hx.1 4 (by omega) (by omega) (by omega)).1 (hx.1 4 (by omega) (by omega) (by omega)).2
    · exact value_n5 x nm ao _ cap l w (hx.1 5 (by omega) (by omega) (by omega)).1 (hx.1 5 (by omega) (by omega) (by omega)).2
    · exact value_n6 x nm ao _ cap l w (hx.1 6 (by omega) (by omega) (by omega)).1 (hx.1 6 (by omega) (by omega) (by omega)).2
    · exact value_seven x nm ao _ cap l w hx.2.1 hx.2.2
    · exact value_n8 x nm ao _ cap l w (hx.1 8 (by omega) (by omega) (by omega)).1 (hx.1 8 (by omega) (by omega) (by omega)).2
    · exact value_n9 x nm ao _ cap l w (hx.1 9 (by omega) (by omega) (by omega)).1 (hx.1 9 (by omega) (by omega) (by omega)).2
    · exact value_name x nm ao _ cap l w hs
end Go.Proofs.YtioghecmnggehaaDoor
