/-
  Package record: Check.
-/
import Derived.Test.YtioghecmnggehaaDoorRcC
import Derived.Deep.RegionHeld
namespace Go.Proofs.YtioghecmnggehaaDoor
open Go Go.RowKit
open Wb

/-- a record lies in block g -/
def Box (w : World) (g : Nat) (x : Nums) (nm : ByteArray) (d : Value) : Prop := w.heap[g]? = some (.cells #[.int .i64 x.v, .int .i64 x.k, .int .i64 x.s, .int .i64 x.p, .int .i64 x.t, .int .i64 x.a, .int .i64 x.l, .int .i64 x.c, .int .i64 x.n, .int .i64 x.i, .string nm, d] 24)
theorem Box.kept {w w' : World} {g : Nat} {x : Nums} {nm : ByteArray} {d : Value} (h : Box w g x nm d) (hb : Below w.heap.size w w') : Box w' g x nm d := (hb.block g (Array.getElem?_eq_some_iff.1 h).1).trans h
theorem Box.lt {w : World} {g : Nat} {x : Nums} {nm : ByteArray} {d : Value} (h : Box w g x nm d) : g < w.heap.size := (Array.getElem?_eq_some_iff.1 h).1
theorem Box.cells {w : World} {g : Nat} {x : Nums} {nm : ByteArray} {d : Value} (h : Box w g x nm d) : w.cell? ⟨g, 0, none⟩ = some (.int .i64 x.v) ∧ w.cell? ⟨g, 1, none⟩ = some (.int .i64 x.k) ∧ w.cell? ⟨g, 2, none⟩ = some (.int .i64 x.s) ∧ w.cell? ⟨g, 3, none⟩ = some (.int .i64 x.p) ∧ w.cell? ⟨g, 4, none⟩ = some (.int .i64 x.t) ∧ w.cell? ⟨g, 5, none⟩ = some (.int .i64 x.a) ∧ w.cell? ⟨g, 6, none⟩ = some (.int .i64 x.l) ∧ w.cell? ⟨g, 7, none⟩ = some (.int .i64 x.c) ∧ w.cell? ⟨g, 8, none⟩ = some (.int .i64 x.n) ∧ w.cell? ⟨g, 9, none⟩ = some (.int .i64 x.i) ∧ w.cell? ⟨g, 10, none⟩ = some (.string nm) ∧ w.cell? ⟨g, 11, none⟩ = some (d) := by
  unfold Box at h
  refine ⟨?_, ?_, ?_, ?_, ?_, ?_, ?_, ?_, ?_, ?_, ?_, ?_⟩ <;> simp [World.cell?, h]
/-- parts lie in block g -/
def PBox (w : World) (g : Nat) (x : Nums) (nm : ByteArray) (d : Value) : Prop := w.heap[g]? = some (.cells #[.int .i64 0, .int .i64 x.k, .int .i64 x.s, .int .i64 x.p, .int .i64 x.t, .int .i64 x.a, .int .i64 x.l, .int .i64 x.c, .int .i64 x.n, .int .i64 x.i, .string nm, d] 47)
theorem PBox.kept {w w' : World} {g : Nat} {x : Nums} {nm : ByteArray} {d : Value} (h : PBox w g x nm d) (hb : Below w.heap.size w w') : PBox w' g x nm d := (hb.block g (Array.getElem?_eq_some_iff.1 h).1).trans h
theorem PBox.lt {w : World} {g : Nat} {x : Nums} {nm : ByteArray} {d : Value} (h : PBox w g x nm d) : g < w.heap.size := (Array.getElem?_eq_some_iff.1 h).1
theorem PBox.cells {w : World} {g : Nat} {x : Nums} {nm : ByteArray} {d : Value} (h : PBox w g x nm d) : w.cell? ⟨g, 0, none⟩ = some (.int .i64 0) ∧ w.cell? ⟨g, 1, none⟩ = some (.int .i64 x.k) ∧ w.cell? ⟨g, 2, none⟩ = some (.int .i64 x.s) ∧ w.cell? ⟨g, 3, none⟩ = some (.int .i64 x.p) ∧ w.cell? ⟨g, 4, none⟩ = some (.int .i64 x.t) ∧ w.cell? ⟨g, 5, none⟩ = some (.int .i64 x.a) ∧ w.cell? ⟨g, 6, none⟩ = some (.int .i64 x.l) ∧ w.cell? ⟨g, 7, none⟩ = some (.int .i64 x.c) ∧ w.cell? ⟨g, 8, none⟩ = some (.int .i64 x.n) ∧ w.cell? ⟨g, 9, none⟩ = some (.int .i64 x.i) ∧ w.cell? ⟨g, 10, none⟩ = some (.string nm) ∧ w.cell? ⟨g, 11, none⟩ = some (d) := by
  unfold PBox at h
  refine ⟨?_, ?_, ?_, ?_, ?_, ?_, ?_, ?_, ?_, ?_, ?_, ?_⟩ <;> simp [World.cell?, h]

def ic (l : List Int) : List Value := l.map fun z => Value.int .i64 z
theorem ic_len (l : List Int) : (ic l).length = l.length := by simp [ic]
/-- the table of tags stands -/
def TagsT (w : World) : Prop := ∀ i j, i < 7 → j < 3 → w.rangeAt 0 (i * 21 + j * 7) (ic (tagR (i * 3 + j)))
theorem TagsT.kept {w w' : World} (h : TagsT w) (hb : Below w.heap.size w w') : TagsT w' := fun i j hi hj m v hv =>
  (hb.cell (p := ⟨0, i * 21 + j * 7 + m, none⟩) (World.block_lt_of_cell? _ _ (h i j hi hj m v hv))).trans (h i j hi hj m v hv)
theorem tagR_len : ∀ m, m < 21 → (tagR m).length = 7 := by decide +kernel
theorem chkN_succ (x : Nums) (nm : ByteArray) (l : List Nat) (n : Nat) : chkN x nm l (n + 1) = if tagE x nm l (11 - n) = 0 then chkN x nm l n else tagE x nm l (11 - n) := rfl
theorem seven (l : List Int) (h : l.length = 7) : ∃ a b c d e f g, l = [a, b, c, d, e, f, g] := by
  match l, h with
  | [a, b, c, d, e, f, g], _ => exact ⟨a, b, c, d, e, f, g, rfl⟩
set_option maxRecDepth 100000 in
set_option maxHeartbeats 4000000 in
theorem check_any (x : Nums) (nm : ByteArray) (d : Value) (l : List Nat) (w : World) (h : Bs w d l) (hT : Text.TabP 1 .i32 Text.Tx.lets w) (hG : TagsT w) (hnm : nm.size ≤ 140737488355000) :
    Calls Tryd.prog 11 #[rv x nm d] w fun e w' => e = .returned (.int .i64 (chk x nm l)) ∧ Below w.heap.size w w' := by
  have HX : Hid (∀ o, (w.alloc o).heap[w.heap.size]? = some o ∧ Below w.heap.size w (w.alloc o)) := fun o => ⟨Array.getElem?_push_size, up0 w o⟩
  have HB : Hid (∀ w', Below w.heap.size w w' → Bs w' d l) := fun w' hb => h.kept hb
  have HT : Hid (∀ w', Below w.heap.size w w' → Text.TabP 1 .i32 Text.Tx.lets w') := fun w' hb => hT.kept hb
  have HG : Hid (∀ w', Below w.heap.size w w' → TagsT w') := fun w' hb => hG.kept hb
  obtain ⟨ao, cap, rfl, _⟩ := h.shape
  clear h hT hG
  by_cases hv : 1 ≤ x.v ∧ x.v ≤ 3
  · have HV : Hid ((decide (1 ≤ x.v) && decide (x.v ≤ 3)) = true) := by show _ = _; simp [hv.1, hv.2]
    by_cases hk : 1 ≤ x.k ∧ x.k ≤ 7
    · have HK : Hid ((decide (1 ≤ x.k) && decide (x.k ≤ 7)) = true) := by show _ = _; simp [hk.1, hk.2]
      by_cases hs : x.s < 1
      · have HC : Hid (chk x nm l = 32) := by show _ = _; unfold chk; rw [if_neg (by simp [hv.1, hv.2]), if_neg (by simp [hk.1, hk.2]), if_pos hs]
        rw [HC.out]
        unfold rv
        go_enter Tryd.func11, Tryd.ntmps11
        go_wp2_with fail
        refine (isV_any x.v _).mono ?_
        rw [HV.out]
        rintro e w1 ⟨rfl, rfl⟩
        go_wp2_with fail
        refine (isK_any x.k _).mono ?_
        rw [HK.out]
        rintro e w2 ⟨rfl, rfl⟩
        go_wp2
        go_ret
        exact ⟨rfl, by go_grown⟩
      · have HC : Hid (chk x nm l = chkN x nm l 9) := by show _ = _; unfold chk; rw [if_neg (by simp [hv.1, hv.2]), if_neg (by simp [hk.1, hk.2]), if_neg hs]
        rw [HC.out]
        obtain ⟨A, hA⟩ : ∃ A, chkN x nm l 9 = A := ⟨_, rfl⟩
        have HA : Hid (chkN x nm l 9 = A) := hA
        rw [hA]
        clear hA
        have HROW : Hid (∀ w', Below w.heap.size w w' → w'.rangeAt 0 ((x.k.toNat - 1) * 21 + (x.v.toNat - 1) * 7) (ic x.row)) := fun w' hb => HG.out w' hb _ _ (by omega) (by omega)
        obtain ⟨r0, r1, r2, r3, r4, r5, r6, hr⟩ := seven x.row (tagR_len _ (by omega))
        have HRW : Hid (x.row = [r0, r1, r2, r3, r4, r5, r6]) := hr
        rw [hr] at HROW
        clear hr
        have HAP : Hid (∀ w', Calls Tryd.prog 25 #[rv x nm (.slice ao l.length cap)] w' fun e w'' => e = .returned (pv x nm (.slice ao l.length cap)) ∧ Below w'.heap.size w' w'') := fun w' => apart_any x nm ao l.length cap w'
        unfold rv pv at *
        go_enter Tryd.func11, Tryd.ntmps11
        go_wp2_with fail
        refine (isV_any x.v _).mono ?_
        rw [HV.out]
        rintro e w1 ⟨rfl, rfl⟩
        go_wp2_with fail
        refine (isK_any x.k _).mono ?_
        rw [HK.out]
        rintro e w2 ⟨rfl, rfl⟩
        go_wp2_with fail
        refine (HAP.out _).mono ?_
        rintro e w3 ⟨rfl, b3⟩
        have HW4 : Hid (Box (w3.alloc (.cells #[.int .i64 0, .int .i64 x.k, .int .i64 x.s, .int .i64 x.p, .int .i64 x.t, .int .i64 x.a, .int .i64 x.l, .int .i64 x.c, .int .i64 x.n, .int .i64 x.i, .string nm, .slice ao l.length cap] 47)) w.heap.size x nm (.slice ao l.length cap) ∧ PBox (w3.alloc (.cells #[.int .i64 0, .int .i64 x.k, .int .i64 x.s, .int .i64 x.p, .int .i64 x.t, .int .i64 x.a, .int .i64 x.l, .int .i64 x.c, .int .i64 x.n, .int .i64 x.i, .string nm, .slice ao l.length cap] 47)) w3.heap.size x nm (.slice ao l.length cap) ∧ Below w.heap.size w (w3.alloc (.cells #[.int .i64 0, .int .i64 x.k, .int .i64 x.s, .int .i64 x.p, .int .i64 x.t, .int .i64 x.a, .int .i64 x.l, .int .i64 x.c, .int .i64 x.n, .int .i64 x.i, .string nm, .slice ao l.length cap] 47)) ∧ w.heap.size < w3.heap.size) :=
          ⟨Box.kept (Box.kept (HX.out _).1 b3) (up0 _ _), Array.getElem?_push_size, up (andThen (HX.out _).2 b3) _, Nat.lt_of_lt_of_le (Array.getElem?_eq_some_iff.1 (HX.out _).1).1 b3.size⟩
        clear b3 HX HAP
        go_wp2
        have HW4' := HW4.out
        clear HW4
        generalize w3.alloc (.cells #[.int .i64 0, .int .i64 x.k, .int .i64 x.s, .int .i64 x.p, .int .i64 x.t, .int .i64 x.a, .int .i64 x.l, .int .i64 x.c, .int .i64 x.n, .int .i64 x.i, .string nm, .slice ao l.length cap] 47) = W4 at HW4' ⊢
        generalize w3.heap.size = g4 at HW4' ⊢
        obtain ⟨hx1, hx2, hbw, hg4⟩ := HW4'
        have HBX : Hid (∀ w', Below W4.heap.size W4 w' → Box w' w.heap.size x nm (.slice ao l.length cap) ∧ PBox w' g4 x nm (.slice ao l.length cap) ∧ Below w.heap.size w w') := fun w' hb => ⟨hx1.kept hb, hx2.kept hb, andThen hbw hb⟩
        have HR4 : Hid (∀ w', Below W4.heap.size W4 w' → w'.rangeAt 0 ((x.k.toNat - 1) * 21 + (x.v.toNat - 1) * 7) (ic [r0, r1, r2, r3, r4, r5, r6])) := fun w' hb => HROW.out _ (andThen hbw hb)
        have i1 : IntKind.i64.wrap (x.k - 1) = x.k - 1 := IntWalk.i64_in _ (by omega)
        have i2 : IntKind.i64.wrap (x.v - 1) = x.v - 1 := IntWalk.i64_in _ (by omega)
        have i3 : 0 ≤ x.k - 1 ∧ x.k - 1 < 7 := by omega
        have i4 : 0 ≤ x.v - 1 ∧ x.v - 1 < 3 := by omega
        have HCE : Hid (∀ w', Below W4.heap.size W4 w' → (w'.cell? ⟨w.heap.size, 0, none⟩ = some (.int .i64 x.v) ∧ w'.cell? ⟨w.heap.size, 1, none⟩ = some (.int .i64 x.k)) ∧ w'.cell? ⟨0, (x.k.toNat - 1) * 21 + (x.v.toNat - 1) * 7, none⟩ = some (.int .i64 r0) ∧ w'.cell? ⟨0, (x.k.toNat - 1) * 21 + (x.v.toNat - 1) * 7 + 1, none⟩ = some (.int .i64 r1) ∧ w'.cell? ⟨0, (x.k.toNat - 1) * 21 + (x.v.toNat - 1) * 7 + 2, none⟩ = some (.int .i64 r2) ∧ w'.cell? ⟨0, (x.k.toNat - 1) * 21 + (x.v.toNat - 1) * 7 + 3, none⟩ = some (.int .i64 r3) ∧ w'.cell? ⟨0, (x.k.toNat - 1) * 21 + (x.v.toNat - 1) * 7 + 4, none⟩ = some (.int .i64 r4) ∧ w'.cell? ⟨0, (x.k.toNat - 1) * 21 + (x.v.toNat - 1) * 7 + 5, none⟩ = some (.int .i64 r5) ∧ w'.cell? ⟨0, (x.k.toNat - 1) * 21 + (x.v.toNat - 1) * 7 + 6, none⟩ = some (.int .i64 r6)) := fun w' hb => ⟨⟨(HBX.out _ hb).1.cells.1, (HBX.out _ hb).1.cells.2.1⟩, ⟨by have h := HR4.out _ hb 0 (.int .i64 r0) rfl; exact h, by have h := HR4.out _ hb 1 (.int .i64 r1) rfl; exact h, by have h := HR4.out _ hb 2 (.int .i64 r2) rfl; exact h, by have h := HR4.out _ hb 3 (.int .i64 r3) rfl; exact h, by have h := HR4.out _ hb 4 (.int .i64 r4) rfl; exact h, by have h := HR4.out _ hb 5 (.int .i64 r5) rfl; exact h, by have h := HR4.out _ hb 6 (.int .i64 r6) rfl; exact h⟩⟩
        clear hx1 hx2 hbw HROW
        go_region_held (fun w' => (w'.cell? ⟨w.heap.size, 0, none⟩ = some (.int .i64 x.v) ∧ w'.cell? ⟨w.heap.size, 1, none⟩ = some (.int .i64 x.k)) ∧ w'.cell? ⟨0, (x.k.toNat - 1) * 21 + (x.v.toNat - 1) * 7, none⟩ = some (.int .i64 r0) ∧ w'.cell? ⟨0, (x.k.toNat - 1) * 21 + (x.v.toNat - 1) * 7 + 1, none⟩ = some (.int .i64 r1) ∧ w'.cell? ⟨0, (x.k.toNat - 1) * 21 + (x.v.toNat - 1) * 7 + 2, none⟩ = some (.int .i64 r2) ∧ w'.cell? ⟨0, (x.k.toNat - 1) * 21 + (x.v.toNat - 1) * 7 + 3, none⟩ = some (.int .i64 r3) ∧ w'.cell? ⟨0, (x.k.toNat - 1) * 21 + (x.v.toNat - 1) * 7 + 4, none⟩ = some (.int .i64 r4) ∧ w'.cell? ⟨0, (x.k.toNat - 1) * 21 + (x.v.toNat - 1) * 7 + 5, none⟩ = some (.int .i64 r5) ∧ w'.cell? ⟨0, (x.k.toNat - 1) * 21 + (x.v.toNat - 1) * 7 + 6, none⟩ = some (.int .i64 r6)) (exact HCE.out _ (by repeat (first | assumption | exact Below.refl _ _ | refine Below.drew ?_ | refine up ?_ _ | refine Below.setCell ?_ (by go_size) _))) (fail)
        have HW5 : Hid (Below W4.heap.size W4 (W4.alloc (.cells #[.int .i64 r0, .int .i64 r1, .int .i64 r2, .int .i64 r3, .int .i64 r4, .int .i64 r5, .int .i64 r6] 52)).drew ∧ (W4.alloc (.cells #[.int .i64 r0, .int .i64 r1, .int .i64 r2, .int .i64 r3, .int .i64 r4, .int .i64 r5, .int .i64 r6] 52)).drew.heap[W4.heap.size]? = some (.cells #[.int .i64 r0, .int .i64 r1, .int .i64 r2, .int .i64 r3, .int .i64 r4, .int .i64 r5, .int .i64 r6] 52)) := ⟨Below.drew (up0 _ _), Array.getElem?_push_size⟩
        clear HCE HR4 i1 i2 i3 i4
        go_wp2
        have HW5' := HW5.out
        clear HW5
        generalize (W4.alloc (.cells #[.int .i64 r0, .int .i64 r1, .int .i64 r2, .int .i64 r3, .int .i64 r4, .int .i64 r5, .int .i64 r6] 52)).drew = W5 at HW5' ⊢
        generalize W4.heap.size = g5 at HW5' HBX ⊢
        obtain ⟨hb5, hr5⟩ := HW5'
        have HB5 : Hid (∀ w', Below W5.heap.size W5 w' → (Box w' w.heap.size x nm (.slice ao l.length cap) ∧ PBox w' g4 x nm (.slice ao l.length cap)) ∧ SlI w' (.slice (some ⟨g5, 0, none⟩) 7 7) [r0, r1, r2, r3, r4, r5, r6] ∧ Below w.heap.size w w') := fun w' hb => by
          have h1 := HBX.out W5 hb5
          have h2 : w'.heap[g5]? = some (.cells #[.int .i64 r0, .int .i64 r1, .int .i64 r2, .int .i64 r3, .int .i64 r4, .int .i64 r5, .int .i64 r6] 52) := (hb.block g5 (Array.getElem?_eq_some_iff.1 hr5).1).trans hr5
          refine ⟨⟨h1.1.kept hb, h1.2.1.kept hb⟩, ⟨g5, 0, 7, rfl, fun j hj => ?_⟩, andThen h1.2.2 hb⟩
          rw [Nat.zero_add]
          match j, hj with
          | 0, _ => exact cell_of h2 rfl
          | 1, _ => exact cell_of h2 rfl
          | 2, _ => exact cell_of h2 rfl
          | 3, _ => exact cell_of h2 rfl
          | 4, _ => exact cell_of h2 rfl
          | 5, _ => exact cell_of h2 rfl
          | 6, _ => exact cell_of h2 rfl
        have HCF : Hid (∀ (t : Nat) w', Below W5.heap.size W5 w' → 3 ≤ t → t ≤ 11 → Calls Tryd.prog 27 #[rv x nm (.slice ao l.length cap), pv x nm (.slice ao l.length cap), .int .i64 (t : Int)] w' fun e w'' => e = .returned (.int .i64 (fldE x nm l t)) ∧ Below W5.heap.size W5 w'') := fun t w' hb h1 h2 => (cfield_any x nm (.slice ao l.length cap) l t w' (HB.out _ (HB5.out _ hb).2.2) (HT.out _ (HB5.out _ hb).2.2) hnm h1 h2).mono fun e w'' ⟨he, hk⟩ => ⟨he, andThen hb hk⟩
        have HIZ : Hid (∀ (t : Nat) w', Below W5.heap.size W5 w' → 1 ≤ t → t ≤ 11 → Calls Tryd.prog 28 #[pv x nm (.slice ao l.length cap), .int .i64 (t : Int)] w' fun e w'' => e = .returned (.bool (zeroT x nm l.length t)) ∧ Below W5.heap.size W5 w'') := fun t w' hb h1 h2 => (isZero_any x nm ao l.length cap t w' h1 h2).mono fun e w'' ⟨he, hk⟩ => ⟨he, andThen hb hk⟩
        clear hb5 hr5 HBX HB HT
        unfold rv pv at *
        go_loopw [5] (fun i wr => ∃ k : Nat, 3 ≤ k ∧ k ≤ 12 ∧ i = .int .i64 (k : Int) ∧ chkN x nm l (12 - k) = A ∧ Below W5.heap.size W5 wr) (fun i _ => 12 - (intOf i).toNat)
        case atStart => exact ⟨3, by omega, by omega, rfl, HA.out, Below.refl _ _⟩
        case round =>
          obtain ⟨k, hk3, hk12, rfl, hak, hbel⟩ := hrel
          have HAK : Hid (chkN x nm l (12 - k) = A) := hak
          clear hak
          by_cases hlt : k ≤ 11
          · have HST : Hid ((if tagE x nm l k = 0 then chkN x nm l (12 - (k + 1)) else tagE x nm l k) = A) := by
              show _ = _
              rw [← HAK.out, show 12 - k = (11 - k) + 1 by omega]
              rw [chkN_succ, show 11 - (11 - k) = k by omega, show 12 - (k + 1) = 11 - k by omega]
            have HTG : Hid (tagE x nm l k = if [r0, r1, r2, r3, r4, r5, r6].contains (k : Int) then fldE x nm l k else if zeroT x nm l.length k then 0 else 33) := by show _ = _; unfold tagE; rw [HRW.out]
            obtain ⟨c0, c1, c2, c3, c4, c5, c6, c7, c8, c9, c10, c11⟩ := (HB5.out _ hbel).1.1.cells
            obtain ⟨e0, e1, e2, e3, e4, e5, e6, e7, e8, e9, e10, e11⟩ := (HB5.out _ hbel).1.2.cells
            have HCO : Hid (Calls Tryd.prog 26 #[.slice (some ⟨g5, 0, none⟩) 7 7, .int .i64 (k : Int)] wr fun e w' => e = .returned (.bool ([r0, r1, r2, r3, r4, r5, r6].contains (k : Int))) ∧ w' = wr) := contains_any [r0, r1, r2, r3, r4, r5, r6] (k : Int) _ wr (HB5.out _ hbel).2.1 (by simp)
            have HCF1 : Hid (Calls Tryd.prog 27 #[.agg #[.int .i64 x.v, .int .i64 x.k, .int .i64 x.s, .int .i64 x.p, .int .i64 x.t, .int .i64 x.a, .int .i64 x.l, .int .i64 x.c, .int .i64 x.n, .int .i64 x.i, .string nm, .slice ao l.length cap], .agg #[.int .i64 0, .int .i64 x.k, .int .i64 x.s, .int .i64 x.p, .int .i64 x.t, .int .i64 x.a, .int .i64 x.l, .int .i64 x.c, .int .i64 x.n, .int .i64 x.i, .string nm, .slice ao l.length cap], .int .i64 (k : Int)] wr fun e w'' => e = .returned (.int .i64 (fldE x nm l k)) ∧ Below W5.heap.size W5 w'') := HCF.out k wr hbel hk3 hlt
            have HIZ1 : Hid (Calls Tryd.prog 28 #[.agg #[.int .i64 0, .int .i64 x.k, .int .i64 x.s, .int .i64 x.p, .int .i64 x.t, .int .i64 x.a, .int .i64 x.l, .int .i64 x.c, .int .i64 x.n, .int .i64 x.i, .string nm, .slice ao l.length cap], .int .i64 (k : Int)] wr fun e w'' => e = .returned (.bool (zeroT x nm l.length k)) ∧ Below W5.heap.size W5 w'') := HIZ.out k wr hbel (by omega) hlt
            clear HAK HCF HIZ
            cases hcon : [r0, r1, r2, r3, r4, r5, r6].contains (k : Int) with
            | true =>
              rw [hcon] at HCO HTG
              clear hcon HIZ1
              by_cases hf : fldE x nm l k = 0
              · have HN : Hid (chkN x nm l (12 - (k + 1)) = A) := by
                  show _ = _
                  rw [← HST.out, if_pos (by rw [HTG.out]; simpa using hf)]
                rw [hf] at HCF1
                clear HST HTG hf
                go_wp2_with fail
                refine HCO.out.mono ?_
                rintro e w6 ⟨rfl, rfl⟩
                go_wp2_with fail
                refine HCF1.out.mono ?_
                rintro e w7 ⟨rfl, b7⟩
                clear c0 c1 c2 c3 c4 c5 c6 c7 c8 c9 c10 c11 e0 e1 e2 e3 e4 e5 e6 e7 e8 e9 e10 e11 HCO HCF1
                go_wp2
                go_roundw
                case rel => exact ⟨k + 1, by omega, by omega, by go_num, HN.out, b7⟩
                case measure => simp [intOf]; omega
              · have HN : Hid (fldE x nm l k = A) := by
                  show _ = _
                  rw [← HST.out, if_neg (by rw [HTG.out]; simpa using hf), HTG.out]
                  rfl
                have d1 : (fldE x nm l k != 0) = true := by rw [bne_iff_ne]; exact hf
                clear HST HTG hf
                generalize fldE x nm l k = z at *
                go_wp2_with fail
                refine HCO.out.mono ?_
                rintro e w6 ⟨rfl, rfl⟩
                go_wp2_with fail
                refine HCF1.out.mono ?_
                rintro e w7 ⟨rfl, b7⟩
                clear c0 c1 c2 c3 c4 c5 c6 c7 c8 c9 c10 c11 e0 e1 e2 e3 e4 e5 e6 e7 e8 e9 e10 e11 HCO HCF1
                go_wp2
                go_ret
                exact ⟨by rw [← HN.out]; rfl, (HB5.out _ b7).2.2⟩
            | false =>
              rw [hcon] at HCO HTG
              clear hcon HCF1
              cases hz : zeroT x nm l.length k with
              | true =>
                have HN : Hid (chkN x nm l (12 - (k + 1)) = A) := by
                  show _ = _
                  rw [← HST.out, if_pos (by rw [HTG.out, hz]; rfl)]
                rw [hz] at HIZ1
                clear HST HTG hz
                go_wp2_with fail
                refine HCO.out.mono ?_
                rintro e w6 ⟨rfl, rfl⟩
                go_wp2_with fail
                refine HIZ1.out.mono ?_
                rintro e w7 ⟨rfl, b7⟩
                clear c0 c1 c2 c3 c4 c5 c6 c7 c8 c9 c10 c11 e0 e1 e2 e3 e4 e5 e6 e7 e8 e9 e10 e11 HCO HIZ1
                go_wp2
                go_roundw
                case rel => exact ⟨k + 1, by omega, by omega, by go_num, HN.out, b7⟩
                case measure => simp [intOf]; omega
              | false =>
                have HN : Hid (33 = A) := by
                  show _ = _
                  rw [← HST.out, if_neg (by rw [HTG.out, hz]; simp), HTG.out, hz]
                  rfl
                rw [hz] at HIZ1
                clear HST HTG hz
                go_wp2_with fail
                refine HCO.out.mono ?_
                rintro e w6 ⟨rfl, rfl⟩
                go_wp2_with fail
                refine HIZ1.out.mono ?_
                rintro e w7 ⟨rfl, b7⟩
                clear c0 c1 c2 c3 c4 c5 c6 c7 c8 c9 c10 c11 e0 e1 e2 e3 e4 e5 e6 e7 e8 e9 e10 e11 HCO HIZ1
                go_wp2
                go_ret
                exact ⟨by rw [← HN.out]; rfl, (HB5.out _ b7).2.2⟩
          · obtain rfl : k = 12 := by omega
            have HN : Hid (0 = A) := HAK.out
            clear HAK
            go_wp2
            go_ret
            exact ⟨by rw [← HN.out]; rfl, (HB5.out _ hbel).2.2⟩
    · have HK : Hid ((decide (1 ≤ x.k) && decide (x.k ≤ 7)) = false) := by
        show _ = _
        rw [Bool.and_eq_false_iff]
        by_cases h1 : 1 ≤ x.k
        · right; rw [decide_eq_false]; omega
        · left; rw [decide_eq_false]; omega
      have HC : Hid (chk x nm l = 31) := by show _ = _; unfold chk; rw [if_neg (by simp [hv.1, hv.2]), if_pos hk]
      rw [HC.out]
      unfold rv
      go_enter Tryd.func11, Tryd.ntmps11
      go_wp2_with fail
      refine (isV_any x.v _).mono ?_
      rw [HV.out]
      rintro e w1 ⟨rfl, rfl⟩
      go_wp2_with fail
      refine (isK_any x.k _).mono ?_
      rw [HK.out]
      rintro e w2 ⟨rfl, rfl⟩
      go_wp2
      go_ret
      exact ⟨rfl, by go_grown⟩
  · have HV : Hid ((decide (1 ≤ x.v) && decide (x.v ≤ 3)) = false) := by
      show _ = _
      rw [Bool.and_eq_false_iff]
      by_cases h1 : 1 ≤ x.v
      · right; rw [decide_eq_false]; omega
      · left; rw [decide_eq_false]; omega
    have HC : Hid (chk x nm l = 3) := by show _ = _; unfold chk; rw [if_pos hv]
    rw [HC.out]
    unfold rv
    go_enter Tryd.func11, Tryd.ntmps11
    go_wp2_with fail
    refine (isV_any x.v _).mono ?_
    rw [HV.out]
    rintro e w1 ⟨rfl, rfl⟩
    go_wp2
    go_ret
    exact ⟨rfl, by go_grown⟩
end Go.Proofs.YtioghecmnggehaaDoor
