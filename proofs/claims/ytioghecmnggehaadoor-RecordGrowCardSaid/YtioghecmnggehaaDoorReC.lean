/-
  Package record: Encode, Size.
-/
import Derived.Test.YtioghecmnggehaaDoorReB
import Derived.Deep.RegionHeldLaw
namespace Go.Proofs.YtioghecmnggehaaDoor
open Go Go.RowKit
open Wb

/-- the bytes of the fields from the tag 12 - n on -/
def encN (x : Nums) (nm : ByteArray) (l : List Nat) : Nat → List Nat
  | 0 => []
  | n + 1 => (if zeroT x nm l.length (11 - n) then [] else Wn.uint (11 - n) ++ valB x nm l (11 - n)) ++ encN x nm l n
def enc (x : Nums) (nm : ByteArray) (l : List Nat) : List Nat := encN x nm l 11
theorem encN_succ (x : Nums) (nm : ByteArray) (l : List Nat) (n : Nat) : encN x nm l (n + 1) = (if zeroT x nm l.length (11 - n) then [] else Wn.uint (11 - n) ++ valB x nm l (11 - n)) ++ encN x nm l n := rfl
theorem valB_len (x : Nums) (nm : ByteArray) (l : List Nat) (t : Nat) (hx : x.nice) (hs : nm.size ≤ 1000000) (hl : l.length ≤ 16384) (h1 : 1 ≤ t) (h2 : t ≤ 11) : (valB x nm l t).length ≤ 1000100 := by
  unfold valB
  split
  · have := Wn.uint_len10 (zz x.c) (zz_lt x.c hx.2.1 hx.2.2)
    omega
  · split
    · have := Wn.uint_len10 (nbs nm).length (by rw [nbs_len]; omega)
      rw [List.length_append]
      rw [nbs_len] at *
      omega
    · split
      · have := Wn.uint_len10 l.length (by omega)
        rw [List.length_append]
        omega
      · have h := hx.1 t h1 (by omega) (by omega)
        have := Wn.uint_len10 (x.tag t).toNat (by omega)
        omega
set_option maxRecDepth 100000 in
set_option maxHeartbeats 4000000 in
theorem encode_ok (x : Nums) (nm : ByteArray) (d : Value) (l : List Nat) (w : World) (h : Bs w d l) (hT : Text.TabP 1 .i32 Text.Tx.lets w) (hG : TagsT w) (hnm : nm.size ≤ 1000000) (hl : l.length ≤ 16384) (hx : x.nice) (hc : chk x nm l = 0) :
    Calls Tryd.prog 13 #[rv x nm d] w fun e w' => ∃ ao cap, e = .returned (.tuple #[.slice ao (enc x nm l).length cap, .int .i64 0]) ∧ Own w.heap.size w' (.slice ao (enc x nm l).length cap) (enc x nm l) ∧ Below w.heap.size w w' := by
  have hin := info5
  have HX : Hid (∀ o, (w.alloc o).heap[w.heap.size]? = some o ∧ Below w.heap.size w (w.alloc o)) := fun o => ⟨Array.getElem?_push_size, up0 w o⟩
  have HB : Hid (∀ w', Below w.heap.size w w' → Bs w' d l) := fun w' hb => h.kept hb
  have HCH : Hid (∀ w', Below w.heap.size w w' → Calls Tryd.prog 11 #[rv x nm d] w' fun e w'' => e = .returned (.int .i64 0) ∧ Below w'.heap.size w' w'') := fun w' hb => by
    have h1 := check_any x nm d l w' (h.kept hb) (hT.kept hb) (hG.kept hb) (by omega)
    rwa [hc] at h1
  have HVL : Hid (∀ (t : Nat) w', Below w.heap.size w w' → 1 ≤ t → t ≤ 11 → Calls Tryd.prog 30 #[pv x nm d, .int .i64 (t : Int)] w' fun e w'' => ∃ v', e = .returned v' ∧ Own w'.heap.size w'' v' (valB x nm l t) ∧ Below w'.heap.size w' w'') := fun t w' hb a b => value_any x nm d l t w' (h.kept hb) (by omega) hnm hx a b
  have HLN : Hid (∀ t, 1 ≤ t → t ≤ 11 → (valB x nm l t).length ≤ 1000100) := fun t a b => valB_len x nm l t hx hnm hl a b
  obtain ⟨ao, cap, rfl, _⟩ := h.shape
  have HAP : Hid (∀ w', Calls Tryd.prog 25 #[rv x nm (.slice ao l.length cap)] w' fun e w'' => e = .returned (pv x nm (.slice ao l.length cap)) ∧ Below w'.heap.size w' w'') := fun w' => apart_any x nm ao l.length cap w'
  have HIZ : Hid (∀ (t : Nat) w', 1 ≤ t → t ≤ 11 → Calls Tryd.prog 28 #[pv x nm (.slice ao l.length cap), .int .i64 (t : Int)] w' fun e w'' => e = .returned (.bool (zeroT x nm l.length t)) ∧ Below w'.heap.size w' w'') := fun t w' a b => isZero_any x nm ao l.length cap t w' a b
  clear h hT hG hc hx
  unfold rv pv at *
  go_enter Tryd.func13, Tryd.ntmps13
  go_wp2_with fail
  refine (HCH.out _ (HX.out _).2).mono ?_
  rintro e w1 ⟨rfl, b1⟩
  have hbx : Box w1 w.heap.size x nm (.slice ao l.length cap) := Box.kept (HX.out _).1 b1
  have B1 := andThen (HX.out _).2 b1
  clear b1 HX HCH
  obtain ⟨c0, c1, c2, c3, c4, c5, c6, c7, c8, c9, c10, c11⟩ := hbx.cells
  go_wp2_with fail
  refine (HAP.out _).mono ?_
  rintro e w2 ⟨rfl, b2⟩
  have HW3 : Hid (PBox (w2.alloc (.cells #[.int .i64 0, .int .i64 x.k, .int .i64 x.s, .int .i64 x.p, .int .i64 x.t, .int .i64 x.a, .int .i64 x.l, .int .i64 x.c, .int .i64 x.n, .int .i64 x.i, .string nm, .slice ao l.length cap] 47)) w2.heap.size x nm (.slice ao l.length cap) ∧ Below w.heap.size w (w2.alloc (.cells #[.int .i64 0, .int .i64 x.k, .int .i64 x.s, .int .i64 x.p, .int .i64 x.t, .int .i64 x.a, .int .i64 x.l, .int .i64 x.c, .int .i64 x.n, .int .i64 x.i, .string nm, .slice ao l.length cap] 47))) := ⟨Array.getElem?_push_size, up (andThen B1 b2) _⟩
  clear c0 c1 c2 c3 c4 c5 c6 c7 c8 c9 c10 c11 hbx b2 B1 HAP
  go_wp2
  have HW3' := HW3.out
  clear HW3
  generalize w2.alloc (.cells #[.int .i64 0, .int .i64 x.k, .int .i64 x.s, .int .i64 x.p, .int .i64 x.t, .int .i64 x.a, .int .i64 x.l, .int .i64 x.c, .int .i64 x.n, .int .i64 x.i, .string nm, .slice ao l.length cap] 47) = W3 at HW3' ⊢
  generalize w2.heap.size = g3 at HW3' ⊢
  obtain ⟨hpb, hbw⟩ := HW3'
  have HK : Hid (∀ w', Below W3.heap.size W3 w' → PBox w' g3 x nm (.slice ao l.length cap) ∧ Below w.heap.size w w') := fun w' hb => ⟨hpb.kept hb, andThen hbw hb⟩
  have hW3 : w.heap.size ≤ W3.heap.size := hbw.size
  clear hpb hbw
  obtain ⟨A, hA⟩ : ∃ A, enc x nm l = A := ⟨_, rfl⟩
  have HA : Hid (encN x nm l 11 = A) := hA
  have HAQ : Hid (enc x nm l = A) := hA
  clear hA
  go_loopw [6, 7] (fun o i wr => ∃ (k : Nat) (L : List Nat), 1 ≤ k ∧ k ≤ 12 ∧ i = .int .i64 (k : Int) ∧ Own W3.heap.size wr o L ∧ L.length ≤ 1000200 * k ∧ L ++ encN x nm l (12 - k) = A ∧ Below W3.heap.size W3 wr) (fun _ i _ => 12 - (intOf i).toNat)
  case atStart => exact ⟨1, [], by omega, by omega, rfl, Own.nil _ _, by simp, HA.out, Below.refl _ _⟩
  case round =>
    obtain ⟨k, L, hk1, hk12, rfl, hown, hLl, hap, hbel⟩ := hrel
    have HAP : Hid (L ++ encN x nm l (12 - k) = A) := hap
    clear hap HA
    by_cases hlt : k ≤ 11
    · have HST : Hid (L ++ ((if zeroT x nm l.length k then [] else Wn.uint k ++ valB x nm l k) ++ encN x nm l (12 - (k + 1))) = A) := by
        show _ = _
        rw [← HAP.out, show 12 - k = (11 - k) + 1 by omega, encN_succ, show 11 - (11 - k) = k by omega, show 12 - (k + 1) = 11 - k by omega]
      obtain ⟨c0, c1, c2, c3, c4, c5, c6, c7, c8, c9, c10, c11⟩ := (HK.out _ hbel).1.cells
      have HIZ1 : Hid (Calls Tryd.prog 28 #[.agg #[.int .i64 0, .int .i64 x.k, .int .i64 x.s, .int .i64 x.p, .int .i64 x.t, .int .i64 x.a, .int .i64 x.l, .int .i64 x.c, .int .i64 x.n, .int .i64 x.i, .string nm, .slice ao l.length cap], .int .i64 (k : Int)] wr fun e w'' => e = .returned (.bool (zeroT x nm l.length k)) ∧ Below wr.heap.size wr w'') := HIZ.out k wr hk1 hlt
      obtain ⟨ao5, cap5, rfl, _⟩ := hown.bs.shape
      have HOW : Hid (∀ w', Below wr.heap.size wr w' → Own W3.heap.size w' (.slice ao5 L.length cap5) L ∧ Below W3.heap.size W3 w') := fun w' hb => ⟨hown.kept hb, andThen hbel hb⟩
      clear HAP hown
      cases hz : zeroT x nm l.length k with
      | true =>
        have HN : Hid (L ++ encN x nm l (12 - (k + 1)) = A) := by show _ = _; rw [← HST.out, hz]; rfl
        rw [hz] at HIZ1
        clear HST hz
        go_wp2_with fail
        refine HIZ1.out.mono ?_
        rintro e w4 ⟨rfl, b4⟩
        have HO4 := HOW.out _ b4
        clear c0 c1 c2 c3 c4 c5 c6 c7 c8 c9 c10 c11 HIZ1 HOW b4
        go_wp2
        go_roundw
        case rel => exact ⟨k + 1, L, by omega, by omega, by go_num, HO4.1, by omega, HN.out, HO4.2⟩
        case measure => simp [intOf]; omega
      | false =>
        have HN : Hid ((L ++ Wn.uint k ++ valB x nm l k) ++ encN x nm l (12 - (k + 1)) = A) := by show _ = _; rw [← HST.out, hz]; simp
        have HL1 : Hid ((Wn.uint k).length ≤ 10) := Wn.uint_len10 k (by omega)
        have HL2 : Hid ((valB x nm l k).length ≤ 1000100) := HLN.out k hk1 hlt
        have HVK : Hid (∀ w', Below W3.heap.size W3 w' → Calls Tryd.prog 30 #[.agg #[.int .i64 0, .int .i64 x.k, .int .i64 x.s, .int .i64 x.p, .int .i64 x.t, .int .i64 x.a, .int .i64 x.l, .int .i64 x.c, .int .i64 x.n, .int .i64 x.i, .string nm, .slice ao l.length cap], .int .i64 (k : Int)] w' fun e w'' => ∃ v', e = .returned v' ∧ Own w'.heap.size w'' v' (valB x nm l k) ∧ Below w'.heap.size w' w'') := fun w' hb => HVL.out k w' (HK.out _ hb).2 hk1 hlt
        have HUI : Hid (∀ w', Calls Tryd.prog 29 #[.int .u64 (k : Int)] w' fun e w'' => ∃ v', e = .returned v' ∧ Own w'.heap.size w'' v' (Wn.uint k) ∧ Below w'.heap.size w' w'') := fun w' => uint_any k w' (by omega)
        rw [hz] at HIZ1
        clear HST hz
        generalize Wn.uint k = U at *
        generalize valB x nm l k = V at *
        go_wp2_with fail
        refine HIZ1.out.mono ?_
        rintro e w4 ⟨rfl, b4⟩
        have HO4 := HOW.out _ b4
        clear c0 c1 c2 c3 c4 c5 c6 c7 c8 c9 c10 c11 HIZ1 HOW b4
        go_wp2_with fail
        refine (HUI.out _).mono ?_
        rintro e w5 ⟨v5, rfl, ho5, b5⟩
        obtain ⟨ao6, cap6, rfl, _⟩ := ho5.bs.shape
        have HO5 : Hid (Own W3.heap.size w5 (.slice ao5 L.length cap5) L ∧ Below W3.heap.size W3 w5 ∧ Bs w5 (.slice ao6 U.length cap6) U) := ⟨HO4.1.kept b5, andThen HO4.2 b5, ho5.bs⟩
        clear HO4 b5 ho5 HUI
        go_wp2_with (at_builtin; refine wpList_append _ rfl (.tmp 22) (.tmp 25) 22 rfl W3.heap.size hin Tryd.underlying22 _ L rfl HO5.out.1 _ U rfl HO5.out.2.2 (by have := HL1.out; omega) HO5.out.2.1.size ?_)
        intro v6 w6 ho6 b6 _
        have HO6 : Own W3.heap.size w6 v6 (L ++ U) ∧ Below W3.heap.size W3 w6 := ⟨ho6, HO5.out.2.1.trans b6⟩
        obtain ⟨ao7, cap7, rfl, _⟩ := ho6.bs.shape
        clear ho6 b6 HO5
        have HM1 : Hid ((L ++ U).length ≤ L.length + 10) := by show _ ≤ _; rw [List.length_append]; have := HL1.out; omega
        generalize L ++ U = M at *
        have hM1 : M.length ≤ L.length + 10 := HM1.out
        obtain ⟨c0, c1, c2, c3, c4, c5, c6, c7, c8, c9, c10, c11⟩ := (HK.out _ HO6.2).1.cells
        go_wp2_with fail
        refine (HVK.out _ HO6.2).mono ?_
        rintro e w7 ⟨v7, rfl, ho7, b7⟩
        obtain ⟨ao8, cap8, rfl, _⟩ := ho7.bs.shape
        have HO7 : Hid (Own W3.heap.size w7 (.slice ao7 M.length cap7) M ∧ Below W3.heap.size W3 w7 ∧ Bs w7 (.slice ao8 V.length cap8) V) := ⟨HO6.1.kept b7, andThen HO6.2 b7, ho7.bs⟩
        clear HO6 b7 ho7 HVK c0 c1 c2 c3 c4 c5 c6 c7 c8 c9 c10 c11
        go_wp2_with (at_builtin; refine wpList_append _ rfl (.tmp 27) (.tmp 30) 22 rfl W3.heap.size hin Tryd.underlying22 _ M rfl HO7.out.1 _ V rfl HO7.out.2.2 (by have := HL2.out; omega) HO7.out.2.1.size ?_)
        intro v8 w8 ho8 b8 _
        have HO8 : Hid (Own W3.heap.size w8 v8 (M ++ V) ∧ Below W3.heap.size W3 w8) := ⟨ho8, HO7.out.2.1.trans b8⟩
        clear ho8 b8 HO7
        go_wp2
        go_roundw
        case rel => exact ⟨k + 1, M ++ V, by omega, by omega, by go_num, HO8.out.1, by have := HL2.out; rw [List.length_append]; omega, HN.out, HO8.out.2⟩
        case measure => simp [intOf]; omega
    · obtain rfl : k = 12 := by omega
      have hE : L = A := by
        have := HAP.out
        rw [show 12 - 12 = 0 by omega] at this
        simpa [encN] using this
      obtain ⟨ao5, cap5, rfl, _⟩ := hown.bs.shape
      have HO : Hid (Own w.heap.size wr (.slice ao5 L.length cap5) L ∧ Below w.heap.size w wr) := ⟨hown.mono hW3, (HK.out _ hbel).2⟩
      subst hE
      clear hown HAP
      go_wp2
      go_ret2
      refine ⟨ao5, cap5, ?_, ?_, HO.out.2⟩
      · rw [HAQ.out]; rfl
      · rw [HAQ.out]; exact HO.out.1
set_option maxRecDepth 100000 in
set_option maxHeartbeats 1000000 in
theorem encode_err (x : Nums) (nm : ByteArray) (d : Value) (l : List Nat) (w : World) (h : Bs w d l) (hT : Text.TabP 1 .i32 Text.Tx.lets w) (hG : TagsT w) (hnm : nm.size ≤ 140737488355000) (hc : chk x nm l ≠ 0) :
    Calls Tryd.prog 13 #[rv x nm d] w fun e w' => e = .returned (.tuple #[.slice none 0 0, .int .i64 (chk x nm l)]) ∧ Below w.heap.size w w' := by
  have HX : Hid (∀ o, Below w.heap.size w (w.alloc o)) := fun o => up0 w o
  have HCH : Hid (∀ w', Below w.heap.size w w' → Calls Tryd.prog 11 #[rv x nm d] w' fun e w'' => e = .returned (.int .i64 (chk x nm l)) ∧ Below w'.heap.size w' w'') := fun w' hb => check_any x nm d l w' (h.kept hb) (hT.kept hb) (hG.kept hb) hnm
  obtain ⟨ao, cap, rfl, _⟩ := h.shape
  have d1 : (chk x nm l != 0) = true := by rw [bne_iff_ne]; exact hc
  clear h hT hG hc
  generalize chk x nm l = z at *
  unfold rv at *
  go_enter Tryd.func13, Tryd.ntmps13
  go_wp2_with fail
  refine (HCH.out _ (HX.out _)).mono ?_
  rintro e w1 ⟨rfl, b1⟩
  have B1 := andThen (HX.out _) b1
  clear b1
  go_wp2
  go_ret2
  exact ⟨rfl, B1⟩
set_option maxRecDepth 100000 in
set_option maxHeartbeats 1000000 in
theorem size_ok (x : Nums) (nm : ByteArray) (d : Value) (l : List Nat) (w : World) (h : Bs w d l) (hT : Text.TabP 1 .i32 Text.Tx.lets w) (hG : TagsT w) (hnm : nm.size ≤ 1000000) (hl : l.length ≤ 16384) (hx : x.nice) (hc : chk x nm l = 0) :
    Calls Tryd.prog 15 #[rv x nm d] w fun e w' => e = .returned (.tuple #[.int .i64 ((enc x nm l).length : Int), .int .i64 0]) ∧ Below w.heap.size w w' := by
  have HX : Hid (∀ o, Below w.heap.size w (w.alloc o)) := fun o => up0 w o
  have HE : Hid (∀ w', Below w.heap.size w w' → Calls Tryd.prog 13 #[rv x nm d] w' fun e w'' => ∃ ao cap, e = .returned (.tuple #[.slice ao (enc x nm l).length cap, .int .i64 0]) ∧ Own w'.heap.size w'' (.slice ao (enc x nm l).length cap) (enc x nm l) ∧ Below w'.heap.size w' w'') := fun w' hb => encode_ok x nm d l w' (h.kept hb) (hT.kept hb) (hG.kept hb) hnm hl hx hc
  obtain ⟨ao, cap, rfl, _⟩ := h.shape
  clear h hT hG hc
  generalize enc x nm l = E at *
  unfold rv at *
  go_enter Tryd.func15, Tryd.ntmps15
  go_wp2_with fail
  refine (HE.out _ (HX.out _)).mono ?_
  rintro e w1 ⟨ao1, cap1, rfl, _, b1⟩
  have B1 := andThen (HX.out _) b1
  clear b1
  go_wp2
  go_ret2
  exact ⟨rfl, B1⟩
set_option maxRecDepth 100000 in
set_option maxHeartbeats 1000000 in
theorem size_err (x : Nums) (nm : ByteArray) (d : Value) (l : List Nat) (w : World) (h : Bs w d l) (hT : Text.TabP 1 .i32 Text.Tx.lets w) (hG : TagsT w) (hnm : nm.size ≤ 140737488355000) (hc : chk x nm l ≠ 0) :
    Calls Tryd.prog 15 #[rv x nm d] w fun e w' => e = .returned (.tuple #[.int .i64 0, .int .i64 (chk x nm l)]) ∧ Below w.heap.size w w' := by
  have HX : Hid (∀ o, Below w.heap.size w (w.alloc o)) := fun o => up0 w o
  have HE : Hid (∀ w', Below w.heap.size w w' → Calls Tryd.prog 13 #[rv x nm d] w' fun e w'' => e = .returned (.tuple #[.slice none 0 0, .int .i64 (chk x nm l)]) ∧ Below w'.heap.size w' w'') := fun w' hb => encode_err x nm d l w' (h.kept hb) (hT.kept hb) (hG.kept hb) hnm hc
  obtain ⟨ao, cap, rfl, _⟩ := h.shape
  clear h hT hG hc
  generalize chk x nm l = z at *
  unfold rv at *
  go_enter Tryd.func15, Tryd.ntmps15
  go_wp2_with fail
  refine (HE.out _ (HX.out _)).mono ?_
  rintro e w1 ⟨rfl, b1⟩
  have B1 := andThen (HX.out _) b1
  clear b1
  go_wp2
  go_ret2
  exact ⟨rfl, B1⟩
theorem fld_nice (x : Nums) (nm : ByteArray) (l : List Nat) (t : Nat) (h : tagE x nm l t = 0) (h3 : 3 ≤ t) (h9 : t ≤ 9) (h7 : t ≠ 7) : 0 ≤ x.tag t := by
  unfold tagE at h
  cases hr : x.row.contains (t : Int) with
  | true =>
    rw [hr] at h
    have h2 : fldE x nm l t = 0 := by simpa using h
    unfold fldE at h2
    rw [if_neg (by omega), if_neg (by omega)] at h2
    have h4 : ¬ (x.tag t < x.lo t ∨ x.hi t < x.tag t) := by
      intro hh
      rw [if_pos hh] at h2
      simp at h2
    have h5 : 0 ≤ x.lo t := by
      unfold Nums.lo
      split
      · split <;> omega
      · split
        · omega
        · split <;> omega
    omega
  | false =>
    rw [hr] at h
    cases hz : zeroT x nm l.length t with
    | false => rw [hz] at h; simp at h
    | true =>
      unfold zeroT at hz
      rw [if_neg (by omega), if_neg (by omega)] at hz
      have : x.tag t = 0 := by simpa using hz
      omega
/-- a valid record's numbers are written as they are -/
theorem chk_nice (x : Nums) (nm : ByteArray) (l : List Nat) (hc : chk x nm l = 0) (hb : ∀ t, 1 ≤ t → t ≤ 9 → -9223372036854775808 ≤ x.tag t ∧ x.tag t ≤ 9223372036854775807) : x.nice ∧ (1 ≤ x.v ∧ x.v ≤ 3) ∧ (1 ≤ x.k ∧ x.k ≤ 7) ∧ 1 ≤ x.s ∧ chkN x nm l 9 = 0 := by
  unfold chk at hc
  by_cases hv : 1 ≤ x.v ∧ x.v ≤ 3
  · rw [if_neg (by simpa using hv)] at hc
    by_cases hk : 1 ≤ x.k ∧ x.k ≤ 7
    · rw [if_neg (by simpa using hk)] at hc
      by_cases hs : x.s < 1
      · rw [if_pos hs] at hc; simp at hc
      · rw [if_neg hs] at hc
        refine ⟨⟨fun t h1 h9 h7 => ⟨?_, (hb t h1 h9).2⟩, hb 7 (by omega) (by omega)⟩, hv, hk, by omega, hc⟩
        have key : ∀ n, chkN x nm l n = 0 → ∀ t, t ≤ 11 → 11 < t + n → tagE x nm l t = 0 := by
          intro n
          induction n with
          | zero => intro _ t _ _; omega
          | succ n ih =>
            intro h t ht htn
            rw [chkN_succ] at h
            by_cases h0 : tagE x nm l (11 - n) = 0
            · rw [if_pos h0] at h
              by_cases he : t = 11 - n
              · subst he; exact h0
              · exact ih h t ht (by omega)
            · rw [if_neg h0] at h
              exact absurd h h0
        by_cases ht1 : t = 1
        · subst ht1; show 0 ≤ x.k; omega
        · by_cases ht2 : t = 2
          · subst ht2; show 0 ≤ x.s; omega
          · exact fld_nice x nm l t (key 9 hc t (by omega) (by omega)) (by omega) h9 h7
    · rw [if_pos hk] at hc; simp at hc
  · rw [if_pos hv] at hc; simp at hc
end Go.Proofs.YtioghecmnggehaaDoor
