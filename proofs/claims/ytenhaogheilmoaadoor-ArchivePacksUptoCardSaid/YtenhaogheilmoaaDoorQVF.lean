import Derived.Test.YtenhaogheilmoaaDoorQK2
import Derived.Test.YtenhaogheilmoaaDoorQW3
import Derived.Test.YtenhaogheilmoaaDoorQR3
import Derived.Test.YtenhaogheilmoaaDoorQR5
import Derived.Test.YtenhaogheilmoaaDoorQVC
/-
  The reference's record: value, Encode.
-/
namespace Go.Proofs.YtenhaogheilmoaaDoor
open Go Go.RowKit
open Wb

set_option maxRecDepth 100000 in
set_option maxHeartbeats 1000000 in
theorem refvalue_num (x : Nums) (nm : ByteArray) (ao : Option Addr) (n cap : Nat) (l : List Nat) (t : Nat) (w : World) (h1 : 1 ≤ t) (h2 : t ≤ 9) (h7 : t ≠ 7) (hz0 : 0 ≤ x.tag t) (hz1 : x.tag t ≤ 9223372036854775807) :
    Calls Tryd.prog 43 #[rv x nm (.slice ao n cap), .int .i64 (t : Int)] w fun e w' => ∃ v', e = .returned v' ∧ Own w.heap.size w' v' (valB x nm l t) ∧ Below w.heap.size w w' := by
  have HX : Hid (∀ o, Below w.heap.size w (w.alloc o) ∧ w.heap.size ≤ (w.alloc o).heap.size) := fun o => ⟨up0 w o, (up0 w o).size⟩
  have HN : Hid (∀ w', Calls Tryd.prog 62 #[rv x nm (.slice ao n cap), .int .i64 (t : Int)] w' fun e w'' => e = .returned (.int .i64 (x.tag t)) ∧ Below w'.heap.size w' w'') := fun w' => number_any x nm ao n cap t w' h1 h2
  have HU : Hid (∀ w', Calls Tryd.prog 39 #[.int .u64 (x.tag t)] w' fun e w'' => ∃ v', e = .returned v' ∧ Own w'.heap.size w'' v' (Wn.uint (x.tag t).toNat) ∧ Below w'.heap.size w' w'') := fun w' => by
    have := ruint_any (x.tag t).toNat w' (by omega)
    rwa [show (((x.tag t).toNat : Nat) : Int) = x.tag t by omega] at this
  have HV : Hid (valB x nm l t = Wn.uint (x.tag t).toNat) := by
    show _ = _
    unfold valB
    rw [if_neg h7, if_neg (by omega), if_neg (by omega)]
  rw [HV.out]
  have e7 : ((t : Int) == 7) = false := by rw [beq_eq_false_iff_ne]; omega
  have e10 : ((t : Int) == 10) = false := by rw [beq_eq_false_iff_ne]; omega
  have e11 : ((t : Int) == 11) = false := by rw [beq_eq_false_iff_ne]; omega
  clear HV
  generalize Wn.uint (x.tag t).toNat = V at *
  generalize x.tag t = z at *
  unfold rv at *
  go_enter Tryd.func43, Tryd.ntmps43
  go_wp2_with fail
  refine (HN.out _).mono ?_
  rintro e w1 ⟨rfl, b1⟩
  have B1 : Below w.heap.size w w1 ∧ w.heap.size ≤ w1.heap.size := ⟨andThen (HX.out _).1 b1, (andThen (HX.out _).1 b1).size⟩
  clear b1
  go_wp2_with fail
  refine (HU.out _).mono ?_
  rintro e w2 ⟨v2, rfl, ho, hb⟩
  obtain ⟨ao1, cap1, rfl, _⟩ := ho.bs.shape
  have HO : Hid (Own w.heap.size w2 (.slice ao1 V.length cap1) V ∧ Below w.heap.size w w2) := ⟨ho.mono B1.2, andThen B1.1 hb⟩
  clear ho hb B1
  go_wp2
  go_ret
  exact ⟨_, rfl, HO.out.1, HO.out.2⟩
set_option maxRecDepth 100000 in
set_option maxHeartbeats 1000000 in
theorem refvalue_seven (x : Nums) (nm : ByteArray) (ao : Option Addr) (n cap : Nat) (l : List Nat) (w : World) (h0 : -9223372036854775808 ≤ x.c) (h1 : x.c ≤ 9223372036854775807) :
    Calls Tryd.prog 43 #[rv x nm (.slice ao n cap), .int .i64 ((7 : Nat) : Int)] w fun e w' => ∃ v', e = .returned v' ∧ Own w.heap.size w' v' (valB x nm l 7) ∧ Below w.heap.size w w' := by
  have HX : Hid (∀ o, Below w.heap.size w (w.alloc o) ∧ w.heap.size ≤ (w.alloc o).heap.size) := fun o => ⟨up0 w o, (up0 w o).size⟩
  have HU : Hid (∀ w', Calls Tryd.prog 65 #[.int .i64 x.c] w' fun e w'' => ∃ v', e = .returned v' ∧ Own w'.heap.size w'' v' (Wn.uint (zz x.c)) ∧ Below w'.heap.size w' w'') := fun w' => rint_any x.c w' h0 h1
  have HV : Hid (valB x nm l 7 = Wn.uint (zz x.c)) := rfl
  rw [HV.out]
  generalize Wn.uint (zz x.c) = V at *
  unfold rv
  clear HV
  go_enter Tryd.func43, Tryd.ntmps43
  go_wp2_with fail
  refine (HU.out _).mono ?_
  rintro e w1 ⟨v1, rfl, ho, hb⟩
  obtain ⟨ao1, cap1, rfl, _⟩ := ho.bs.shape
  have HO : Hid (Own w.heap.size w1 (.slice ao1 V.length cap1) V ∧ Below w.heap.size w w1) := ⟨ho.mono (HX.out _).2, andThen (HX.out _).1 hb⟩
  clear ho hb
  go_wp2
  go_ret
  exact ⟨_, rfl, HO.out.1, HO.out.2⟩
set_option maxRecDepth 100000 in
set_option maxHeartbeats 1000000 in
theorem refvalue_data (x : Nums) (nm : ByteArray) (d : Value) (l : List Nat) (w : World) (h : Bs w d l) (hlen : l.length ≤ 140737488355000) :
    Calls Tryd.prog 43 #[rv x nm d, .int .i64 ((11 : Nat) : Int)] w fun e w' => ∃ v', e = .returned v' ∧ Own w.heap.size w' v' (valB x nm l 11) ∧ Below w.heap.size w w' := by
  have HX : Hid (∀ o, Below w.heap.size w (w.alloc o) ∧ w.heap.size ≤ (w.alloc o).heap.size) := fun o => ⟨up0 w o, (up0 w o).size⟩
  have HU : Hid (∀ w', Below w.heap.size w w' → Calls Tryd.prog 44 #[d] w' fun e w'' => ∃ v', e = .returned v' ∧ Own w'.heap.size w'' v' (Wn.uint l.length ++ l) ∧ Below w'.heap.size w' w'') := fun w' hb => rbytes_any d l w' (h.kept hb) hlen
  have HV : Hid (valB x nm l 11 = Wn.uint l.length ++ l) := rfl
  rw [HV.out]
  obtain ⟨ao, cap, rfl, _⟩ := h.shape
  clear h
  generalize Wn.uint l.length ++ l = V at *
  unfold rv
  clear HV
  go_enter Tryd.func43, Tryd.ntmps43
  go_wp2_with fail
  refine (HU.out _ (HX.out _).1).mono ?_
  rintro e w1 ⟨v1, rfl, ho, hb⟩
  obtain ⟨ao1, cap1, rfl, _⟩ := ho.bs.shape
  have HO : Hid (Own w.heap.size w1 (.slice ao1 V.length cap1) V ∧ Below w.heap.size w w1) := ⟨ho.mono (HX.out _).2, andThen (HX.out _).1 hb⟩
  clear ho hb
  go_wp2
  go_ret
  exact ⟨_, rfl, HO.out.1, HO.out.2⟩
set_option maxRecDepth 100000 in
set_option maxHeartbeats 1000000 in
theorem refvalue_name (x : Nums) (nm : ByteArray) (ao : Option Addr) (n cap : Nat) (l : List Nat) (w : World) (hs : nm.size ≤ 1000000) :
    Calls Tryd.prog 43 #[rv x nm (.slice ao n cap), .int .i64 ((10 : Nat) : Int)] w fun e w' => ∃ v', e = .returned v' ∧ Own w.heap.size w' v' (valB x nm l 10) ∧ Below w.heap.size w w' := by
  have HX : Hid (∀ o, Below w.heap.size w (w.alloc o) ∧ w.heap.size ≤ (w.alloc o).heap.size) := fun o => ⟨up0 w o, (up0 w o).size⟩
  have HU : Hid (∀ d w', Bs w' d (nbs nm) → Calls Tryd.prog 44 #[d] w' fun e w'' => ∃ v', e = .returned v' ∧ Own w'.heap.size w'' v' (Wn.uint (nbs nm).length ++ nbs nm) ∧ Below w'.heap.size w' w'') := fun d w' hb => rbytes_any d (nbs nm) w' hb (by rw [nbs_len]; omega)
  have HC : Hid (∀ w' : World, (convert 9 25 (.string nm)).run Tryd.prog w' = .ok (.slice (some ⟨w'.heap.size, 0, none⟩) nm.size (grownCap w' nm.size 0 5)) (w'.drew.alloc (.cells (bytesRow nm (grownCap w' nm.size 0 5)) 5 ((bytesRow nm (grownCap w' nm.size 0 5)).size, (bytesRow nm (grownCap w' nm.size 0 5)).size + 1)))) := fun w' => run_bytes_of_string w' 9 25 5 nm Tryd.underlying9 Tryd.underlying25 Tryd.underlying5
  have HB : Hid (∀ (w' : World) g fr, g = w'.heap.size → Bs (w'.drew.alloc (.cells (bytesRow nm (grownCap w' nm.size 0 5)) 5 fr)) (.slice (some ⟨g, 0, none⟩) nm.size (grownCap w' nm.size 0 5)) (nbs nm)) := fun w' g fr hg => bs_of_string w' nm (by unfold maxLen; omega) g hg fr
  have hc := HC.out
  have HV : Hid (valB x nm l 10 = Wn.uint (nbs nm).length ++ nbs nm) := rfl
  rw [HV.out]
  generalize Wn.uint (nbs nm).length ++ nbs nm = V at *
  unfold rv
  clear HV HC
  go_enter Tryd.func43, Tryd.ntmps43
  go_wp2_with fail
  have HW := HX.out (.cells #[.int .i64 x.v, .int .i64 x.k, .int .i64 x.s, .int .i64 x.p, .int .i64 x.t, .int .i64 x.a, .int .i64 x.l, .int .i64 x.c, .int .i64 x.n, .int .i64 x.i, .string nm, .slice ao n cap] 44)
  have HSZ : w.heap.size + 1 = (w.alloc (.cells #[.int .i64 x.v, .int .i64 x.k, .int .i64 x.s, .int .i64 x.p, .int .i64 x.t, .int .i64 x.a, .int .i64 x.l, .int .i64 x.c, .int .i64 x.n, .int .i64 x.i, .string nm, .slice ao n cap] 44)).heap.size := by
    show _ = (w.heap.push _).size
    rw [Array.size_push]
  clear hc
  generalize w.alloc (.cells #[.int .i64 x.v, .int .i64 x.k, .int .i64 x.s, .int .i64 x.p, .int .i64 x.t, .int .i64 x.a, .int .i64 x.l, .int .i64 x.c, .int .i64 x.n, .int .i64 x.i, .string nm, .slice ao n cap] 44) = W at *
  refine (HU.out _ _ (HB.out W _ _ HSZ)).mono ?_
  rintro e w1 ⟨v1, rfl, ho, hb⟩
  obtain ⟨ao1, cap1, rfl, _⟩ := ho.bs.shape
  have hb' : Below W.heap.size W w1 := andThen (up (Below.drew (Below.refl _ W)) _) hb
  have HO : Hid (Own w.heap.size w1 (.slice ao1 V.length cap1) V ∧ Below w.heap.size w w1) := ⟨ho.mono (Nat.le_trans HW.2 (up (Below.drew (Below.refl _ W)) _).size), andThen HW.1 hb'⟩
  clear ho hb hb'
  go_wp2
  go_ret
  exact ⟨_, rfl, HO.out.1, HO.out.2⟩
theorem refvalue_any (x : Nums) (nm : ByteArray) (d : Value) (l : List Nat) (t : Nat) (w : World) (h : Bs w d l) (hlen : l.length ≤ 140737488355000) (hs : nm.size ≤ 1000000) (hx : x.nice) (h1 : 1 ≤ t) (h2 : t ≤ 11) :
    Calls Tryd.prog 43 #[rv x nm d, .int .i64 (t : Int)] w fun e w' => ∃ v', e = .returned v' ∧ Own w.heap.size w' v' (valB x nm l t) ∧ Below w.heap.size w w' := by
  by_cases h11 : t = 11
  · subst h11
    exact refvalue_data x nm d l w h hlen
  · obtain ⟨ao, cap, rfl, _⟩ := h.shape
    by_cases h10 : t = 10
    · subst h10
      exact refvalue_name x nm ao _ cap l w hs
    · by_cases h7 : t = 7
      · subst h7
        exact refvalue_seven x nm ao _ cap l w hx.2.1 hx.2.2
      · exact refvalue_num x nm ao _ cap l t w h1 (by omega) h7 (hx.1 t h1 (by omega) h7).1 (hx.1 t h1 (by omega) h7).2
set_option maxRecDepth 100000 in
set_option maxHeartbeats 4000000 in
theorem refencode_ok (x : Nums) (nm : ByteArray) (d : Value) (l : List Nat) (w : World) (h : Bs w d l) (hT : Tabs w) (hb : x.fit) (hnm : nm.size ≤ 1000000) (hl : l.length ≤ 16384) (hx : x.nice) (hc : chk x nm l = 0) :
    Calls Tryd.prog 22 #[rv x nm d] w fun e w' => ∃ ao cap, e = .returned (.tuple #[.slice ao (enc x nm l).length cap, .int .i64 0]) ∧ Own w.heap.size w' (.slice ao (enc x nm l).length cap) (enc x nm l) ∧ Below w.heap.size w w' := by
  have hin := info5
  have HX : Hid (∀ o, (w.alloc o).heap[w.heap.size]? = some o ∧ Below w.heap.size w (w.alloc o)) := fun o => ⟨Array.getElem?_push_size, up0 w o⟩
  have HCH : Hid (∀ w', Below w.heap.size w w' → Calls Tryd.prog 21 #[rv x nm d] w' fun e w'' => e = .returned (.int .i64 0) ∧ Below w'.heap.size w' w'') := fun w' hb' => by
    have h1 := refcheck_any x nm d l w' (h.kept hb') (hT.kept hb').rlets (hT.kept hb').rows hb.c (by omega)
    rwa [hc] at h1
  have HVL : Hid (∀ (t : Nat) w', Below w.heap.size w w' → 1 ≤ t → t ≤ 11 → Calls Tryd.prog 43 #[rv x nm d, .int .i64 (t : Int)] w' fun e w'' => ∃ v', e = .returned v' ∧ Own w'.heap.size w'' v' (valB x nm l t) ∧ Below w'.heap.size w' w'') := fun t w' hb' a b => refvalue_any x nm d l t w' (h.kept hb') (by omega) hnm hx a b
  have HLN : Hid (∀ t, 1 ≤ t → t ≤ 11 → (valB x nm l t).length ≤ 1000100) := fun t a b => valB_len x nm l t hx hnm hl a b
  obtain ⟨ao, cap, rfl, _⟩ := h.shape
  have HIZ : Hid (∀ (t : Nat) w', 1 ≤ t → t ≤ 11 → Calls Tryd.prog 41 #[rv x nm (.slice ao l.length cap), .int .i64 (t : Int)] w' fun e w'' => e = .returned (.bool (zeroT x nm l.length t)) ∧ Below w'.heap.size w' w'') := fun t w' a b => rzero_any x nm ao l.length cap t w' a b
  clear h hT hc hx
  unfold rv at *
  go_enter Tryd.func22, Tryd.ntmps22
  go_wp2_with fail
  refine (HCH.out _ (HX.out _).2).mono ?_
  rintro e w1 ⟨rfl, b1⟩
  have hbx : Box w1 w.heap.size x nm (.slice ao l.length cap) := Box.kept (HX.out _).1 b1
  have B1 := andThen (HX.out _).2 b1
  clear b1 HX HCH
  go_wp2
  have HK : Hid (∀ w', Below w1.heap.size w1 w' → Box w' w.heap.size x nm (.slice ao l.length cap) ∧ Below w.heap.size w w') := fun w' hb => ⟨hbx.kept hb, andThen B1 hb⟩
  have hW3 : w.heap.size ≤ w1.heap.size := B1.size
  clear hbx B1
  obtain ⟨A, hA⟩ : ∃ A, enc x nm l = A := ⟨_, rfl⟩
  have HA : Hid (encN x nm l 11 = A) := hA
  have HAQ : Hid (enc x nm l = A) := hA
  clear hA
  go_loopw [5, 6] (fun o i wr => ∃ (k : Nat) (L : List Nat), 1 ≤ k ∧ k ≤ 12 ∧ i = .int .i64 (k : Int) ∧ Own w1.heap.size wr o L ∧ L.length ≤ 1000200 * k ∧ L ++ encN x nm l (12 - k) = A ∧ Below w1.heap.size w1 wr) (fun _ i _ => 12 - (intOf i).toNat)
  case atStart => exact ⟨1, [], by omega, by omega, rfl, Own.nil _ _, by simp, HA.out, Below.refl _ _⟩
  case round =>
    obtain ⟨k, L, hk1, hk12, rfl, hown, hLl, hap, hbel⟩ := hrel
    have HAP : Hid (L ++ encN x nm l (12 - k) = A) := hap
    clear hap HA
    by_cases hlt : k ≤ 11
    · have HST : Hid (L ++ ((if zeroT x nm l.length k then [] else Wn.uint k ++ valB x nm l k) ++ encN x nm l (12 - (k + 1))) = A) := by
        show _ = _
        rw [← HAP.out, show 12 - k = (11 - k) + 1 by omega, encN_succ, show 11 - (11 - k) = k by omega, show 12 - (k + 1) = 11 - k by omega]
      obtain ⟨c0, c1, c2, c3, c4, c5, c6, c7, c8, c9, c10, c11⟩ := (HK.out _ hbel).1.cells
      have HIZ1 : Hid (Calls Tryd.prog 41 #[.agg #[.int .i64 x.v, .int .i64 x.k, .int .i64 x.s, .int .i64 x.p, .int .i64 x.t, .int .i64 x.a, .int .i64 x.l, .int .i64 x.c, .int .i64 x.n, .int .i64 x.i, .string nm, .slice ao l.length cap], .int .i64 (k : Int)] wr fun e w'' => e = .returned (.bool (zeroT x nm l.length k)) ∧ Below wr.heap.size wr w'') := HIZ.out k wr hk1 hlt
      obtain ⟨ao5, cap5, rfl, _⟩ := hown.bs.shape
      have HOW : Hid (∀ w', Below wr.heap.size wr w' → Own w1.heap.size w' (.slice ao5 L.length cap5) L ∧ Below w1.heap.size w1 w') := fun w' hb => ⟨hown.kept hb, andThen hbel hb⟩
      clear HAP hown
      cases hz : zeroT x nm l.length k with
      | true =>
        have HN : Hid (L ++ encN x nm l (12 - (k + 1)) = A) := by show _ = _; rw [← HST.out, hz]; rfl
        rw [hz] at HIZ1
        clear HST hz
        go_wp2_with fail
        refine HIZ1.out.mono ?_
        rintro e w4 ⟨rfl, b4⟩
        have HO4 := HOW.out _ b4
        clear c0 c1 c2 c3 c4 c5 c6 c7 c8 c9 c10 c11 HIZ1 HOW b4
        go_wp2
        go_roundw
        case rel => exact ⟨k + 1, L, by omega, by omega, by go_num, HO4.1, by omega, HN.out, HO4.2⟩
        case measure => simp [intOf]; omega
      | false =>
        have HN : Hid ((L ++ [k] ++ valB x nm l k) ++ encN x nm l (12 - (k + 1)) = A) := by show _ = _; rw [← HST.out, hz, Wn.uint_small k (by omega)]; simp
        have HL2 : Hid ((valB x nm l k).length ≤ 1000100) := HLN.out k hk1 hlt
        have HVK : Hid (∀ w', Below w1.heap.size w1 w' → Calls Tryd.prog 43 #[.agg #[.int .i64 x.v, .int .i64 x.k, .int .i64 x.s, .int .i64 x.p, .int .i64 x.t, .int .i64 x.a, .int .i64 x.l, .int .i64 x.c, .int .i64 x.n, .int .i64 x.i, .string nm, .slice ao l.length cap], .int .i64 (k : Int)] w' fun e w'' => ∃ v', e = .returned v' ∧ Own w'.heap.size w'' v' (valB x nm l k) ∧ Below w'.heap.size w' w'') := fun w' hb => HVL.out k w' (HK.out _ hb).2 hk1 hlt
        rw [hz] at HIZ1
        clear HST hz
        generalize valB x nm l k = V at *
        have i1 : IntKind.u8.wrap (k : Int) = (k : Int) := by
          exact IntWalk.u8_in _ (by omega)
        go_wp2_with fail
        refine HIZ1.out.mono ?_
        rintro e w4 ⟨rfl, b4⟩
        have HO4 := HOW.out _ b4
        clear c0 c1 c2 c3 c4 c5 c6 c7 c8 c9 c10 c11 HIZ1 HOW b4
        have HO5 : Hid (∀ o, Own w1.heap.size (w4.alloc o) (.slice ao5 L.length cap5) L ∧ Below w1.heap.size w1 (w4.alloc o)) := fun o => ⟨HO4.1.alloc o, up HO4.2 o⟩
        have hsz4 := HO4.2.size
        clear HO4
        go_wp2_with (at_builtin; refine wpList_append _ rfl (.tmp 23) (.tmp 26) 25 rfl w1.heap.size hin Tryd.underlying25 _ L rfl (HO5.out _).1 _ [k] rfl (Bs.one _ k (by omega) _ rfl) (by simp; omega) (HO5.out _).2.size ?_)
        intro v6 w6 ho6 b6 _
        have HO6 : Own w1.heap.size w6 v6 (L ++ [k]) ∧ Below w1.heap.size w1 w6 := ⟨ho6, (HO5.out _).2.trans b6⟩
        obtain ⟨ao7, cap7, rfl, _⟩ := ho6.bs.shape
        clear ho6 b6 HO5
        have HM1 : Hid ((L ++ [k]).length ≤ L.length + 10) := by show _ ≤ _; rw [List.length_append]; simp
        generalize L ++ [k] = M at *
        have hM1 : M.length ≤ L.length + 10 := HM1.out
        obtain ⟨c0, c1, c2, c3, c4, c5, c6, c7, c8, c9, c10, c11⟩ := (HK.out _ HO6.2).1.cells
        go_wp2_with fail
        refine (HVK.out _ HO6.2).mono ?_
        rintro e w7 ⟨v7, rfl, ho7, b7⟩
        obtain ⟨ao8, cap8, rfl, _⟩ := ho7.bs.shape
        have HO7 : Hid (Own w1.heap.size w7 (.slice ao7 M.length cap7) M ∧ Below w1.heap.size w1 w7 ∧ Bs w7 (.slice ao8 V.length cap8) V) := ⟨HO6.1.kept b7, andThen HO6.2 b7, ho7.bs⟩
        clear HO6 b7 ho7 HVK c0 c1 c2 c3 c4 c5 c6 c7 c8 c9 c10 c11
        go_wp2_with (at_builtin; refine wpList_append _ rfl (.tmp 31) (.tmp 32) 25 rfl w1.heap.size hin Tryd.underlying25 _ M rfl HO7.out.1 _ V rfl HO7.out.2.2 (by have := HL2.out; omega) HO7.out.2.1.size ?_)
        intro v8 w8 ho8 b8 _
        have HO8 : Hid (Own w1.heap.size w8 v8 (M ++ V) ∧ Below w1.heap.size w1 w8) := ⟨ho8, HO7.out.2.1.trans b8⟩
        clear ho8 b8 HO7
        go_wp2
        go_roundw
        case rel => exact ⟨k + 1, M ++ V, by omega, by omega, by go_num, HO8.out.1, by have := HL2.out; rw [List.length_append]; omega, HN.out, HO8.out.2⟩
        case measure => simp [intOf]; omega
    · obtain rfl : k = 12 := by omega
      have hE : L = A := by
        have := HAP.out
        rw [show 12 - 12 = 0 by omega] at this
        simpa [encN] using this
      obtain ⟨ao5, cap5, rfl, _⟩ := hown.bs.shape
      have HO : Hid (Own w.heap.size wr (.slice ao5 L.length cap5) L ∧ Below w.heap.size w wr) := ⟨hown.mono hW3, (HK.out _ hbel).2⟩
      subst hE
      clear hown HAP
      go_wp2
      go_ret2
      refine ⟨ao5, cap5, ?_, ?_, HO.out.2⟩
      · rw [HAQ.out]; rfl
      · rw [HAQ.out]; exact HO.out.1
set_option maxRecDepth 100000 in
set_option maxHeartbeats 1000000 in
theorem refencode_err (x : Nums) (nm : ByteArray) (d : Value) (l : List Nat) (w : World) (h : Bs w d l) (hT : Tabs w) (hb : x.fit) (hnm : nm.size ≤ 1048576) (hc : chk x nm l ≠ 0) :
    Calls Tryd.prog 22 #[rv x nm d] w fun e w' => e = .returned (.tuple #[.slice none 0 0, .int .i64 (chk x nm l)]) ∧ Below w.heap.size w w' := by
  have HX : Hid (∀ o, Below w.heap.size w (w.alloc o)) := fun o => up0 w o
  have HCH : Hid (∀ w', Below w.heap.size w w' → Calls Tryd.prog 21 #[rv x nm d] w' fun e w'' => e = .returned (.int .i64 (chk x nm l)) ∧ Below w'.heap.size w' w'') := fun w' hb' => refcheck_any x nm d l w' (h.kept hb') (hT.kept hb').rlets (hT.kept hb').rows hb.c (by omega)
  obtain ⟨ao, cap, rfl, _⟩ := h.shape
  have d1 : (chk x nm l != 0) = true := by rw [bne_iff_ne]; exact hc
  clear h hT hc
  generalize chk x nm l = z at *
  unfold rv at *
  go_enter Tryd.func22, Tryd.ntmps22
  go_wp2_with fail
  refine (HCH.out _ (HX.out _)).mono ?_
  rintro e w1 ⟨rfl, b1⟩
  have B1 := andThen (HX.out _) b1
  clear b1
  go_wp2
  go_ret2
  exact ⟨rfl, B1⟩
end Go.Proofs.YtenhaogheilmoaaDoor

/-
  Package archive: Pack of any archive of at most 120 records.
-/
namespace Go.Proofs.YtenhaogheilmoaaDoor
open Go Go.RowKit
open Wb

/-- the first error among records; 0: none -/
def badC : List Rec → Int
  | [] => 0
  | r :: rs => if chk r.x r.nm r.l ≠ 0 then chk r.x r.nm r.l else badC rs
theorem badC_drop : ∀ (rs : List Rec) (k : Nat), (∀ r ∈ rs.take k, chk r.x r.nm r.l = 0) → badC rs = badC (rs.drop k)
  | [], k, _ => by rw [List.drop_nil]
  | r :: rs, 0, _ => rfl
  | r :: rs, k + 1, h => by
    rw [List.drop_succ_cons, badC, if_neg (by simpa using h r (by rw [List.take_succ_cons]; exact List.mem_cons_self ..))]
    exact badC_drop rs k fun q hq => h q (by rw [List.take_succ_cons]; exact List.mem_cons_of_mem _ hq)
theorem badC_good : ∀ rs : List Rec, badC rs = 0 → ∀ r ∈ rs, chk r.x r.nm r.l = 0
  | [], _, r, hr => by cases hr
  | r :: rs, h, q, hq => by
    rw [badC] at h
    by_cases h0 : chk r.x r.nm r.l ≠ 0
    · rw [if_pos h0] at h
      exact absurd h h0
    · rw [if_neg h0] at h
      rcases List.mem_cons.1 hq with rfl | hq
      · simpa using h0
      · exact badC_good rs h q hq
theorem badC_at {rs : List Rec} {k : Nat} {r : Rec} (hr : rs[k]? = some r) : badC (rs.drop k) = if chk r.x r.nm r.l ≠ 0 then chk r.x r.nm r.l else badC (rs.drop (k + 1)) := by
  have hk := (List.getElem?_eq_some_iff.1 hr)
  rw [List.drop_eq_getElem_cons hk.1, hk.2, badC]
/-- what Pack answers (of few records) -/
def pkA (top : Int) (rs : List Rec) : Int × List Nat := if top < 0 then (86, []) else if badC rs ≠ 0 then (badC rs, []) else (0, Ar.pack recC top.toNat rs)
def PkPost (A : Int × List Nat) (w : World) (e : Ending) (w' : World) : Prop := ∃ a c, ∃ m : Nat, e = .returned (.tuple #[.slice a m c, .int .i64 A.1]) ∧ Own w.heap.size w' (.slice a m c) A.2 ∧ Below w.heap.size w w'
set_option maxRecDepth 100000 in
set_option maxHeartbeats 4000000 in
theorem arpack_any (top : Int) (rs : List Rec) (v : Value) (w : World) (ht : top ≤ 9223372036854775807) (h : RecsAt w v rs) (hg : ∀ r ∈ rs, r.nm.size ≤ 1048576 ∧ r.x.fit) (hn : rs.length ≤ 120) (hT : Tab w) (hT2 : Text.TabP 3 .i32 Text.Tx.lets w) (hG : TagsT w) :
    Calls Tryd.prog 7 #[.agg #[.int .i64 top, v]] w fun e w' => PkPost (pkA top rs) w e w' := by
  by_cases hz : top < 0
  · have hA : pkA top rs = (86, []) := by unfold pkA; rw [if_pos hz]
    rw [hA]
    obtain ⟨ao, cap, rfl, -, -⟩ := h
    have hd : (top < 0) = True := by simp [hz]
    clear hz hA hg hT hT2 hG
    go_enter Tryd.func7, Tryd.ntmps7
    go_wp2_with fail
    refine bodyPost_ret (by simp [results, Tryd.results7, go_sem]; try rfl) rfl ?_
    exact ⟨none, 0, 0, rfl, Own.nil _ _, up0 _ _⟩
  · by_cases hb : badC rs = 0
    · have hA : pkA top rs = (0, Ar.pack recC top.toNat rs) := by unfold pkA; rw [if_neg hz, if_neg (by simpa using hb)]
      rw [hA]
      have hgd : ∀ r ∈ rs, r.good := fun r hr => ⟨badC_good rs hb r hr, (hg r hr).2, recsAt_ok h r hr⟩
      have e := arpack_ok top.toNat rs v w h hgd (by omega) (by omega) (pack_small _ rs (by omega) hgd hn) hT hT2 hG
      rw [show ((top.toNat : Nat) : Int) = top by omega] at e
      exact e
    · have hA : pkA top rs = (badC rs, []) := by unfold pkA; rw [if_neg hz, if_pos hb]
      rw [hA]
      obtain ⟨Z, hZ⟩ : ∃ Z, badC rs = Z := ⟨_, rfl⟩
      rw [hZ]
      have HZ : Hid (badC rs = Z ∧ Z ≠ 0) := ⟨hZ, hZ ▸ hb⟩
      have HIR : Hid ((Tryd.prog.info? 44).map (·.size) = some 12) := infoRec
      have HRS : Hid (∀ w', Below w.heap.size w w' → RecsAt w' v rs) := fun w' hb => h.kept hb
      have HGE : Hid (∀ r ∈ rs, r.nm.size ≤ 1048576 ∧ r.x.fit) := hg
      have HTB : Hid (∀ w', Below w.heap.size w w' → Text.TabP 3 .i32 Text.Tx.lets w' ∧ TagsT w') := fun w' hb => ⟨hT2.kept hb, hG.kept hb⟩
      obtain ⟨ao, cap, rfl, hm, _⟩ := h
      have hd0 : (top < 0) = False := by simp; omega
      have HW0 : Hid (∀ W, W = w.alloc (.cells #[.int .i64 top, .slice ao rs.length cap] 30) → LB W w.heap.size 30 [.int .i64 top, .slice ao rs.length cap] ∧ Below w.heap.size w W) := fun W e => by
        subst e
        exact ⟨lb_new _ _ _, up0 _ _⟩
      clear hg hT hT2 hG hA hZ hb hz ht hm
      go_enter Tryd.func7, Tryd.ntmps7
      go_upto_region 3 with fail
      obtain ⟨W0, hW0⟩ : ∃ W0, W0 = w.alloc (.cells #[.int .i64 top, .slice ao rs.length cap] 30) := ⟨_, rfl⟩
      have HX0 : Hid (LB W0 w.heap.size 30 [.int .i64 top, .slice ao rs.length cap] ∧ Below w.heap.size w W0) := HW0.out _ hW0
      rw [← hW0]
      clear hW0 HW0
      have hb1 := HX0.out.1.cell 1 _ rfl
      go_wp2_with fail
      clear hb1
      go_loopw [17] (fun i wr => ∃ k : Nat, k ≤ rs.length ∧ i = .int .i64 (k : Int) ∧ (∀ r ∈ rs.take k, chk r.x r.nm r.l = 0) ∧ Below w.heap.size w wr) (fun i _ => rs.length - (intOf i).toNat)
      case atStart => exact ⟨0, Nat.zero_le _, rfl, fun r hr => by simp at hr, HX0.out.2⟩
      case round =>
        obtain ⟨k, hk, rfl, hall, hbw⟩ := hrel
        have HAL : Hid (∀ r ∈ rs.take k, chk r.x r.nm r.l = 0) := hall
        clear hall
        by_cases hlt : k < rs.length
        · obtain ⟨r, hr⟩ : ∃ r, rs[k]? = some r := ⟨rs[k], List.getElem?_eq_getElem hlt⟩
          obtain ⟨ao', cap', e', _, hcr⟩ := HRS.out _ hbw
          simp only [Value.slice.injEq] at e'
          obtain ⟨rfl, _, rfl⟩ := e'
          obtain ⟨b, off, d, rfl, hrg, hbs⟩ := hcr k r hr
          have hgr := HGE.out r (List.mem_of_getElem? hr)
          have HCK : Hid (∀ W, Below wr.heap.size wr W → Calls Tryd.prog 15 #[rv r.x r.nm d] W fun e w' => e = .returned (.int .i64 (chk r.x r.nm r.l)) ∧ Below W.heap.size W w') := fun W hW => check_any r.x r.nm d r.l W (hbs.kept hW) (HTB.out _ (andThen hbw hW)).1 (HTB.out _ (andThen hbw hW)).2 (by omega)
          obtain ⟨ar, cr, rfl, _⟩ := hbs.shape
          have HR0 : Hid (wr.rangeAt b (off + k * 12) [.int .i64 r.x.v, .int .i64 r.x.k, .int .i64 r.x.s, .int .i64 r.x.p, .int .i64 r.x.t, .int .i64 r.x.a, .int .i64 r.x.l, .int .i64 r.x.c, .int .i64 r.x.n, .int .i64 r.x.i, .string r.nm, .slice ar r.l.length cr]) := hrg
          have HR1 : Hid ((wr.alloc (.cells #[.int .i64 r.x.v, .int .i64 r.x.k, .int .i64 r.x.s, .int .i64 r.x.p, .int .i64 r.x.t, .int .i64 r.x.a, .int .i64 r.x.l, .int .i64 r.x.c, .int .i64 r.x.n, .int .i64 r.x.i, .string r.nm, .slice ar r.l.length cr] 44)).rangeAt wr.heap.size 0 [.int .i64 r.x.v, .int .i64 r.x.k, .int .i64 r.x.s, .int .i64 r.x.p, .int .i64 r.x.t, .int .i64 r.x.a, .int .i64 r.x.l, .int .i64 r.x.c, .int .i64 r.x.n, .int .i64 r.x.i, .string r.nm, .slice ar r.l.length cr]) := new_range wr #[.int .i64 r.x.v, .int .i64 r.x.k, .int .i64 r.x.s, .int .i64 r.x.p, .int .i64 r.x.t, .int .i64 r.x.a, .int .i64 r.x.l, .int .i64 r.x.c, .int .i64 r.x.n, .int .i64 r.x.i, .string r.nm, .slice ar r.l.length cr]
          have HBL : Hid (Below w.heap.size w wr ∧ rs[k]? = some r) := ⟨hbw, hr⟩
          clear hcr hrg hbs hr hgr hbw
          unfold rv at *
          by_cases hz : chk r.x r.nm r.l = 0
          · have HS : Hid (∀ q ∈ rs.take (k + 1), chk q.x q.nm q.l = 0) := fun q hq => by
              rw [List.take_add_one, HBL.out.2] at hq
              rcases List.mem_append.1 hq with hq | hq
              · exact HAL.out q hq
              · obtain rfl := List.mem_singleton.1 hq
                exact hz
            rw [hz] at HCK
            clear hz
            go_wp2_with (first
              | (refine wpList_load_mid rfl 44 _ rfl b (off + k * 12) rfl [.int .i64 r.x.v, .int .i64 r.x.k, .int .i64 r.x.s, .int .i64 r.x.p, .int .i64 r.x.t, .int .i64 r.x.a, .int .i64 r.x.l, .int .i64 r.x.c, .int .i64 r.x.n, .int .i64 r.x.i, .string r.nm, .slice ar r.l.length cr] _ HR0.out Tryd.underlying44 rfl HIR.out ?_)
              | (refine wpList_load_mid rfl 44 _ rfl wr.heap.size 0 rfl [.int .i64 r.x.v, .int .i64 r.x.k, .int .i64 r.x.s, .int .i64 r.x.p, .int .i64 r.x.t, .int .i64 r.x.a, .int .i64 r.x.l, .int .i64 r.x.c, .int .i64 r.x.n, .int .i64 r.x.i, .string r.nm, .slice ar r.l.length cr] _ HR1.out Tryd.underlying44 rfl HIR.out ?_))
            refine (HCK.out _ (up0 _ _)).mono ?_
            rintro e w1 ⟨rfl, b1⟩
            have HB2 : Hid (Below w.heap.size w w1) := andThen (up HBL.out.1 _) b1
            clear b1 HCK HR0 HR1 HBL HAL
            go_wp2_with fail
            go_roundw
            case rel => exact ⟨k + 1, by omega, by go_num, HS.out, HB2.out⟩
            case measure => simp [intOf]; omega
          · have hzc : chk r.x r.nm r.l = Z := by
              have e1 := badC_drop rs k HAL.out
              rw [HZ.out.1, badC_at HBL.out.2, if_pos hz] at e1
              exact e1.symm
            rw [hzc] at HCK
            have hzb : (Z != 0) = true := by have := HZ.out.2; simp [this]
            clear hz hzc
            go_wp2_with (first
              | (refine wpList_load_mid rfl 44 _ rfl b (off + k * 12) rfl [.int .i64 r.x.v, .int .i64 r.x.k, .int .i64 r.x.s, .int .i64 r.x.p, .int .i64 r.x.t, .int .i64 r.x.a, .int .i64 r.x.l, .int .i64 r.x.c, .int .i64 r.x.n, .int .i64 r.x.i, .string r.nm, .slice ar r.l.length cr] _ HR0.out Tryd.underlying44 rfl HIR.out ?_)
              | (refine wpList_load_mid rfl 44 _ rfl wr.heap.size 0 rfl [.int .i64 r.x.v, .int .i64 r.x.k, .int .i64 r.x.s, .int .i64 r.x.p, .int .i64 r.x.t, .int .i64 r.x.a, .int .i64 r.x.l, .int .i64 r.x.c, .int .i64 r.x.n, .int .i64 r.x.i, .string r.nm, .slice ar r.l.length cr] _ HR1.out Tryd.underlying44 rfl HIR.out ?_))
            refine (HCK.out _ (up0 _ _)).mono ?_
            rintro e w1 ⟨rfl, b1⟩
            have HB2 : Hid (Below w.heap.size w w1) := andThen (up HBL.out.1 _) b1
            clear b1 HCK HR0 HR1 HBL HAL
            go_wp2_with fail
            refine bodyPost_ret (by simp [results, Tryd.results7, go_sem]; try rfl) rfl ?_
            exact ⟨none, 0, 0, rfl, Own.nil _ _, HB2.out⟩
        · exfalso
          obtain rfl : k = rs.length := by omega
          have e1 := badC_drop rs rs.length HAL.out
          rw [HZ.out.1, List.drop_length] at e1
          exact HZ.out.2 e1
end Go.Proofs.YtenhaogheilmoaaDoor

/-
  The reference's Pack of any archive of at most 120 records.
-/
namespace Go.Proofs.YtenhaogheilmoaaDoor
open Go Go.RowKit
open Wb

theorem fore_small (top : Nat) (rs : List Rec) (ht : top ≤ 9223372036854775807) (hg : ∀ r ∈ rs, r.good) (hn : rs.length ≤ 120) (k : Nat) : (Ar.hd ++ Ar.fst top rs.length ++ Ar.rcs recC (rs.take k)).length ≤ 4000000 := by
  have e1 := fst_len top rs.length (by omega) (by omega)
  have e3 := rcs_len (rs.take k) fun r hr => hg r (List.mem_of_mem_take hr)
  have e5 : (rs.take k).length * 33040 ≤ 120 * 33040 := Nat.mul_le_mul_right _ (by rw [List.length_take]; omega)
  rw [List.length_append, List.length_append]
  simp only [Ar.hd, List.length_cons, List.length_nil]
  omega
set_option maxRecDepth 100000 in
set_option maxHeartbeats 8000000 in
theorem rarpack_any (top : Int) (rs : List Rec) (v : Value) (w : World) (ht : top ≤ 9223372036854775807) (h : RecsAt w v rs) (hg : ∀ r ∈ rs, r.nm.size ≤ 1048576 ∧ r.x.fit) (hn : rs.length ≤ 120) (hTs : Tabs w) :
    Calls Tryd.prog 8 #[.agg #[.int .i64 top, v]] w fun e w' => PkPost (pkA top rs) w e w' := by
  have hok := recsAt_ok h
  by_cases hz : top < 0
  · have hA : pkA top rs = (86, []) := by unfold pkA; rw [if_pos hz]
    rw [hA]
    obtain ⟨ao, cap, rfl, -, -⟩ := h
    have hd : (top < 0) = True := by simp [hz]
    clear hz hA hg hTs
    go_enter Tryd.func8, Tryd.ntmps8
    go_wp2_with fail
    refine bodyPost_ret (by simp [results, Tryd.results8, go_sem]; try rfl) rfl ?_
    exact ⟨none, 0, 0, rfl, Own.nil _ _, up0 _ _⟩
  · obtain ⟨tn, rfl⟩ : ∃ tn : Nat, top = (tn : Int) := ⟨top.toNat, by omega⟩
    obtain ⟨A, hA⟩ : ∃ A, pkA (tn : Int) rs = A := ⟨_, rfl⟩
    rw [hA]
    have HA : Hid (A = if badC rs ≠ 0 then (badC rs, []) else (0, Ar.pack recC tn rs)) := by
      show _ = _
      rw [← hA]
      unfold pkA
      rw [if_neg hz, Int.toNat_natCast]
    have hin := info5
    have HIR : Hid ((Tryd.prog.info? 44).map (·.size) = some 12) := infoRec
    have HRS : Hid (∀ w', Below w.heap.size w w' → RecsAt w' v rs) := fun w' hb => h.kept hb
    have HGE : Hid (∀ r ∈ rs, r.nm.size ≤ 1048576 ∧ r.x.fit ∧ ok r.l) := fun r hr => ⟨(hg r hr).1, (hg r hr).2, hok r hr⟩
    have HTB : Hid (∀ w', Below w.heap.size w w' → Tabs w') := fun w' hb => hTs.kept hb
    have HT9 : Hid (tn < 18446744073709551616 ∧ rs.length < 18446744073709551616 ∧ tn ≤ 9223372036854775807 ∧ rs.length ≤ 120) := ⟨by omega, by omega, by omega, hn⟩
    have HF : Hid (∀ W, Calls Tryd.prog 20 #[.int .i64 (tn : Int), .int .i64 (rs.length : Int)] W fun e w' => ∃ a c, ∃ m : Nat, e = .returned (.slice a m c) ∧ Own W.heap.size w' (.slice a m c) (Ar.fst tn rs.length) ∧ Below W.heap.size W w') := fun W => rarfirst_any tn rs.length W (by omega) (by omega)
    have HLA : Hid (∀ v L W, Bs W v L → Calls Tryd.prog 24 #[v] W fun e w' => ∃ a c, ∃ m : Nat, e = .returned (.slice a m c) ∧ Own W.heap.size w' (.slice a m c) (Ar.lst L) ∧ Below W.heap.size W w') := fun v L W h => rarlast_any v L W h
    obtain ⟨ao, cap, rfl, hm, _⟩ := h
    have kc := hd_conv (w.alloc (.cells #[.int .i64 (tn : Int), .slice ao rs.length cap] 30))
    rw [heap_one] at kc
    have HLT : Hid (Bs ((w.alloc (.cells #[.int .i64 (tn : Int), .slice ao rs.length cap] 30)).alloc (.cells #[.int .u8 65, .int .u8 78, .int .u8 65, .int .u8 82, .int .u8 1] 5 (5, 6))) (.slice (some ⟨w.heap.size + 1, 0, none⟩) 5 5) Ar.hd) := by
      have e := hd_new (w.alloc (.cells #[.int .i64 (tn : Int), .slice ao rs.length cap] 30))
      rw [heap_one] at e
      exact e
    have HX : Hid (LB ((w.alloc (.cells #[.int .i64 (tn : Int), .slice ao rs.length cap] 30)).alloc (.cells #[.int .u8 65, .int .u8 78, .int .u8 65, .int .u8 82, .int .u8 1] 5 (5, 6))) w.heap.size 30 [.int .i64 (tn : Int), .slice ao rs.length cap] ∧ Below w.heap.size w ((w.alloc (.cells #[.int .i64 (tn : Int), .slice ao rs.length cap] 30)).alloc (.cells #[.int .u8 65, .int .u8 78, .int .u8 65, .int .u8 82, .int .u8 1] 5 (5, 6)))) := ⟨(lb_new w _ _).kept (up0 _ _), up (up0 _ _) _⟩
    have hd0 : ((tn : Int) < 0) = False := by simp
    clear hg hTs hok hA hz ht hn
    go_enter Tryd.func8, Tryd.ntmps8
    go_upto_region 4 with fail
    obtain ⟨W0, hW0⟩ : ∃ W0, W0 = (w.alloc (.cells #[.int .i64 (tn : Int), .slice ao rs.length cap] 30)).alloc (.cells #[.int .u8 65, .int .u8 78, .int .u8 65, .int .u8 82, .int .u8 1] 5 (5, 6)) := ⟨_, rfl⟩
    rw [← hW0] at HLT HX ⊢
    clear hW0 kc
    have y0 := HX.out.1.cell 0 _ rfl
    have y1 := HX.out.1.cell 1 _ rfl
    go_wp2_with fail
    refine (HF.out _).mono ?_
    rintro e w1 ⟨a1, c1, m1, rfl, o1, b1⟩
    have st : Hid (PS 2 4 W0 tn rs.length w1 (w.heap.size + 1) (.slice none 0 0) (.slice none 0 0) (.slice none 0 0) (.slice a1 m1 c1)) := ⟨b1, HLT.out.kept b1, o1.bs⟩
    clear o1 b1 y0 y1 HLT HF
    go_wp2_with (at_builtin; refine wpList_step fun _ hKK => step_head rfl (.tmp 18) (.tmp 24) rfl st.out rfl rfl HT9.out.1 HT9.out.2.1 fun W2 a2 c2 m2 o2 b2 => hKK _ _ ?_)
    have H2 : Hid (Own W0.heap.size W2 (.slice a2 m2 c2) (Ar.hd ++ Ar.fst tn rs.length ++ Ar.rcs recC (rs.take 0)) ∧ Below W0.heap.size W0 W2) := ⟨by rw [show Ar.rcs recC (rs.take 0) = [] from rfl, List.append_nil]; exact o2, b2⟩
    have hrl := HT9.out.2.2.2
    clear st o2 b2
    go_wp2_with fail
    go_loopw [5] (fun i wr => ∃ k : Nat, k ≤ rs.length ∧ i = .int .i64 (k : Int) ∧ (∀ r ∈ rs.take k, chk r.x r.nm r.l = 0) ∧ Below W2.heap.size W2 wr) (fun i _ => rs.length - (intOf i).toNat)
    case atStart => exact ⟨0, Nat.zero_le _, rfl, fun r hr => by simp at hr, Below.refl _ _⟩
    case round =>
      obtain ⟨k, hk, rfl, hall, hbel⟩ := hrel
      have HAL : Hid (∀ r ∈ rs.take k, chk r.x r.nm r.l = 0) := hall
      clear hall
      have hb0 : Below W0.heap.size W0 wr := H2.out.2.trans (hbel.mono H2.out.2.size)
      have y1 := (HX.out.1.kept hb0).cell 1 _ rfl
      have hbw : Below w.heap.size w wr := HX.out.2.trans (hb0.mono HX.out.2.size)
      by_cases hlt : k < rs.length
      · obtain ⟨r, hr⟩ : ∃ r, rs[k]? = some r := ⟨rs[k], List.getElem?_eq_getElem hlt⟩
        obtain ⟨ao', cap', e', _, hcr⟩ := HRS.out _ hbw
        simp only [Value.slice.injEq] at e'
        obtain ⟨rfl, _, rfl⟩ := e'
        obtain ⟨b, off, d, rfl, hrg, hbs⟩ := hcr k r hr
        have hgr := HGE.out r (List.mem_of_getElem? hr)
        have HCK : Hid (Calls Tryd.prog 21 #[rv r.x r.nm d] wr fun e w' => e = .returned (.int .i64 (chk r.x r.nm r.l)) ∧ Below wr.heap.size wr w') := refcheck_any r.x r.nm d r.l wr hbs (HTB.out _ hbw).rlets (HTB.out _ hbw).rows hgr.2.1.c (by omega)
        obtain ⟨ar, cr, rfl, _⟩ := hbs.shape
        have HR0 : Hid (wr.rangeAt b (off + k * 12) [.int .i64 r.x.v, .int .i64 r.x.k, .int .i64 r.x.s, .int .i64 r.x.p, .int .i64 r.x.t, .int .i64 r.x.a, .int .i64 r.x.l, .int .i64 r.x.c, .int .i64 r.x.n, .int .i64 r.x.i, .string r.nm, .slice ar r.l.length cr]) := hrg
        have HBL : Hid (Below W2.heap.size W2 wr ∧ rs[k]? = some r ∧ Below w.heap.size w wr) := ⟨hbel, hr, hbw⟩
        clear hcr hrg hbs hr hgr hbw hbel hb0
        unfold rv at *
        by_cases hz : chk r.x r.nm r.l = 0
        · have HS : Hid (∀ q ∈ rs.take (k + 1), chk q.x q.nm q.l = 0) := fun q hq => by
            rw [List.take_add_one, HBL.out.2.1] at hq
            rcases List.mem_append.1 hq with hq | hq
            · exact HAL.out q hq
            · obtain rfl := List.mem_singleton.1 hq
              exact hz
          rw [hz] at HCK
          clear hz
          go_wp2_with (refine wpList_load_mid rfl 44 _ rfl b (off + k * 12) rfl [.int .i64 r.x.v, .int .i64 r.x.k, .int .i64 r.x.s, .int .i64 r.x.p, .int .i64 r.x.t, .int .i64 r.x.a, .int .i64 r.x.l, .int .i64 r.x.c, .int .i64 r.x.n, .int .i64 r.x.i, .string r.nm, .slice ar r.l.length cr] _ HR0.out Tryd.underlying44 rfl HIR.out ?_)
          refine HCK.out.mono ?_
          rintro e w3 ⟨rfl, b3⟩
          have HB3 : Hid (Below W2.heap.size W2 w3) := andThen HBL.out.1 b3
          clear b3 HCK HR0 HBL HAL
          go_wp2_with fail
          go_roundw
          case rel => exact ⟨k + 1, by omega, by go_num, HS.out, HB3.out⟩
          case measure => simp [intOf]; omega
        · have HAZ : Hid (A = (chk r.x r.nm r.l, [])) := by
            have e1 := badC_drop rs k HAL.out
            rw [badC_at HBL.out.2.1, if_pos hz] at e1
            show A = _
            rw [HA.out, e1, if_pos hz]
          have hzb : (chk r.x r.nm r.l != 0) = true := by simp [hz]
          generalize chk r.x r.nm r.l = Z at *
          clear hz
          go_wp2_with (refine wpList_load_mid rfl 44 _ rfl b (off + k * 12) rfl [.int .i64 r.x.v, .int .i64 r.x.k, .int .i64 r.x.s, .int .i64 r.x.p, .int .i64 r.x.t, .int .i64 r.x.a, .int .i64 r.x.l, .int .i64 r.x.c, .int .i64 r.x.n, .int .i64 r.x.i, .string r.nm, .slice ar r.l.length cr] _ HR0.out Tryd.underlying44 rfl HIR.out ?_)
          refine HCK.out.mono ?_
          rintro e w3 ⟨rfl, b3⟩
          have HB3 : Hid (Below w.heap.size w w3) := andThen HBL.out.2.2 b3
          clear b3 HCK HR0 HBL HAL
          go_wp2_with fail
          refine bodyPost_ret (by simp [results, Tryd.results8, go_sem]; try rfl) rfl ?_
          rw [HAZ.out]
          exact ⟨none, 0, 0, rfl, Own.nil _ _, HB3.out⟩
      · obtain rfl : k = rs.length := by omega
        have HGD : Hid (∀ r ∈ rs, r.good) := fun r hr => ⟨HAL.out r (by rw [List.take_length]; exact hr), (HGE.out r hr).2.1, (HGE.out r hr).2.2⟩
        have HAP : Hid (A = (0, Ar.pack recC tn rs)) := by
          have e1 := badC_drop rs rs.length HAL.out
          rw [List.drop_length] at e1
          show A = _
          rw [HA.out, e1]
          rfl
        obtain ⟨w4, hw4⟩ : ∃ x, x = wr := ⟨_, rfl⟩
        subst hw4
        have H4 : Hid (Own W0.heap.size w4 (.slice a2 m2 c2) (Ar.hd ++ Ar.fst tn rs.length ++ Ar.rcs recC (rs.take 0)) ∧ Below W0.heap.size W0 w4) := ⟨H2.out.1.kept hbel, hb0⟩
        clear hbel hb0 hbw H2 HAL HA hk hlt
        go_wp2_with fail
        go_loopw [4, 7] (fun o i wr => ∃ (k m : Nat) (a : Option Addr) (c : Nat), k ≤ rs.length ∧ o = .slice a m c ∧ i = .int .i64 (k : Int) ∧ Own W0.heap.size wr (.slice a m c) (Ar.hd ++ Ar.fst tn rs.length ++ Ar.rcs recC (rs.take k)) ∧ Below W0.heap.size W0 wr) (fun _ i _ => rs.length - (intOf i).toNat)
        case atStart => exact ⟨0, m2, a2, c2, Nat.zero_le _, rfl, rfl, H4.out.1, H4.out.2⟩
        case round =>
          clear H4 y1
          obtain ⟨k, m, a, c, hk, rfl, rfl, ho, hbel⟩ := hrel
          have y1 := (HX.out.1.kept hbel).cell 1 _ rfl
          have hbw : Below w.heap.size w wr := HX.out.2.trans (hbel.mono HX.out.2.size)
          have hle := fore_small tn rs HT9.out.2.2.1 HGD.out hrl k
          obtain ⟨L, hL⟩ : ∃ L, Ar.hd ++ Ar.fst tn rs.length ++ Ar.rcs recC (rs.take k) = L := ⟨_, rfl⟩
          rw [hL] at ho hle
          have hml : m = L.length := by
            obtain ⟨_, _, e, -⟩ := ho.bs.shape
            simp only [Value.slice.injEq] at e
            exact e.2.1
          have hdm : ((m : Int) ≤ 8388608) = True := by simp only [eq_iff_iff, iff_true]; omega
          have HL : Hid (Ar.hd ++ Ar.fst tn rs.length ++ Ar.rcs recC (rs.take k) = L ∧ m = L.length ∧ L.length ≤ 4000000) := ⟨hL, hml, hle⟩
          clear hL hml hle
          by_cases hlt : k < rs.length
          · obtain ⟨r, hr⟩ : ∃ r, rs[k]? = some r := ⟨rs[k], List.getElem?_eq_getElem hlt⟩
            obtain ⟨ao', cap', e', _, hcr⟩ := HRS.out _ hbw
            simp only [Value.slice.injEq] at e'
            obtain ⟨rfl, _, rfl⟩ := e'
            obtain ⟨b, off, d, rfl, hrg, hbs⟩ := hcr k r hr
            have hgr := HGD.out r (List.mem_of_getElem? hr)
            have HEN : Hid (Calls Tryd.prog 22 #[rv r.x r.nm d] wr fun e w' => ∃ a3 c3, ∃ m3 : Nat, e = .returned (.tuple #[.slice a3 m3 c3, .int .i64 0]) ∧ Own wr.heap.size w' (.slice a3 m3 c3) (enc r.x r.nm r.l) ∧ Below wr.heap.size wr w') := (refencode_ok r.x r.nm d r.l wr hbs (HTB.out _ hbw) hgr.2.1 (by have := hgr.short; omega) hgr.short.2 hgr.nice hgr.1).mono fun e w' ⟨ao, cap, he, o, b⟩ => ⟨ao, cap, _, he, o, b⟩
            have hvv := hgr.v
            obtain ⟨vn, hvn⟩ : ∃ vn : Nat, r.x.v = (vn : Int) := ⟨r.x.v.toNat, by omega⟩
            obtain ⟨ar, cr, rfl, _⟩ := hbs.shape
            have HR0 : Hid (∀ W, Below wr.heap.size wr W → W.rangeAt b (off + k * 12) [.int .i64 r.x.v, .int .i64 r.x.k, .int .i64 r.x.s, .int .i64 r.x.p, .int .i64 r.x.t, .int .i64 r.x.a, .int .i64 r.x.l, .int .i64 r.x.c, .int .i64 r.x.n, .int .i64 r.x.i, .string r.nm, .slice ar r.l.length cr] ∧ W.cell? ⟨b, off + k * 12, none⟩ = some (.int .i64 (vn : Int))) := fun W hW => ⟨range_kept hrg hW, by have e9 := range_kept hrg hW 0 _ rfl; rw [hvn] at e9; exact e9⟩
            have hwv : IntKind.u8.wrap (vn : Int) = (vn : Int) := IntWalk.u8_in _ (by omega)
            have HBL : Hid (Own W0.heap.size wr (.slice a m c) L ∧ Below W0.heap.size W0 wr) := ⟨ho, hbel⟩
            have HTK : Hid (Ar.rcs recC (rs.take (k + 1)) = Ar.rcs recC (rs.take k) ++ fr (82 :: vn :: enc r.x r.nm r.l)) := by
              have e9 := rcs_snoc rs k r hr
              have e8 : Ar.rcb recC r = 82 :: vn :: enc r.x r.nm r.l := by
                show 82 :: r.x.v.toNat :: enc r.x r.nm r.l = _
                rw [hvn, Int.toNat_natCast]
              rw [e8] at e9
              exact e9
            have HEL : Hid ((enc r.x r.nm r.l).length ≤ 33020 ∧ vn < 256) := ⟨hgr.tight, by omega⟩
            have HYY : Hid (∀ W, Below wr.heap.size wr W → W.cell? ⟨w.heap.size, 1, none⟩ = some (.slice (some ⟨b, off, none⟩) rs.length cap)) := fun W hW => ((HX.out.1.kept hbel).kept hW).cell 1 _ rfl
            clear hcr hrg hbs hbel hr hgr hbw ho hvv hvn
            unfold rv at *
            generalize enc r.x r.nm r.l = N at *
            go_wp2_with (refine wpList_load_mid rfl 44 _ rfl b (off + k * 12) rfl [.int .i64 r.x.v, .int .i64 r.x.k, .int .i64 r.x.s, .int .i64 r.x.p, .int .i64 r.x.t, .int .i64 r.x.a, .int .i64 r.x.l, .int .i64 r.x.c, .int .i64 r.x.n, .int .i64 r.x.i, .string r.nm, .slice ar r.l.length cr] _ (HR0.out _ (Below.refl _ _)).1 Tryd.underlying44 rfl HIR.out ?_)
            refine HEN.out.mono ?_
            rintro e w3 ⟨a3, c3, m3, rfl, o3, b3⟩
            have x3 := (HR0.out _ b3).2
            have y3 := HYY.out _ b3
            have H3 : Hid (Own W0.heap.size w3 (.slice a m c) L ∧ Bs w3 (.slice a3 m3 c3) N ∧ Below W0.heap.size W0 w3 ∧ Own w3.heap.size (w3.alloc (.cells #[.int .u8 82, .int .u8 (vn : Int)] 5)) (.slice (some ⟨w3.heap.size, 0, none⟩) 2 2) [82, vn]) := ⟨HBL.out.1.kept b3, o3.bs, andThen HBL.out.2 b3, Own.lit (B := w3.heap.size) w3 [82, vn] (by intro q hq; simp at hq; have := HEL.out.2; omega) (Nat.le_refl _) (by simp [maxLen]) _ rfl⟩
            clear o3 b3 HBL HEN HR0 HYY y1
            go_wp2_with (at_builtin; refine wpList_append _ rfl (.tmp 71) (.tmp 72) 25 rfl w3.heap.size hin Tryd.underlying25 _ [82, vn] rfl H3.out.2.2.2 _ N rfl (H3.out.2.1.alloc _) (by have := HEL.out.1; simp; omega) (by rw [heap_one]; omega) ?_)
            intro v6 w6 o6 b6 _
            have b36 : Below w3.heap.size w3 w6 := (up0 _ _).trans b6
            have HFR : Hid (Calls Tryd.prog 23 #[v6] w6 fun e w' => ∃ a7 c7, ∃ m7 : Nat, e = .returned (.tuple #[.slice a7 m7 c7, .int .i64 0]) ∧ Bs w' (.slice a7 m7 c7) (fr (82 :: vn :: N)) ∧ Below w6.heap.size w6 w') := (rframe_ok v6 (82 :: vn :: N) w6 o6.bs (by simp) (by have := HEL.out.1; simp only [List.length_cons]; omega)).mono fun e w' ⟨v', he, o, b⟩ => by
              obtain ⟨a7, c7, rfl, -⟩ := o.bs.shape
              exact ⟨a7, c7, _, he, o.bs, b⟩
            have H6 : Hid (Own W0.heap.size w6 (.slice a m c) L ∧ Below W0.heap.size W0 w6) := ⟨H3.out.1.kept b36, andThen H3.out.2.2.1 b36⟩
            have ⟨a6, c6, m6, e6⟩ : ∃ a6, ∃ c6 m6 : Nat, v6 = .slice a6 m6 c6 := by obtain ⟨a6, c6, e, -⟩ := o6.bs.shape; exact ⟨a6, c6, _, e⟩
            subst e6
            clear o6 b6 b36 H3 x3 y3
            go_wp2_with fail
            refine HFR.out.mono ?_
            rintro e w7 ⟨a7, c7, m7, rfl, o7, b7⟩
            have H7 : Hid (Own W0.heap.size w7 (.slice a m c) L ∧ Bs w7 (.slice a7 m7 c7) (fr (82 :: vn :: N)) ∧ Below W0.heap.size W0 w7 ∧ W0.heap.size ≤ w7.heap.size) := ⟨H6.out.1.kept b7, o7, andThen H6.out.2 b7, (andThen H6.out.2 b7).size⟩
            have HFL : Hid ((fr (82 :: vn :: N)).length ≤ 200000) := by
              have e1 := HEL.out.1
              show (fr _).length ≤ _
              rw [fr_length]
              have e3 := Wn.uint_len10 (82 :: vn :: N).length (by simp only [List.length_cons]; omega)
              simp only [List.length_cons] at *
              omega
            clear o7 b7 H6 HFR
            go_wp2_with (at_builtin; refine wpList_append _ rfl (.tmp 79) (.tmp 80) 25 rfl W0.heap.size hin Tryd.underlying25 _ L rfl H7.out.1 _ (fr (82 :: vn :: N)) rfl H7.out.2.1 (by have := HL.out.2.2; have := HFL.out; omega) H7.out.2.2.2 ?_)
            intro v8 w8 o8 b8 _
            have ⟨a8, c8, m8, e8⟩ : ∃ a8, ∃ c8 m8 : Nat, v8 = .slice a8 m8 c8 := by obtain ⟨a8, c8, e, -⟩ := o8.bs.shape; exact ⟨a8, c8, _, e⟩
            subst e8
            have H8 : Hid (Own W0.heap.size w8 (.slice a8 m8 c8) (Ar.hd ++ Ar.fst tn rs.length ++ Ar.rcs recC (rs.take (k + 1))) ∧ Below W0.heap.size W0 w8) := ⟨by rw [HTK.out, ← List.append_assoc, HL.out.1]; exact o8, H7.out.2.2.1.trans b8⟩
            clear o8 b8 H7 HL HTK HFL HEL
            go_wp2_with fail
            go_roundw
            case rel => exact ⟨k + 1, m8, a8, c8, by omega, rfl, by go_num, H8.out.1, H8.out.2⟩
            case measure => simp [intOf]; omega
          · obtain rfl : k = rs.length := by omega
            have HLF : Hid (L = Ar.fore recC tn rs) := by
              show L = _
              rw [← HL.out.1, List.take_length]
              rfl
            have hd8 : ((8388597 : Int) < (m : Int)) = False := by have := HL.out.2; simp; omega
            have H5 : Hid (Own W0.heap.size wr (.slice a m c) L ∧ Below W0.heap.size W0 wr) := ⟨ho, hbel⟩
            clear ho hbel hbw
            go_wp2_with fail
            refine (HLA.out _ _ _ H5.out.1.bs).mono ?_
            rintro e w6 ⟨a6, c6, m6, rfl, o6, b6⟩
            have H6 : Hid (Own W0.heap.size w6 (.slice a m c) L ∧ Bs w6 (.slice a6 m6 c6) (Ar.lst L) ∧ Below W0.heap.size W0 w6 ∧ W0.heap.size ≤ w6.heap.size ∧ (Ar.lst L).length ≤ 100) := ⟨H5.out.1.kept b6, o6.bs, andThen H5.out.2 b6, (andThen H5.out.2 b6).size, lst_len L⟩
            clear o6 b6 H5 HLA
            go_wp2_with (at_builtin; refine wpList_append _ rfl (.tmp 85) (.tmp 87) 25 rfl W0.heap.size hin Tryd.underlying25 _ L rfl H6.out.1 _ (Ar.lst L) rfl H6.out.2.1 (by have := HL.out.2.2; have := H6.out.2.2.2.2; omega) H6.out.2.2.2.1 ?_)
            intro v8 w8 o8 b8 _
            have ⟨a8, c8, m8, e8⟩ : ∃ a8, ∃ c8 m8 : Nat, v8 = .slice a8 m8 c8 := by obtain ⟨a8, c8, e, -⟩ := o8.bs.shape; exact ⟨a8, c8, _, e⟩
            subst e8
            have H8 : Hid (Own w.heap.size w8 (.slice a8 m8 c8) (Ar.pack recC tn rs) ∧ Below w.heap.size w w8) := ⟨by
              have e9 : L ++ Ar.lst L = Ar.pack recC tn rs := by
                rw [HLF.out]
                rfl
              rw [← e9]
              exact own_weak o8 HX.out.2.size, HX.out.2.trans ((H6.out.2.2.1.trans b8).mono HX.out.2.size)⟩
            clear o8 b8 H6 HL HLF
            go_wp2_with fail
            refine bodyPost_ret (by simp [results, Tryd.results8, go_sem]; try rfl) rfl ?_
            rw [HAP.out]
            exact ⟨_, _, _, rfl, H8.out.1, H8.out.2⟩
end Go.Proofs.YtenhaogheilmoaaDoor
