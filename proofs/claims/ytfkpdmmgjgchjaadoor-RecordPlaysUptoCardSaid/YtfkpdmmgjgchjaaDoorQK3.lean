import Derived.Test.YtfkpdmmgjgchjaaDoorQK2
import Derived.Test.YtfkpdmmgjgchjaaDoorQW2
import Derived.Test.YtfkpdmmgjgchjaaDoorQR3
import Derived.Test.YtfkpdmmgjgchjaaDoorQR5
/-
  The reference's record: value, Encode.
-/
namespace Go.Proofs.YtfkpdmmgjgchjaaDoor
open Go Go.RowKit
open Wb

set_option maxRecDepth 100000 in
set_option maxHeartbeats 1000000 in
theorem refvalue_num (x : Nums) (nm : ByteArray) (ao : Option Addr) (n cap : Nat) (l : List Nat) (t : Nat) (w : World) (h1 : 1 ≤ t) (h2 : t ≤ 9) (h7 : t ≠ 7) (hz0 : 0 ≤ x.tag t) (hz1 : x.tag t ≤ 9223372036854775807) :
    Calls Tryd.prog 39 #[rv x nm (.slice ao n cap), .int .i64 (t : Int)] w fun e w' => ∃ v', e = .returned v' ∧ Own w.heap.size w' v' (valB x nm l t) ∧ Below w.heap.size w w' := by
  have HX : Hid (∀ o, Below w.heap.size w (w.alloc o) ∧ w.heap.size ≤ (w.alloc o).heap.size) := fun o => ⟨up0 w o, (up0 w o).size⟩
  have HN : Hid (∀ w', Calls Tryd.prog 36 #[rv x nm (.slice ao n cap), .int .i64 (t : Int)] w' fun e w'' => e = .returned (.int .i64 (x.tag t)) ∧ Below w'.heap.size w' w'') := fun w' => number_any x nm ao n cap t w' h1 h2
  have HU : Hid (∀ w', Calls Tryd.prog 60 #[.int .u64 (x.tag t)] w' fun e w'' => ∃ v', e = .returned v' ∧ Own w'.heap.size w'' v' (Wn.uint (x.tag t).toNat) ∧ Below w'.heap.size w' w'') := fun w' => by
    have := ruint_any (x.tag t).toNat w' (by omega)
    rwa [show (((x.tag t).toNat : Nat) : Int) = x.tag t by omega] at this
  have HV : Hid (valB x nm l t = Wn.uint (x.tag t).toNat) := by
    show _ = _
    unfold valB
    rw [if_neg h7, if_neg (by omega), if_neg (by omega)]
  rw [HV.out]
  have e7 : ((t : Int) == 7) = false := by rw [beq_eq_false_iff_ne]; omega
  have e10 : ((t : Int) == 10) = false := by rw [beq_eq_false_iff_ne]; omega
  have e11 : ((t : Int) == 11) = false := by rw [beq_eq_false_iff_ne]; omega
  clear HV
  generalize Wn.uint (x.tag t).toNat = V at *
  generalize x.tag t = z at *
  unfold rv at *
  go_enter Tryd.func39, Tryd.ntmps39
  go_wp2_with fail
  refine (HN.out _).mono ?_
  rintro e w1 ⟨rfl, b1⟩
  have B1 : Below w.heap.size w w1 ∧ w.heap.size ≤ w1.heap.size := ⟨andThen (HX.out _).1 b1, (andThen (HX.out _).1 b1).size⟩
  clear b1
  go_wp2_with fail
  refine (HU.out _).mono ?_
  rintro e w2 ⟨v2, rfl, ho, hb⟩
  obtain ⟨ao1, cap1, rfl, _⟩ := ho.bs.shape
  have HO : Hid (Own w.heap.size w2 (.slice ao1 V.length cap1) V ∧ Below w.heap.size w w2) := ⟨ho.mono B1.2, andThen B1.1 hb⟩
  clear ho hb B1
  go_wp2
  go_ret
  exact ⟨_, rfl, HO.out.1, HO.out.2⟩
set_option maxRecDepth 100000 in
set_option maxHeartbeats 1000000 in
theorem refvalue_seven (x : Nums) (nm : ByteArray) (ao : Option Addr) (n cap : Nat) (l : List Nat) (w : World) (h0 : -9223372036854775808 ≤ x.c) (h1 : x.c ≤ 9223372036854775807) :
    Calls Tryd.prog 39 #[rv x nm (.slice ao n cap), .int .i64 ((7 : Nat) : Int)] w fun e w' => ∃ v', e = .returned v' ∧ Own w.heap.size w' v' (valB x nm l 7) ∧ Below w.heap.size w w' := by
  have HX : Hid (∀ o, Below w.heap.size w (w.alloc o) ∧ w.heap.size ≤ (w.alloc o).heap.size) := fun o => ⟨up0 w o, (up0 w o).size⟩
  have HU : Hid (∀ w', Calls Tryd.prog 58 #[.int .i64 x.c] w' fun e w'' => ∃ v', e = .returned v' ∧ Own w'.heap.size w'' v' (Wn.uint (zz x.c)) ∧ Below w'.heap.size w' w'') := fun w' => rint_any x.c w' h0 h1
  have HV : Hid (valB x nm l 7 = Wn.uint (zz x.c)) := rfl
  rw [HV.out]
  generalize Wn.uint (zz x.c) = V at *
  unfold rv
  clear HV
  go_enter Tryd.func39, Tryd.ntmps39
  go_wp2_with fail
  refine (HU.out _).mono ?_
  rintro e w1 ⟨v1, rfl, ho, hb⟩
  obtain ⟨ao1, cap1, rfl, _⟩ := ho.bs.shape
  have HO : Hid (Own w.heap.size w1 (.slice ao1 V.length cap1) V ∧ Below w.heap.size w w1) := ⟨ho.mono (HX.out _).2, andThen (HX.out _).1 hb⟩
  clear ho hb
  go_wp2
  go_ret
  exact ⟨_, rfl, HO.out.1, HO.out.2⟩
set_option maxRecDepth 100000 in
set_option maxHeartbeats 1000000 in
theorem refvalue_data (x : Nums) (nm : ByteArray) (d : Value) (l : List Nat) (w : World) (h : Bs w d l) (hlen : l.length ≤ 140737488355000) :
    Calls Tryd.prog 39 #[rv x nm d, .int .i64 ((11 : Nat) : Int)] w fun e w' => ∃ v', e = .returned v' ∧ Own w.heap.size w' v' (valB x nm l 11) ∧ Below w.heap.size w w' := by
  have HX : Hid (∀ o, Below w.heap.size w (w.alloc o) ∧ w.heap.size ≤ (w.alloc o).heap.size) := fun o => ⟨up0 w o, (up0 w o).size⟩
  have HU : Hid (∀ w', Below w.heap.size w w' → Calls Tryd.prog 59 #[d] w' fun e w'' => ∃ v', e = .returned v' ∧ Own w'.heap.size w'' v' (Wn.uint l.length ++ l) ∧ Below w'.heap.size w' w'') := fun w' hb => rbytes_any d l w' (h.kept hb) hlen
  have HV : Hid (valB x nm l 11 = Wn.uint l.length ++ l) := rfl
  rw [HV.out]
  obtain ⟨ao, cap, rfl, _⟩ := h.shape
  clear h
  generalize Wn.uint l.length ++ l = V at *
  unfold rv
  clear HV
  go_enter Tryd.func39, Tryd.ntmps39
  go_wp2_with fail
  refine (HU.out _ (HX.out _).1).mono ?_
  rintro e w1 ⟨v1, rfl, ho, hb⟩
  obtain ⟨ao1, cap1, rfl, _⟩ := ho.bs.shape
  have HO : Hid (Own w.heap.size w1 (.slice ao1 V.length cap1) V ∧ Below w.heap.size w w1) := ⟨ho.mono (HX.out _).2, andThen (HX.out _).1 hb⟩
  clear ho hb
  go_wp2
  go_ret
  exact ⟨_, rfl, HO.out.1, HO.out.2⟩
set_option maxRecDepth 100000 in
set_option maxHeartbeats 1000000 in
theorem refvalue_name (x : Nums) (nm : ByteArray) (ao : Option Addr) (n cap : Nat) (l : List Nat) (w : World) (hs : nm.size ≤ 1000000) :
    Calls Tryd.prog 39 #[rv x nm (.slice ao n cap), .int .i64 ((10 : Nat) : Int)] w fun e w' => ∃ v', e = .returned v' ∧ Own w.heap.size w' v' (valB x nm l 10) ∧ Below w.heap.size w w' := by
  have HX : Hid (∀ o, Below w.heap.size w (w.alloc o) ∧ w.heap.size ≤ (w.alloc o).heap.size) := fun o => ⟨up0 w o, (up0 w o).size⟩
  have HU : Hid (∀ d w', Bs w' d (nbs nm) → Calls Tryd.prog 59 #[d] w' fun e w'' => ∃ v', e = .returned v' ∧ Own w'.heap.size w'' v' (Wn.uint (nbs nm).length ++ nbs nm) ∧ Below w'.heap.size w' w'') := fun d w' hb => rbytes_any d (nbs nm) w' hb (by rw [nbs_len]; omega)
  have HC : Hid (∀ w' : World, (convert 9 22 (.string nm)).run Tryd.prog w' = .ok (.slice (some ⟨w'.heap.size, 0, none⟩) nm.size (grownCap w' nm.size 0 5)) (w'.drew.alloc (.cells (bytesRow nm (grownCap w' nm.size 0 5)) 5 ((bytesRow nm (grownCap w' nm.size 0 5)).size, (bytesRow nm (grownCap w' nm.size 0 5)).size + 1)))) := fun w' => run_bytes_of_string w' 9 22 5 nm Tryd.underlying9 Tryd.underlying22 Tryd.underlying5
  have HB : Hid (∀ (w' : World) g fr, g = w'.heap.size → Bs (w'.drew.alloc (.cells (bytesRow nm (grownCap w' nm.size 0 5)) 5 fr)) (.slice (some ⟨g, 0, none⟩) nm.size (grownCap w' nm.size 0 5)) (nbs nm)) := fun w' g fr hg => bs_of_string w' nm (by unfold maxLen; omega) g hg fr
  have hc := HC.out
  have HV : Hid (valB x nm l 10 = Wn.uint (nbs nm).length ++ nbs nm) := rfl
  rw [HV.out]
  generalize Wn.uint (nbs nm).length ++ nbs nm = V at *
  unfold rv
  clear HV HC
  go_enter Tryd.func39, Tryd.ntmps39
  go_wp2_with fail
  have HW := HX.out (.cells #[.int .i64 x.v, .int .i64 x.k, .int .i64 x.s, .int .i64 x.p, .int .i64 x.t, .int .i64 x.a, .int .i64 x.l, .int .i64 x.c, .int .i64 x.n, .int .i64 x.i, .string nm, .slice ao n cap] 24)
  have HSZ : w.heap.size + 1 = (w.alloc (.cells #[.int .i64 x.v, .int .i64 x.k, .int .i64 x.s, .int .i64 x.p, .int .i64 x.t, .int .i64 x.a, .int .i64 x.l, .int .i64 x.c, .int .i64 x.n, .int .i64 x.i, .string nm, .slice ao n cap] 24)).heap.size := by
    show _ = (w.heap.push _).size
    rw [Array.size_push]
  clear hc
  generalize w.alloc (.cells #[.int .i64 x.v, .int .i64 x.k, .int .i64 x.s, .int .i64 x.p, .int .i64 x.t, .int .i64 x.a, .int .i64 x.l, .int .i64 x.c, .int .i64 x.n, .int .i64 x.i, .string nm, .slice ao n cap] 24) = W at *
  refine (HU.out _ _ (HB.out W _ _ HSZ)).mono ?_
  rintro e w1 ⟨v1, rfl, ho, hb⟩
  obtain ⟨ao1, cap1, rfl, _⟩ := ho.bs.shape
  have hb' : Below W.heap.size W w1 := andThen (up (Below.drew (Below.refl _ W)) _) hb
  have HO : Hid (Own w.heap.size w1 (.slice ao1 V.length cap1) V ∧ Below w.heap.size w w1) := ⟨ho.mono (Nat.le_trans HW.2 (up (Below.drew (Below.refl _ W)) _).size), andThen HW.1 hb'⟩
  clear ho hb hb'
  go_wp2
  go_ret
  exact ⟨_, rfl, HO.out.1, HO.out.2⟩
theorem refvalue_any (x : Nums) (nm : ByteArray) (d : Value) (l : List Nat) (t : Nat) (w : World) (h : Bs w d l) (hlen : l.length ≤ 140737488355000) (hs : nm.size ≤ 1000000) (hx : x.nice) (h1 : 1 ≤ t) (h2 : t ≤ 11) :
    Calls Tryd.prog 39 #[rv x nm d, .int .i64 (t : Int)] w fun e w' => ∃ v', e = .returned v' ∧ Own w.heap.size w' v' (valB x nm l t) ∧ Below w.heap.size w w' := by
  by_cases h11 : t = 11
  · subst h11
    exact refvalue_data x nm d l w h hlen
  · obtain ⟨ao, cap, rfl, _⟩ := h.shape
    by_cases h10 : t = 10
    · subst h10
      exact refvalue_name x nm ao _ cap l w hs
    · by_cases h7 : t = 7
      · subst h7
        exact refvalue_seven x nm ao _ cap l w hx.2.1 hx.2.2
      · exact refvalue_num x nm ao _ cap l t w h1 (by omega) h7 (hx.1 t h1 (by omega) h7).1 (hx.1 t h1 (by omega) h7).2
set_option maxRecDepth 100000 in
set_option maxHeartbeats 4000000 in
theorem refencode_ok (x : Nums) (nm : ByteArray) (d : Value) (l : List Nat) (w : World) (h : Bs w d l) (hT : Tabs w) (hb : x.fit) (hnm : nm.size ≤ 1000000) (hl : l.length ≤ 16384) (hx : x.nice) (hc : chk x nm l = 0) :
    Calls Tryd.prog 17 #[rv x nm d] w fun e w' => ∃ ao cap, e = .returned (.tuple #[.slice ao (enc x nm l).length cap, .int .i64 0]) ∧ Own w.heap.size w' (.slice ao (enc x nm l).length cap) (enc x nm l) ∧ Below w.heap.size w w' := by
  have hin := info5
  have HX : Hid (∀ o, (w.alloc o).heap[w.heap.size]? = some o ∧ Below w.heap.size w (w.alloc o)) := fun o => ⟨Array.getElem?_push_size, up0 w o⟩
  have HCH : Hid (∀ w', Below w.heap.size w w' → Calls Tryd.prog 13 #[rv x nm d] w' fun e w'' => e = .returned (.int .i64 0) ∧ Below w'.heap.size w' w'') := fun w' hb' => by
    have h1 := refcheck_any x nm d l w' (h.kept hb') (hT.kept hb').rlets (hT.kept hb').rows hb.c (by omega)
    rwa [hc] at h1
  have HVL : Hid (∀ (t : Nat) w', Below w.heap.size w w' → 1 ≤ t → t ≤ 11 → Calls Tryd.prog 39 #[rv x nm d, .int .i64 (t : Int)] w' fun e w'' => ∃ v', e = .returned v' ∧ Own w'.heap.size w'' v' (valB x nm l t) ∧ Below w'.heap.size w' w'') := fun t w' hb' a b => refvalue_any x nm d l t w' (h.kept hb') (by omega) hnm hx a b
  have HLN : Hid (∀ t, 1 ≤ t → t ≤ 11 → (valB x nm l t).length ≤ 1000100) := fun t a b => valB_len x nm l t hx hnm hl a b
  obtain ⟨ao, cap, rfl, _⟩ := h.shape
  have HIZ : Hid (∀ (t : Nat) w', 1 ≤ t → t ≤ 11 → Calls Tryd.prog 34 #[rv x nm (.slice ao l.length cap), .int .i64 (t : Int)] w' fun e w'' => e = .returned (.bool (zeroT x nm l.length t)) ∧ Below w'.heap.size w' w'') := fun t w' a b => rzero_any x nm ao l.length cap t w' a b
  clear h hT hc hx
  unfold rv at *
  go_enter Tryd.func17, Tryd.ntmps17
  go_wp2_with fail
  refine (HCH.out _ (HX.out _).2).mono ?_
  rintro e w1 ⟨rfl, b1⟩
  have hbx : Box w1 w.heap.size x nm (.slice ao l.length cap) := Box.kept (HX.out _).1 b1
  have B1 := andThen (HX.out _).2 b1
  clear b1 HX HCH
  go_wp2
  have HK : Hid (∀ w', Below w1.heap.size w1 w' → Box w' w.heap.size x nm (.slice ao l.length cap) ∧ Below w.heap.size w w') := fun w' hb => ⟨hbx.kept hb, andThen B1 hb⟩
  have hW3 : w.heap.size ≤ w1.heap.size := B1.size
  clear hbx B1
  obtain ⟨A, hA⟩ : ∃ A, enc x nm l = A := ⟨_, rfl⟩
  have HA : Hid (encN x nm l 11 = A) := hA
  have HAQ : Hid (enc x nm l = A) := hA
  clear hA
  go_loopw [5, 6] (fun o i wr => ∃ (k : Nat) (L : List Nat), 1 ≤ k ∧ k ≤ 12 ∧ i = .int .i64 (k : Int) ∧ Own w1.heap.size wr o L ∧ L.length ≤ 1000200 * k ∧ L ++ encN x nm l (12 - k) = A ∧ Below w1.heap.size w1 wr) (fun _ i _ => 12 - (intOf i).toNat)
  case atStart => exact ⟨1, [], by omega, by omega, rfl, Own.nil _ _, by simp, HA.out, Below.refl _ _⟩
  case round =>
    obtain ⟨k, L, hk1, hk12, rfl, hown, hLl, hap, hbel⟩ := hrel
    have HAP : Hid (L ++ encN x nm l (12 - k) = A) := hap
    clear hap HA
    by_cases hlt : k ≤ 11
    · have HST : Hid (L ++ ((if zeroT x nm l.length k then [] else Wn.uint k ++ valB x nm l k) ++ encN x nm l (12 - (k + 1))) = A) := by
        show _ = _
        rw [← HAP.out, show 12 - k = (11 - k) + 1 by omega, encN_succ, show 11 - (11 - k) = k by omega, show 12 - (k + 1) = 11 - k by omega]
      obtain ⟨c0, c1, c2, c3, c4, c5, c6, c7, c8, c9, c10, c11⟩ := (HK.out _ hbel).1.cells
      have HIZ1 : Hid (Calls Tryd.prog 34 #[.agg #[.int .i64 x.v, .int .i64 x.k, .int .i64 x.s, .int .i64 x.p, .int .i64 x.t, .int .i64 x.a, .int .i64 x.l, .int .i64 x.c, .int .i64 x.n, .int .i64 x.i, .string nm, .slice ao l.length cap], .int .i64 (k : Int)] wr fun e w'' => e = .returned (.bool (zeroT x nm l.length k)) ∧ Below wr.heap.size wr w'') := HIZ.out k wr hk1 hlt
      obtain ⟨ao5, cap5, rfl, _⟩ := hown.bs.shape
      have HOW : Hid (∀ w', Below wr.heap.size wr w' → Own w1.heap.size w' (.slice ao5 L.length cap5) L ∧ Below w1.heap.size w1 w') := fun w' hb => ⟨hown.kept hb, andThen hbel hb⟩
      clear HAP hown
      cases hz : zeroT x nm l.length k with
      | true =>
        have HN : Hid (L ++ encN x nm l (12 - (k + 1)) = A) := by show _ = _; rw [← HST.out, hz]; rfl
        rw [hz] at HIZ1
        clear HST hz
        go_wp2_with fail
        refine HIZ1.out.mono ?_
        rintro e w4 ⟨rfl, b4⟩
        have HO4 := HOW.out _ b4
        clear c0 c1 c2 c3 c4 c5 c6 c7 c8 c9 c10 c11 HIZ1 HOW b4
        go_wp2
        go_roundw
        case rel => exact ⟨k + 1, L, by omega, by omega, by go_num, HO4.1, by omega, HN.out, HO4.2⟩
        case measure => simp [intOf]; omega
      | false =>
        have HN : Hid ((L ++ [k] ++ valB x nm l k) ++ encN x nm l (12 - (k + 1)) = A) := by show _ = _; rw [← HST.out, hz, Wn.uint_small k (by omega)]; simp
        have HL2 : Hid ((valB x nm l k).length ≤ 1000100) := HLN.out k hk1 hlt
        have HVK : Hid (∀ w', Below w1.heap.size w1 w' → Calls Tryd.prog 39 #[.agg #[.int .i64 x.v, .int .i64 x.k, .int .i64 x.s, .int .i64 x.p, .int .i64 x.t, .int .i64 x.a, .int .i64 x.l, .int .i64 x.c, .int .i64 x.n, .int .i64 x.i, .string nm, .slice ao l.length cap], .int .i64 (k : Int)] w' fun e w'' => ∃ v', e = .returned v' ∧ Own w'.heap.size w'' v' (valB x nm l k) ∧ Below w'.heap.size w' w'') := fun w' hb => HVL.out k w' (HK.out _ hb).2 hk1 hlt
        rw [hz] at HIZ1
        clear HST hz
        generalize valB x nm l k = V at *
        have i1 : IntKind.u8.wrap (k : Int) = (k : Int) := by
          exact IntWalk.u8_in _ (by omega)
        go_wp2_with fail
        refine HIZ1.out.mono ?_
        rintro e w4 ⟨rfl, b4⟩
        have HO4 := HOW.out _ b4
        clear c0 c1 c2 c3 c4 c5 c6 c7 c8 c9 c10 c11 HIZ1 HOW b4
        have HO5 : Hid (∀ o, Own w1.heap.size (w4.alloc o) (.slice ao5 L.length cap5) L ∧ Below w1.heap.size w1 (w4.alloc o)) := fun o => ⟨HO4.1.alloc o, up HO4.2 o⟩
        have hsz4 := HO4.2.size
        clear HO4
        go_wp2_with (at_builtin; refine wpList_append _ rfl (.tmp 23) (.tmp 26) 22 rfl w1.heap.size hin Tryd.underlying22 _ L rfl (HO5.out _).1 _ [k] rfl (Bs.one _ k (by omega) _ rfl) (by simp; omega) (HO5.out _).2.size ?_)
        intro v6 w6 ho6 b6 _
        have HO6 : Own w1.heap.size w6 v6 (L ++ [k]) ∧ Below w1.heap.size w1 w6 := ⟨ho6, (HO5.out _).2.trans b6⟩
        obtain ⟨ao7, cap7, rfl, _⟩ := ho6.bs.shape
        clear ho6 b6 HO5
        have HM1 : Hid ((L ++ [k]).length ≤ L.length + 10) := by show _ ≤ _; rw [List.length_append]; simp
        generalize L ++ [k] = M at *
        have hM1 : M.length ≤ L.length + 10 := HM1.out
        obtain ⟨c0, c1, c2, c3, c4, c5, c6, c7, c8, c9, c10, c11⟩ := (HK.out _ HO6.2).1.cells
        go_wp2_with fail
        refine (HVK.out _ HO6.2).mono ?_
        rintro e w7 ⟨v7, rfl, ho7, b7⟩
        obtain ⟨ao8, cap8, rfl, _⟩ := ho7.bs.shape
        have HO7 : Hid (Own w1.heap.size w7 (.slice ao7 M.length cap7) M ∧ Below w1.heap.size w1 w7 ∧ Bs w7 (.slice ao8 V.length cap8) V) := ⟨HO6.1.kept b7, andThen HO6.2 b7, ho7.bs⟩
        clear HO6 b7 ho7 HVK c0 c1 c2 c3 c4 c5 c6 c7 c8 c9 c10 c11
        go_wp2_with (at_builtin; refine wpList_append _ rfl (.tmp 31) (.tmp 32) 22 rfl w1.heap.size hin Tryd.underlying22 _ M rfl HO7.out.1 _ V rfl HO7.out.2.2 (by have := HL2.out; omega) HO7.out.2.1.size ?_)
        intro v8 w8 ho8 b8 _
        have HO8 : Hid (Own w1.heap.size w8 v8 (M ++ V) ∧ Below w1.heap.size w1 w8) := ⟨ho8, HO7.out.2.1.trans b8⟩
        clear ho8 b8 HO7
        go_wp2
        go_roundw
        case rel => exact ⟨k + 1, M ++ V, by omega, by omega, by go_num, HO8.out.1, by have := HL2.out; rw [List.length_append]; omega, HN.out, HO8.out.2⟩
        case measure => simp [intOf]; omega
    · obtain rfl : k = 12 := by omega
      have hE : L = A := by
        have := HAP.out
        rw [show 12 - 12 = 0 by omega] at this
        simpa [encN] using this
      obtain ⟨ao5, cap5, rfl, _⟩ := hown.bs.shape
      have HO : Hid (Own w.heap.size wr (.slice ao5 L.length cap5) L ∧ Below w.heap.size w wr) := ⟨hown.mono hW3, (HK.out _ hbel).2⟩
      subst hE
      clear hown HAP
      go_wp2
      go_ret2
      refine ⟨ao5, cap5, ?_, ?_, HO.out.2⟩
      · rw [HAQ.out]; rfl
      · rw [HAQ.out]; exact HO.out.1
set_option maxRecDepth 100000 in
set_option maxHeartbeats 1000000 in
theorem refencode_err (x : Nums) (nm : ByteArray) (d : Value) (l : List Nat) (w : World) (h : Bs w d l) (hT : Tabs w) (hb : x.fit) (hnm : nm.size ≤ 1048576) (hc : chk x nm l ≠ 0) :
    Calls Tryd.prog 17 #[rv x nm d] w fun e w' => e = .returned (.tuple #[.slice none 0 0, .int .i64 (chk x nm l)]) ∧ Below w.heap.size w w' := by
  have HX : Hid (∀ o, Below w.heap.size w (w.alloc o)) := fun o => up0 w o
  have HCH : Hid (∀ w', Below w.heap.size w w' → Calls Tryd.prog 13 #[rv x nm d] w' fun e w'' => e = .returned (.int .i64 (chk x nm l)) ∧ Below w'.heap.size w' w'') := fun w' hb' => refcheck_any x nm d l w' (h.kept hb') (hT.kept hb').rlets (hT.kept hb').rows hb.c (by omega)
  obtain ⟨ao, cap, rfl, _⟩ := h.shape
  have d1 : (chk x nm l != 0) = true := by rw [bne_iff_ne]; exact hc
  clear h hT hc
  generalize chk x nm l = z at *
  unfold rv at *
  go_enter Tryd.func17, Tryd.ntmps17
  go_wp2_with fail
  refine (HCH.out _ (HX.out _)).mono ?_
  rintro e w1 ⟨rfl, b1⟩
  have B1 := andThen (HX.out _) b1
  clear b1
  go_wp2
  go_ret2
  exact ⟨rfl, B1⟩
end Go.Proofs.YtfkpdmmgjgchjaaDoor

/-
  RecordWrites: the law's walk.
-/
namespace Go.Proofs.YtfkpdmmgjgchjaaDoor
open Go Go.RowKit
open Wb

set_option maxRecDepth 100000 in
set_option maxHeartbeats 4000000 in
theorem rwrites_err (x : Nums) (nm : ByteArray) (d : Value) (l : List Nat) (w : World) (h : Bs w d l) (hT : Tabs w) (hb : x.fit) (hnm : nm.size ≤ 1048576) (hl : l.length ≤ 1048576) (hc : chk x nm l ≠ 0) :
    Calls Tryd.prog 4 #[rv x nm d] w fun e w' => e = .returned (.bool true) ∧ Below w.heap.size w w' := by
  have HX : Hid (∀ o, (w.alloc o).heap[w.heap.size]? = some o ∧ Below w.heap.size w (w.alloc o)) := fun o => ⟨Array.getElem?_push_size, up0 w o⟩
  have HST : Hid (∀ w', Below w.heap.size w w' → Calls Tryd.prog 9 #[] w' fun e w'' => e = .returned (.bool true) ∧ Below w'.heap.size w' w'') := fun w' hb' => started_any w' (hT.kept hb').lets (hT.kept hb').tags
  have HCL : Hid (∀ w', Below w.heap.size w w' → Calls Tryd.prog 10 #[rv x nm d] w' fun e w'' => ∃ ao', ∃ cap' : Nat, e = .returned (rv x nm (.slice ao' l.length cap')) ∧ Bs w'' (.slice ao' l.length cap') l ∧ Below w'.heap.size w' w'') := fun w' hb' => (refclone_any x nm d l w' (h.kept hb') (by omega)).mono fun e w'' ⟨d', he, ho, hb''⟩ => by
    obtain ⟨ao', cap', rfl, _⟩ := ho.bs.shape
    exact ⟨ao', cap', he, ho.bs, hb''⟩
  have HB : Hid (∀ w', Below w.heap.size w w' → Bs w' d l) := fun w' hb' => h.kept hb'
  have HEN : Hid (∀ w', Below w.heap.size w w' → Calls Tryd.prog 15 #[rv x nm d] w' fun e w'' => e = .returned (.tuple #[.slice none 0 0, .int .i64 (chk x nm l)]) ∧ Below w'.heap.size w' w'') := fun w' hb' => encode_err x nm d l w' (h.kept hb') (hT.kept hb').lets (hT.kept hb').tags (by omega) hc
  have HSZ : Hid (∀ w', Below w.heap.size w w' → Calls Tryd.prog 16 #[rv x nm d] w' fun e w'' => e = .returned (.tuple #[.int .i64 0, .int .i64 (chk x nm l)]) ∧ Below w'.heap.size w' w'') := fun w' hb' => size_err x nm d l w' (h.kept hb') (hT.kept hb').lets (hT.kept hb').tags (by omega) hc
  have HRE : Hid (∀ w' ao' (cap' : Nat), Below w.heap.size w w' → Bs w' (.slice ao' l.length cap') l → Calls Tryd.prog 17 #[rv x nm (.slice ao' l.length cap')] w' fun e w'' => e = .returned (.tuple #[.slice none 0 0, .int .i64 (chk x nm l)]) ∧ Below w'.heap.size w' w'') := fun w' ao' cap' hb' hbs => refencode_err x nm _ l w' hbs (hT.kept hb') hb hnm hc
  obtain ⟨ao, cap, rfl, _⟩ := h.shape
  have HRS : Hid (∀ w' ao' (cap' : Nat), Bs w' (.slice ao l.length cap) l → Bs w' (.slice ao' l.length cap') l → Calls Tryd.prog 14 #[rv x nm (.slice ao l.length cap), rv x nm (.slice ao' l.length cap')] w' fun e w'' => e = .returned (.bool true) ∧ Below w'.heap.size w' w'') := fun w' ao' cap' a b => (refsame_any x x nm nm _ _ l l w' a b).mono fun e w'' ⟨he, hk⟩ => ⟨by rw [he, recEq_self], hk⟩
  clear h hT hc
  generalize chk x nm l = z at *
  have dz : (z == z) = true := beq_self_eq_true _
  unfold rv at *
  go_enter Tryd.func4, Tryd.ntmps4
  go_wp2_with fail
  refine (HST.out _ (HX.out _).2).mono ?_
  rintro e w1 ⟨rfl, b1⟩
  have hb1 : Box w1 w.heap.size x nm (.slice ao l.length cap) := Box.kept (HX.out _).1 b1
  have B1 := andThen (HX.out _).2 b1
  clear b1 HX HST
  obtain ⟨c0, c1, c2, c3, c4, c5, c6, c7, c8, c9, c10, c11⟩ := hb1.cells
  go_wp2_with fail
  refine (HCL.out _ B1).mono ?_
  rintro e w3 ⟨ao3, cap3, rfl, ho3, b3⟩
  have HK : Hid (Box (w3.alloc (.cells #[.int .i64 x.v, .int .i64 x.k, .int .i64 x.s, .int .i64 x.p, .int .i64 x.t, .int .i64 x.a, .int .i64 x.l, .int .i64 x.c, .int .i64 x.n, .int .i64 x.i, .string nm, .slice ao3 l.length cap3] 24)) w.heap.size x nm (.slice ao l.length cap) ∧ Box (w3.alloc (.cells #[.int .i64 x.v, .int .i64 x.k, .int .i64 x.s, .int .i64 x.p, .int .i64 x.t, .int .i64 x.a, .int .i64 x.l, .int .i64 x.c, .int .i64 x.n, .int .i64 x.i, .string nm, .slice ao3 l.length cap3] 24)) w3.heap.size x nm (.slice ao3 l.length cap3) ∧ Bs (w3.alloc (.cells #[.int .i64 x.v, .int .i64 x.k, .int .i64 x.s, .int .i64 x.p, .int .i64 x.t, .int .i64 x.a, .int .i64 x.l, .int .i64 x.c, .int .i64 x.n, .int .i64 x.i, .string nm, .slice ao3 l.length cap3] 24)) (.slice ao3 l.length cap3) l ∧ Below w.heap.size w (w3.alloc (.cells #[.int .i64 x.v, .int .i64 x.k, .int .i64 x.s, .int .i64 x.p, .int .i64 x.t, .int .i64 x.a, .int .i64 x.l, .int .i64 x.c, .int .i64 x.n, .int .i64 x.i, .string nm, .slice ao3 l.length cap3] 24))) := ⟨(hb1.kept b3).kept (up0 _ _), Array.getElem?_push_size, ho3.alloc _, up (andThen B1 b3) _⟩
  clear c0 c1 c2 c3 c4 c5 c6 c7 c8 c9 c10 c11 b3 hb1 B1 HCL ho3
  obtain ⟨c0, c1, c2, c3, c4, c5, c6, c7, c8, c9, c10, c11⟩ := HK.out.1.cells
  go_wp2_with fail
  refine (HEN.out _ HK.out.2.2.2).mono ?_
  rintro e w4 ⟨rfl, b4⟩
  have HK4 : Box w4 w.heap.size x nm (.slice ao l.length cap) ∧ Box w4 w3.heap.size x nm (.slice ao3 l.length cap3) ∧ Bs w4 (.slice ao3 l.length cap3) l ∧ Below w.heap.size w w4 := ⟨HK.out.1.kept b4, HK.out.2.1.kept b4, HK.out.2.2.1.kept b4, andThen HK.out.2.2.2 b4⟩
  clear c0 c1 c2 c3 c4 c5 c6 c7 c8 c9 c10 c11 b4 HK HEN
  generalize w3.heap.size = g3 at HK4 ⊢
  obtain ⟨hx1, hx3, hbs3, B4⟩ := HK4
  obtain ⟨c0, c1, c2, c3, c4, c5, c6, c7, c8, c9, c10, c11⟩ := hx1.cells
  go_wp2_with fail
  refine (HSZ.out _ B4).mono ?_
  rintro e w5 ⟨rfl, b5⟩
  have HK5 : Box w5 w.heap.size x nm (.slice ao l.length cap) ∧ Box w5 g3 x nm (.slice ao3 l.length cap3) ∧ Bs w5 (.slice ao3 l.length cap3) l ∧ Below w.heap.size w w5 := ⟨hx1.kept b5, hx3.kept b5, hbs3.kept b5, andThen B4 b5⟩
  clear c0 c1 c2 c3 c4 c5 c6 c7 c8 c9 c10 c11 b5 hx1 hx3 hbs3 B4 HSZ
  obtain ⟨hx1, hx3, hbs3, B5⟩ := HK5
  obtain ⟨c0, c1, c2, c3, c4, c5, c6, c7, c8, c9, c10, c11⟩ := hx3.cells
  go_wp2_with fail
  refine (HRE.out _ _ _ B5 hbs3).mono ?_
  rintro e w6 ⟨rfl, b6⟩
  have HK6 : Box w6 w.heap.size x nm (.slice ao l.length cap) ∧ Box w6 g3 x nm (.slice ao3 l.length cap3) ∧ Bs w6 (.slice ao3 l.length cap3) l ∧ Below w.heap.size w w6 := ⟨hx1.kept b6, hx3.kept b6, hbs3.kept b6, andThen B5 b6⟩
  clear c0 c1 c2 c3 c4 c5 c6 c7 c8 c9 c10 c11 b6 hx1 hx3 hbs3 B5 HRE
  obtain ⟨hx1, hx3, hbs3, B6⟩ := HK6
  go_wp2_with fail
  refine (errnum_any z _).mono ?_
  rintro e w7 ⟨rfl, rfl⟩
  go_wp2_with fail
  refine (errnum_any z _).mono ?_
  rintro e w8 ⟨rfl, rfl⟩
  go_wp2_with fail
  refine (ralike_any _ _ [] [] _ (Bs.nil _) (Bs.nil _)).mono ?_
  rintro e w9 ⟨rfl, b9⟩
  have hx1' := hx1.kept b9
  have hx3' := hx3.kept b9
  have hbs3' := hbs3.kept b9
  have B9 := andThen B6 b9
  clear hx1 hx3 hbs3 B6 b9
  have ht : decide (([] : List Nat) = []) = true := decide_eq_true rfl
  rw [ht]
  clear ht
  obtain ⟨c0, c1, c2, c3, c4, c5, c6, c7, c8, c9, c10, c11⟩ := hx1'.cells
  obtain ⟨e0, e1, e2, e3, e4, e5, e6, e7, e8, e9, e10, e11⟩ := hx3'.cells
  go_wp2_with fail
  refine (HRS.out _ _ _ (HB.out _ B9) hbs3').mono ?_
  rintro e wa ⟨rfl, ba⟩
  have Ba := andThen B9 ba
  clear c0 c1 c2 c3 c4 c5 c6 c7 c8 c9 c10 c11 e0 e1 e2 e3 e4 e5 e6 e7 e8 e9 e10 e11 ba
  go_wp2
  go_ret
  exact ⟨rfl, Ba⟩
set_option maxRecDepth 100000 in
set_option maxHeartbeats 4000000 in
theorem rwrites_ok (x : Nums) (nm : ByteArray) (d : Value) (l : List Nat) (w : World) (h : Bs w d l) (hT : Tabs w) (hb : x.fit) (hn : nm.size ≤ 192) (hl : l.length ≤ 16384) (hx : x.nice) (hc : chk x nm l = 0) :
    Calls Tryd.prog 4 #[rv x nm d] w fun e w' => e = .returned (.bool true) ∧ Below w.heap.size w w' := by
  have HX : Hid (∀ o, (w.alloc o).heap[w.heap.size]? = some o ∧ Below w.heap.size w (w.alloc o)) := fun o => ⟨Array.getElem?_push_size, up0 w o⟩
  have HST : Hid (∀ w', Below w.heap.size w w' → Calls Tryd.prog 9 #[] w' fun e w'' => e = .returned (.bool true) ∧ Below w'.heap.size w' w'') := fun w' hb' => started_any w' (hT.kept hb').lets (hT.kept hb').tags
  have HCL : Hid (∀ w', Below w.heap.size w w' → Calls Tryd.prog 10 #[rv x nm d] w' fun e w'' => ∃ ao', ∃ cap' : Nat, e = .returned (rv x nm (.slice ao' l.length cap')) ∧ Bs w'' (.slice ao' l.length cap') l ∧ Below w'.heap.size w' w'') := fun w' hb' => (refclone_any x nm d l w' (h.kept hb') (by omega)).mono fun e w'' ⟨d', he, ho, hb''⟩ => by
    obtain ⟨ao', cap', rfl, _⟩ := ho.bs.shape
    exact ⟨ao', cap', he, ho.bs, hb''⟩
  have HB : Hid (∀ w', Below w.heap.size w w' → Bs w' d l) := fun w' hb' => h.kept hb'
  have HEN : Hid (∀ w', Below w.heap.size w w' → Calls Tryd.prog 15 #[rv x nm d] w' fun e w'' => ∃ ao', ∃ cap' : Nat, e = .returned (.tuple #[.slice ao' (enc x nm l).length cap', .int .i64 0]) ∧ Bs w'' (.slice ao' (enc x nm l).length cap') (enc x nm l) ∧ Below w'.heap.size w' w'') := fun w' hb' => (encode_ok x nm d l w' (h.kept hb') (hT.kept hb').lets (hT.kept hb').tags (by omega) hl hx hc).mono fun e w'' ⟨ao', cap', he, ho, hb''⟩ => ⟨ao', cap', he, ho.bs, hb''⟩
  have HSZ : Hid (∀ w', Below w.heap.size w w' → Calls Tryd.prog 16 #[rv x nm d] w' fun e w'' => e = .returned (.tuple #[.int .i64 ((enc x nm l).length : Int), .int .i64 0]) ∧ Below w'.heap.size w' w'') := fun w' hb' => size_ok x nm d l w' (h.kept hb') (hT.kept hb').lets (hT.kept hb').tags (by omega) hl hx hc
  have HRE : Hid (∀ w' ao' (cap' : Nat), Below w.heap.size w w' → Bs w' (.slice ao' l.length cap') l → Calls Tryd.prog 17 #[rv x nm (.slice ao' l.length cap')] w' fun e w'' => ∃ aoz, ∃ capz : Nat, e = .returned (.tuple #[.slice aoz (enc x nm l).length capz, .int .i64 0]) ∧ Bs w'' (.slice aoz (enc x nm l).length capz) (enc x nm l) ∧ Below w'.heap.size w' w'') := fun w' ao' cap' hb' hbs => (refencode_ok x nm _ l w' hbs (hT.kept hb') hb (by omega) hl hx hc).mono fun e w'' ⟨aoz, capz, he, ho, hb''⟩ => ⟨aoz, capz, he, ho.bs, hb''⟩
  obtain ⟨ao, cap, rfl, _⟩ := h.shape
  have HRS : Hid (∀ w' ao' (cap' : Nat), Bs w' (.slice ao l.length cap) l → Bs w' (.slice ao' l.length cap') l → Calls Tryd.prog 14 #[rv x nm (.slice ao l.length cap), rv x nm (.slice ao' l.length cap')] w' fun e w'' => e = .returned (.bool true) ∧ Below w'.heap.size w' w'') := fun w' ao' cap' a b => (refsame_any x x nm nm _ _ l l w' a b).mono fun e w'' ⟨he, hk⟩ => ⟨by rw [he, recEq_self], hk⟩
  clear h hT hc hx
  generalize enc x nm l = E at *
  have dl : ((E.length : Int) == (E.length : Int)) = true := beq_self_eq_true _
  unfold rv at *
  go_enter Tryd.func4, Tryd.ntmps4
  go_wp2_with fail
  refine (HST.out _ (HX.out _).2).mono ?_
  rintro e w1 ⟨rfl, b1⟩
  have hb1 : Box w1 w.heap.size x nm (.slice ao l.length cap) := Box.kept (HX.out _).1 b1
  have B1 := andThen (HX.out _).2 b1
  clear b1 HX HST
  obtain ⟨c0, c1, c2, c3, c4, c5, c6, c7, c8, c9, c10, c11⟩ := hb1.cells
  go_wp2_with fail
  refine (HCL.out _ B1).mono ?_
  rintro e w3 ⟨ao3, cap3, rfl, ho3, b3⟩
  have HK : Hid (Box (w3.alloc (.cells #[.int .i64 x.v, .int .i64 x.k, .int .i64 x.s, .int .i64 x.p, .int .i64 x.t, .int .i64 x.a, .int .i64 x.l, .int .i64 x.c, .int .i64 x.n, .int .i64 x.i, .string nm, .slice ao3 l.length cap3] 24)) w.heap.size x nm (.slice ao l.length cap) ∧ Box (w3.alloc (.cells #[.int .i64 x.v, .int .i64 x.k, .int .i64 x.s, .int .i64 x.p, .int .i64 x.t, .int .i64 x.a, .int .i64 x.l, .int .i64 x.c, .int .i64 x.n, .int .i64 x.i, .string nm, .slice ao3 l.length cap3] 24)) w3.heap.size x nm (.slice ao3 l.length cap3) ∧ Bs (w3.alloc (.cells #[.int .i64 x.v, .int .i64 x.k, .int .i64 x.s, .int .i64 x.p, .int .i64 x.t, .int .i64 x.a, .int .i64 x.l, .int .i64 x.c, .int .i64 x.n, .int .i64 x.i, .string nm, .slice ao3 l.length cap3] 24)) (.slice ao3 l.length cap3) l ∧ Below w.heap.size w (w3.alloc (.cells #[.int .i64 x.v, .int .i64 x.k, .int .i64 x.s, .int .i64 x.p, .int .i64 x.t, .int .i64 x.a, .int .i64 x.l, .int .i64 x.c, .int .i64 x.n, .int .i64 x.i, .string nm, .slice ao3 l.length cap3] 24))) := ⟨(hb1.kept b3).kept (up0 _ _), Array.getElem?_push_size, ho3.alloc _, up (andThen B1 b3) _⟩
  clear c0 c1 c2 c3 c4 c5 c6 c7 c8 c9 c10 c11 b3 hb1 B1 HCL ho3
  obtain ⟨c0, c1, c2, c3, c4, c5, c6, c7, c8, c9, c10, c11⟩ := HK.out.1.cells
  go_wp2_with fail
  refine (HEN.out _ HK.out.2.2.2).mono ?_
  rintro e w4 ⟨ao4, cap4, rfl, hbs4, b4⟩
  have HK4 : Box w4 w.heap.size x nm (.slice ao l.length cap) ∧ Box w4 w3.heap.size x nm (.slice ao3 l.length cap3) ∧ Bs w4 (.slice ao3 l.length cap3) l ∧ Below w.heap.size w w4 := ⟨HK.out.1.kept b4, HK.out.2.1.kept b4, HK.out.2.2.1.kept b4, andThen HK.out.2.2.2 b4⟩
  clear c0 c1 c2 c3 c4 c5 c6 c7 c8 c9 c10 c11 b4 HK HEN
  generalize w3.heap.size = g3 at HK4 ⊢
  obtain ⟨hx1, hx3, hbs3, B4⟩ := HK4
  obtain ⟨c0, c1, c2, c3, c4, c5, c6, c7, c8, c9, c10, c11⟩ := hx1.cells
  go_wp2_with fail
  refine (HSZ.out _ B4).mono ?_
  rintro e w5 ⟨rfl, b5⟩
  have HK5 : Box w5 w.heap.size x nm (.slice ao l.length cap) ∧ Box w5 g3 x nm (.slice ao3 l.length cap3) ∧ Bs w5 (.slice ao3 l.length cap3) l ∧ Below w.heap.size w w5 := ⟨hx1.kept b5, hx3.kept b5, hbs3.kept b5, andThen B4 b5⟩
  have hbs5 := hbs4.kept b5
  clear c0 c1 c2 c3 c4 c5 c6 c7 c8 c9 c10 c11 b5 hx1 hx3 hbs3 B4 HSZ
  obtain ⟨hx1, hx3, hbs3, B5⟩ := HK5
  obtain ⟨c0, c1, c2, c3, c4, c5, c6, c7, c8, c9, c10, c11⟩ := hx3.cells
  go_wp2_with fail
  refine (HRE.out _ _ _ B5 hbs3).mono ?_
  rintro e w6 ⟨ao6, cap6, rfl, hbs6, b6⟩
  have HK6 : Box w6 w.heap.size x nm (.slice ao l.length cap) ∧ Box w6 g3 x nm (.slice ao3 l.length cap3) ∧ Bs w6 (.slice ao3 l.length cap3) l ∧ Below w.heap.size w w6 := ⟨hx1.kept b6, hx3.kept b6, hbs3.kept b6, andThen B5 b6⟩
  have hbs4b := hbs5.kept b6
  clear c0 c1 c2 c3 c4 c5 c6 c7 c8 c9 c10 c11 b6 hx1 hx3 hbs3 B5 HRE
  obtain ⟨hx1, hx3, hbs3, B6⟩ := HK6
  go_wp2_with fail
  refine (errnum_any 0 _).mono ?_
  rintro e w7 ⟨rfl, rfl⟩
  go_wp2_with fail
  refine (errnum_any 0 _).mono ?_
  rintro e w8 ⟨rfl, rfl⟩
  go_wp2_with fail
  refine (ralike_any _ _ E E _ hbs4b hbs6).mono ?_
  rintro e w9 ⟨rfl, b9⟩
  have hx1' := hx1.kept b9
  have hx3' := hx3.kept b9
  have hbs3' := hbs3.kept b9
  have B9 := andThen B6 b9
  clear hx1 hx3 hbs3 B6 b9
  have ht : decide (E = E) = true := decide_eq_true rfl
  rw [ht]
  clear ht
  obtain ⟨c0, c1, c2, c3, c4, c5, c6, c7, c8, c9, c10, c11⟩ := hx1'.cells
  obtain ⟨e0, e1, e2, e3, e4, e5, e6, e7, e8, e9, e10, e11⟩ := hx3'.cells
  go_wp2_with fail
  refine (HRS.out _ _ _ (HB.out _ B9) hbs3').mono ?_
  rintro e wa ⟨rfl, ba⟩
  have Ba := andThen B9 ba
  clear c0 c1 c2 c3 c4 c5 c6 c7 c8 c9 c10 c11 e0 e1 e2 e3 e4 e5 e6 e7 e8 e9 e10 e11 ba
  go_wp2
  go_ret
  exact ⟨rfl, Ba⟩
theorem rwrites_any (x : Nums) (nm : ByteArray) (d : Value) (l : List Nat) (w : World) (h : Bs w d l) (hT : Tabs w) (hb : x.fit) (hnm : nm.size ≤ 1048576) (hl : l.length ≤ 1048576) :
    Calls Tryd.prog 4 #[rv x nm d] w fun e w' => e = .returned (.bool true) ∧ Below w.heap.size w w' := by
  by_cases hc : chk x nm l = 0
  · obtain ⟨hx, hv, hk, _, hN⟩ := chk_nice x nm l hc hb
    obtain ⟨hn, hl2⟩ := chk_fits x nm l hN
    exact rwrites_ok x nm d l w h hT hb hn hl2 hx hc
  · exact rwrites_err x nm d l w h hT hb hnm hl hc
end Go.Proofs.YtfkpdmmgjgchjaaDoor
