/-
  Package record: value.
-/
import Derived.Test.YtioghecmnggehaaDoorRcD
namespace Go.Proofs.YtioghecmnggehaaDoor
open Go Go.RowKit
open Wb

/-- a text's bytes -/
def nbs (s : ByteArray) : List Nat := s.data.toList.map UInt8.toNat
/-- the bytes of the field of a tag -/
def valB (x : Nums) (nm : ByteArray) (l : List Nat) (t : Nat) : List Nat := if t = 7 then Wn.uint (zz x.c) else if t = 10 then Wn.uint (nbs nm).length ++ nbs nm else if t = 11 then Wn.uint l.length ++ l else Wn.uint (x.tag t).toNat
theorem nbs_len (s : ByteArray) : (nbs s).length = s.size := by
  unfold nbs
  rw [List.length_map]
  rfl
theorem nbs_ok (s : ByteArray) : ok (nbs s) := by
  intro x hx
  obtain ⟨u, _, rfl⟩ := List.mem_map.1 hx
  exact u.toNat_lt
set_option maxRecDepth 100000 in
set_option maxHeartbeats 1000000 in
theorem value_n1 (x : Nums) (nm : ByteArray) (ao : Option Addr) (n cap : Nat) (l : List Nat) (w : World) (h0 : 0 ≤ x.k) (h1 : x.k ≤ 9223372036854775807) :
    Calls Tryd.prog 30 #[pv x nm (.slice ao n cap), .int .i64 ((1 : Nat) : Int)] w fun e w' => ∃ v', e = .returned v' ∧ Own w.heap.size w' v' (valB x nm l 1) ∧ Below w.heap.size w w' := by
  have HX : Hid (∀ o, Below w.heap.size w (w.alloc o) ∧ w.heap.size ≤ (w.alloc o).heap.size) := fun o => ⟨up0 w o, (up0 w o).size⟩
  have HU : Hid (∀ w', Calls Tryd.prog 29 #[.int .u64 x.k] w' fun e w'' => ∃ v', e = .returned v' ∧ Own w'.heap.size w'' v' (Wn.uint x.k.toNat) ∧ Below w'.heap.size w' w'') := fun w' => by
    have h := uint_any x.k.toNat w' (by omega)
    rwa [show ((x.k.toNat : Nat) : Int) = x.k by omega] at h
  have HV : Hid (valB x nm l 1 = Wn.uint x.k.toNat) := rfl
  rw [HV.out]
  generalize Wn.uint x.k.toNat = V at *
  unfold pv
  clear HV
  go_enter Tryd.func30, Tryd.ntmps30
  go_wp2_with fail
  refine (HU.out _).mono ?_
  rintro e w1 ⟨v1, rfl, ho, hb⟩
  obtain ⟨ao1, cap1, rfl, _⟩ := ho.bs.shape
  have HO : Hid (Own w.heap.size w1 (.slice ao1 V.length cap1) V ∧ Below w.heap.size w w1) := ⟨ho.mono (HX.out _).2, andThen (HX.out _).1 hb⟩
  clear ho hb
  go_wp2
  go_ret
  exact ⟨_, rfl, HO.out.1, HO.out.2⟩
set_option maxRecDepth 100000 in
set_option maxHeartbeats 1000000 in
theorem value_n2 (x : Nums) (nm : ByteArray) (ao : Option Addr) (n cap : Nat) (l : List Nat) (w : World) (h0 : 0 ≤ x.s) (h1 : x.s ≤ 9223372036854775807) :
    Calls Tryd.prog 30 #[pv x nm (.slice ao n cap), .int .i64 ((2 : Nat) : Int)] w fun e w' => ∃ v', e = .returned v' ∧ Own w.heap.size w' v' (valB x nm l 2) ∧ Below w.heap.size w w' := by
  have HX : Hid (∀ o, Below w.heap.size w (w.alloc o) ∧ w.heap.size ≤ (w.alloc o).heap.size) := fun o => ⟨up0 w o, (up0 w o).size⟩
  have HU : Hid (∀ w', Calls Tryd.prog 29 #[.int .u64 x.s] w' fun e w'' => ∃ v', e = .returned v' ∧ Own w'.heap.size w'' v' (Wn.uint x.s.toNat) ∧ Below w'.heap.size w' w'') := fun w' => by
    have h := uint_any x.s.toNat w' (by omega)
    rwa [show ((x.s.toNat : Nat) : Int) = x.s by omega] at h
  have HV : Hid (valB x nm l 2 = Wn.uint x.s.toNat) := rfl
  rw [HV.out]
  generalize Wn.uint x.s.toNat = V at *
  unfold pv
  clear HV
  go_enter Tryd.func30, Tryd.ntmps30
  go_wp2_with fail
  refine (HU.out _).mono ?_
  rintro e w1 ⟨v1, rfl, ho, hb⟩
  obtain ⟨ao1, cap1, rfl, _⟩ := ho.bs.shape
  have HO : Hid (Own w.heap.size w1 (.slice ao1 V.length cap1) V ∧ Below w.heap.size w w1) := ⟨ho.mono (HX.out _).2, andThen (HX.out _).1 hb⟩
  clear ho hb
  go_wp2
  go_ret
  exact ⟨_, rfl, HO.out.1, HO.out.2⟩
set_option maxRecDepth 100000 in
set_option maxHeartbeats 1000000 in
theorem value_n3 (x : Nums) (nm : ByteArray) (ao : Option Addr) (n cap : Nat) (l : List Nat) (w : World) (h0 : 0 ≤ x.p) (h1 : x.p ≤ 9223372036854775807) :
    Calls Tryd.prog 30 #[pv x nm (.slice ao n cap), .int .i64 ((3 : Nat) : Int)] w fun e w' => ∃ v', e = .returned v' ∧ Own w.heap.size w' v' (valB x nm l 3) ∧ Below w.heap.size w w' := by
  have HX : Hid (∀ o, Below w.heap.size w (w.alloc o) ∧ w.heap.size ≤ (w.alloc o).heap.size) := fun o => ⟨up0 w o, (up0 w o).size⟩
  have HU : Hid (∀ w', Calls Tryd.prog 29 #[.int .u64 x.p] w' fun e w'' => ∃ v', e = .returned v' ∧ Own w'.heap.size w'' v' (Wn.uint x.p.toNat) ∧ Below w'.heap.size w' w'') := fun w' => by
    have h := uint_any x.p.toNat w' (by omega)
    rwa [show ((x.p.toNat : Nat) : Int) = x.p by omega] at h
  have HV : Hid (valB x nm l 3 = Wn.uint x.p.toNat) := rfl
  rw [HV.out]
  generalize Wn.uint x.p.toNat = V at *
  unfold pv
  clear HV
  go_enter Tryd.func30, Tryd.ntmps30
  go_wp2_with fail
  refine (HU.out _).mono ?_
  rintro e w1 ⟨v1, rfl, ho, hb⟩
  obtain ⟨ao1, cap1, rfl, _⟩ := ho.bs.shape
  have HO : Hid (Own w.heap.size w1 (.slice ao1 V.length cap1) V ∧ Below w.heap.size w w1) := ⟨ho.mono (HX.out _).2, andThen (HX.out _).1 hb⟩
  clear ho hb
  go_wp2
  go_ret
  exact ⟨_, rfl, HO.out.1, HO.out.2⟩
set_option maxRecDepth 100000 in
set_option maxHeartbeats 1000000 in
theorem value_n4 (x : Nums) (nm : ByteArray) (ao : Option Addr) (n cap : Nat) (l : List Nat) (w : World) (h0 : 0 ≤ x.t) (h1 : x.t ≤ 9223372036854775807) :
    Calls Tryd.prog 30 #[pv x nm (.slice ao n cap), .int .i64 ((4 : Nat) : Int)] w fun e w' => ∃ v', e = .returned v' ∧ Own w.heap.size w' v' (valB x nm l 4) ∧ Below w.heap.size w w' := by
  have HX : Hid (∀ o, Below w.heap.size w (w.alloc o) ∧ w.heap.size ≤ (w.alloc o).heap.size) := fun o => ⟨up0 w o, (up0 w o).size⟩
  have HU : Hid (∀ w', Calls Tryd.prog 29 #[.int .u64 x.t] w' fun e w'' => ∃ v', e = .returned v' ∧ Own w'.heap.size w'' v' (Wn.uint x.t.toNat) ∧ Below w'.heap.size w' w'') := fun w' => by
    have h := uint_any x.t.toNat w' (by omega)
    rwa [show ((x.t.toNat : Nat) : Int) = x.t by omega] at h
  have HV : Hid (valB x nm l 4 = Wn.uint x.t.toNat) := rfl
  rw [HV.out]
  generalize Wn.uint x.t.toNat = V at *
  unfold pv
  clear HV
  go_enter Tryd.func30, Tryd.ntmps30
  go_wp2_with fail
  refine (HU.out _).mono ?_
  rintro e w1 ⟨v1, rfl, ho, hb⟩
  obtain ⟨ao1, cap1, rfl, _⟩ := ho.bs.shape
  have HO : Hid (Own w.heap.size w1 (.slice ao1 V.length cap1) V ∧ Below w.heap.size w w1) := ⟨ho.mono (HX.out _).2, andThen (HX.out _).1 hb⟩
  clear ho hb
  go_wp2
  go_ret
  exact ⟨_, rfl, HO.out.1, HO.out.2⟩
set_option maxRecDepth 100000 in
set_option maxHeartbeats 1000000 in
theorem value_n5 (x : Nums) (nm : ByteArray) (ao : Option Addr) (n cap : Nat) (l : List Nat) (w : World) (h0 : 0 ≤ x.a) (h1 : x.a ≤ 9223372036854775807) :
    Calls Tryd.prog 30 #[pv x nm (.slice ao n cap), .int .i64 ((5 : Nat) : Int)] w fun e w' => ∃ v', e = .returned v' ∧ Own w.heap.size w' v' (valB x nm l 5) ∧ Below w.heap.size w w' := by
  have HX : Hid (∀ o, Below w.heap.size w (w.alloc o) ∧ w.heap.size ≤ (w.alloc o).heap.size) := fun o => ⟨up0 w o, (up0 w o).size⟩
  have HU : Hid (∀ w', Calls Tryd.prog 29 #[.int .u64 x.a] w' fun e w'' => ∃ v', e = .returned v' ∧ Own w'.heap.size w'' v' (Wn.uint x.a.toNat) ∧ Below w'.heap.size w' w'') := fun w' => by
    have h := uint_any x.a.toNat w' (by omega)
    rwa [show ((x.a.toNat : Nat) : Int) = x.a by omega] at h
  have HV : Hid (valB x nm l 5 = Wn.uint x.a.toNat) := rfl
  rw [HV.out]
  generalize Wn.uint x.a.toNat = V at *
  unfold pv
  clear HV
  go_enter Tryd.func30, Tryd.ntmps30
  go_wp2_with fail
  refine (HU.out _).mono ?_
  rintro e w1 ⟨v1, rfl, ho, hb⟩
  obtain ⟨ao1, cap1, rfl, _⟩ := ho.bs.shape
  have HO : Hid (Own w.heap.size w1 (.slice ao1 V.length cap1) V ∧ Below w.heap.size w w1) := ⟨ho.mono (HX.out _).2, andThen (HX.out _).1 hb⟩
  clear ho hb
  go_wp2
  go_ret
  exact ⟨_, rfl, HO.out.1, HO.out.2⟩
set_option maxRecDepth 100000 in
set_option maxHeartbeats 1000000 in
theorem value_n6 (x : Nums) (nm : ByteArray) (ao : Option Addr) (n cap : Nat) (l : List Nat) (w : World) (h0 : 0 ≤ x.l) (h1 : x.l ≤ 9223372036854775807) :
    Calls Tryd.prog 30 #[pv x nm (.slice ao n cap), .int .i64 ((6 : Nat) : Int)] w fun e w' => ∃ v', e = .returned v' ∧ Own w.heap.size w' v' (valB x nm l 6) ∧ Below w.heap.size w w' := by
  have HX : Hid (∀ o, Below w.heap.size w (w.alloc o) ∧ w.heap.size ≤ (w.alloc o).heap.size) := fun o => ⟨up0 w o, (up0 w o).size⟩
  have HU : Hid (∀ w', Calls Tryd.prog 29 #[.int .u64 x.l] w' fun e w'' => ∃ v', e = .returned v' ∧ Own w'.heap.size w'' v' (Wn.uint x.l.toNat) ∧ Below w'.heap.size w' w'') := fun w' => by
    have h := uint_any x.l.toNat w' (by omega)
    rwa [show ((x.l.toNat : Nat) : Int) = x.l by omega] at h
  have HV : Hid (valB x nm l 6 = Wn.uint x.l.toNat) := rfl
  rw [HV.out]
  generalize Wn.uint x.l.toNat = V at *
  unfold pv
  clear HV
  go_enter Tryd.func30, Tryd.ntmps30
  go_wp2_with fail
  refine (HU.out _).mono ?_
  rintro e w1 ⟨v1, rfl, ho, hb⟩
  obtain ⟨ao1, cap1, rfl, _⟩ := ho.bs.shape
  have HO : Hid (Own w.heap.size w1 (.slice ao1 V.length cap1) V ∧ Below w.heap.size w w1) := ⟨ho.mono (HX.out _).2, andThen (HX.out _).1 hb⟩
  clear ho hb
  go_wp2
  go_ret
  exact ⟨_, rfl, HO.out.1, HO.out.2⟩
set_option maxRecDepth 100000 in
set_option maxHeartbeats 1000000 in
theorem value_n8 (x : Nums) (nm : ByteArray) (ao : Option Addr) (n cap : Nat) (l : List Nat) (w : World) (h0 : 0 ≤ x.n) (h1 : x.n ≤ 9223372036854775807) :
    Calls Tryd.prog 30 #[pv x nm (.slice ao n cap), .int .i64 ((8 : Nat) : Int)] w fun e w' => ∃ v', e = .returned v' ∧ Own w.heap.size w' v' (valB x nm l 8) ∧ Below w.heap.size w w' := by
  have HX : Hid (∀ o, Below w.heap.size w (w.alloc o) ∧ w.heap.size ≤ (w.alloc o).heap.size) := fun o => ⟨up0 w o, (up0 w o).size⟩
  have HU : Hid (∀ w', Calls Tryd.prog 29 #[.int .u64 x.n] w' fun e w'' => ∃ v', e = .returned v' ∧ Own w'.heap.size w'' v' (Wn.uint x.n.toNat) ∧ Below w'.heap.size w' w'') := fun w' => by
    have h := uint_any x.n.toNat w' (by omega)
    rwa [show ((x.n.toNat : Nat) : Int) = x.n by omega] at h
  have HV : Hid (valB x nm l 8 = Wn.uint x.n.toNat) := rfl
  rw [HV.out]
  generalize Wn.uint x.n.toNat = V at *
  unfold pv
  clear HV
  go_enter Tryd.func30, Tryd.ntmps30
  go_wp2_with fail
  refine (HU.out _).mono ?_
  rintro e w1 ⟨v1, rfl, ho, hb⟩
  obtain ⟨ao1, cap1, rfl, _⟩ := ho.bs.shape
  have HO : Hid (Own w.heap.size w1 (.slice ao1 V.length cap1) V ∧ Below w.heap.size w w1) := ⟨ho.mono (HX.out _).2, andThen (HX.out _).1 hb⟩
  clear ho hb
  go_wp2
  go_ret
  exact ⟨_, rfl, HO.out.1, HO.out.2⟩
set_option maxRecDepth 100000 in
set_option maxHeartbeats 1000000 in
theorem value_n9 (x : Nums) (nm : ByteArray) (ao : Option Addr) (n cap : Nat) (l : List Nat) (w : World) (h0 : 0 ≤ x.i) (h1 : x.i ≤ 9223372036854775807) :
    Calls Tryd.prog 30 #[pv x nm (.slice ao n cap), .int .i64 ((9 : Nat) : Int)] w fun e w' => ∃ v', e = .returned v' ∧ Own w.heap.size w' v' (valB x nm l 9) ∧ Below w.heap.size w w' := by
  have HX : Hid (∀ o, Below w.heap.size w (w.alloc o) ∧ w.heap.size ≤ (w.alloc o).heap.size) := fun o => ⟨up0 w o, (up0 w o).size⟩
  have HU : Hid (∀ w', Calls Tryd.prog 29 #[.int .u64 x.i] w' fun e w'' => ∃ v', e = .returned v' ∧ Own w'.heap.size w'' v' (Wn.uint x.i.toNat) ∧ Below w'.heap.size w' w'') := fun w' => by
    have h := uint_any x.i.toNat w' (by omega)
    rwa [show ((x.i.toNat : Nat) : Int) = x.i by omega] at h
  have HV : Hid (valB x nm l 9 = Wn.uint x.i.toNat) := rfl
  rw [HV.out]
  generalize Wn.uint x.i.toNat = V at *
  unfold pv
  clear HV
  go_enter Tryd.func30, Tryd.ntmps30
  go_wp2_with fail
  refine (HU.out _).mono ?_
  rintro e w1 ⟨v1, rfl, ho, hb⟩
  obtain ⟨ao1, cap1, rfl, _⟩ := ho.bs.shape
  have HO : Hid (Own w.heap.size w1 (.slice ao1 V.length cap1) V ∧ Below w.heap.size w w1) := ⟨ho.mono (HX.out _).2, andThen (HX.out _).1 hb⟩
  clear ho hb
  go_wp2
  go_ret
  exact ⟨_, rfl, HO.out.1, HO.out.2⟩
end Go.Proofs.YtioghecmnggehaaDoor
