import Derived.Deep.RegionHeldLaw
import Derived.Deep.QuietTactic
import Derived.BigQuiet
import Derived.WalkSmall
import Derived.Test.YtenhaogheilmoaaDoorQR2
import Derived.Test.YtenhaogheilmoaaDoorQR1
/-
  Package record: what is read as a record of version 2 is one of version 3.
-/
namespace Go.Proofs.YtenhaogheilmoaaDoor
open Go Go.RowKit
open Wb

theorem chkN_all (x : Nums) (nm : ByteArray) (l : List Nat) : chkN x nm l 9 = 0 ↔ (tagE x nm l 3 = 0 ∧ tagE x nm l 4 = 0 ∧ tagE x nm l 5 = 0 ∧ tagE x nm l 6 = 0 ∧ tagE x nm l 7 = 0 ∧ tagE x nm l 8 = 0 ∧ tagE x nm l 9 = 0 ∧ tagE x nm l 10 = 0 ∧ tagE x nm l 11 = 0) := by
  simp only [chkN, Nat.reduceSub]
  generalize tagE x nm l 3 = a3
  generalize tagE x nm l 4 = a4
  generalize tagE x nm l 5 = a5
  generalize tagE x nm l 6 = a6
  generalize tagE x nm l 7 = a7
  generalize tagE x nm l 8 = a8
  generalize tagE x nm l 9 = a9
  generalize tagE x nm l 10 = a10
  generalize tagE x nm l 11 = a11
  repeat' split
  all_goals simp_all
theorem fldE_later (x : Nums) (nm : ByteArray) (l : List Nat) (t : Nat) : fldE (x.ofV 3) nm l t = fldE (x.ofV 2) nm l t := by
  have h2 : (x.ofV 2).old = false := rfl
  have h3 : (x.ofV 3).old = false := rfl
  have e1 : (x.ofV 3).lo t = (x.ofV 2).lo t := by unfold Nums.lo; rw [h2, h3]; rfl
  have e2 : (x.ofV 3).hi t = (x.ofV 2).hi t := by unfold Nums.hi; rw [h2, h3]; rfl
  have e3 : (x.ofV 3).tag t = (x.ofV 2).tag t := rfl
  have e4 : datE (x.ofV 3) l = datE (x.ofV 2) l := by unfold datE; rw [h2, h3]
  unfold fldE
  rw [e1, e2, e3, e4]
theorem tag_later (x : Nums) (nm : ByteArray) (l : List Nat) (t : Nat) (hrow : (x.ofV 2).row.contains (t : Int) = true → (x.ofV 3).row.contains (t : Int) = true)
    (hnew : (x.ofV 2).row.contains (t : Int) = false → (x.ofV 3).row.contains (t : Int) = true → zeroT (x.ofV 2) nm l.length t = true → fldE (x.ofV 2) nm l t = 0) (h : tagE (x.ofV 2) nm l t = 0) : tagE (x.ofV 3) nm l t = 0 := by
  have e : zeroT (x.ofV 3) nm l.length t = zeroT (x.ofV 2) nm l.length t := rfl
  unfold tagE at h ⊢
  rw [e, fldE_later]
  cases h2 : (x.ofV 2).row.contains (t : Int) with
  | true =>
    rw [h2] at h
    rw [hrow h2]
    simpa using h
  | false =>
    rw [h2] at h
    cases hz : zeroT (x.ofV 2) nm l.length t with
    | false => rw [hz] at h; simp at h
    | true =>
      cases h3 : (x.ofV 3).row.contains (t : Int) with
      | false => simp
      | true =>
        have := hnew h2 h3 hz
        simpa using this
theorem fld7 (x : Nums) (nm : ByteArray) (l : List Nat) (h : zeroT (x.ofV 2) nm l.length 7 = true) : fldE (x.ofV 2) nm l 7 = 0 := by
  have hc : x.c = 0 := by
    have : decide (x.c = 0) = true := h
    simpa using this
  show (if x.c < (x.ofV 2).lo 7 ∨ (x.ofV 2).hi 7 < x.c then (34 : Int) else 0) = 0
  rw [if_neg]
  have e1 : (x.ofV 2).lo 7 = if x.k = 7 then 0 else -9223372036854775808 := rfl
  have e2 : (x.ofV 2).hi 7 = if x.k = 7 then 2 else 9223372036854775807 := rfl
  rw [e1, e2, hc]
  split <;> decide
theorem fld9 (x : Nums) (nm : ByteArray) (l : List Nat) (h : zeroT (x.ofV 2) nm l.length 9 = true) (hn : 1 ≤ x.n) : fldE (x.ofV 2) nm l 9 = 0 := by
  have hc : x.i = 0 := by
    have : decide (x.i = 0) = true := h
    simpa using this
  show (if x.i < 0 ∨ x.n < x.i then (34 : Int) else 0) = 0
  rw [if_neg (by omega)]
theorem cnt (x : Nums) (nm : ByteArray) (l : List Nat) (hr : (x.ofV 2).row.contains ((8 : Nat) : Int) = true) (h : tagE (x.ofV 2) nm l 8 = 0) : 1 ≤ x.n := by
  unfold tagE at h
  rw [hr] at h
  have h3 : fldE (x.ofV 2) nm l 8 = 0 := by simpa using h
  have h2 : (if x.n < 1 ∨ 32 < x.n then (34 : Int) else 0) = 0 := h3
  split at h2
  · simp at h2
  · omega
theorem rows_later (k : Int) (_h1 : 1 ≤ k) (_h7 : k ≤ 7) (x : Nums) (hk : x.k = k) (v : Int) (_hv : v = 2 ∨ v = 3) : (x.ofV v).row = tagR ((k.toNat - 1) * 3 + (v.toNat - 1)) := by
  show tagR ((x.k.toNat - 1) * 3 + (v.toNat - 1)) = _
  rw [hk]
theorem chk_later (x : Nums) (nm : ByteArray) (l : List Nat) (h : chk (x.ofV 2) nm l = 0) : chk (x.ofV 3) nm l = 0 := by
  have ev2 : (x.ofV 2).v = 2 := rfl
  have ev3 : (x.ofV 3).v = 3 := rfl
  have ek2 : (x.ofV 2).k = x.k := rfl
  have ek3 : (x.ofV 3).k = x.k := rfl
  have es2 : (x.ofV 2).s = x.s := rfl
  have es3 : (x.ofV 3).s = x.s := rfl
  unfold chk at h ⊢
  rw [ev2, ek2, es2, if_neg (by decide)] at h
  rw [ev3, ek3, es3, if_neg (by decide)]
  by_cases hk : 1 ≤ x.k ∧ x.k ≤ 7
  · rw [if_neg (by simpa using hk)] at h
    rw [if_neg (by simpa using hk)]
    by_cases hs : x.s < 1
    · rw [if_pos hs] at h; simp at h
    · rw [if_neg hs] at h
      rw [if_neg hs]
      rw [chkN_all] at h ⊢
      obtain ⟨t3, t4, t5, t6, t7, t8, t9, t10, t11⟩ := h
      have r2 := rows_later x.k hk.1 hk.2 x rfl 2 (.inl rfl)
      have r3 := rows_later x.k hk.1 hk.2 x rfl 3 (.inr rfl)
      obtain h1 | h1 | h1 | h1 | h1 | h1 | h1 : x.k = 1 ∨ x.k = 2 ∨ x.k = 3 ∨ x.k = 4 ∨ x.k = 5 ∨ x.k = 6 ∨ x.k = 7 := by omega
      all_goals
        rw [h1] at r2 r3
        refine ⟨?_, ?_, ?_, ?_, ?_, ?_, ?_, ?_, ?_⟩
        · exact tag_later x nm l 3 (by rw [r2, r3]; decide) (fun a b _ => absurd (And.intro a b) (by rw [r2, r3]; decide)) t3
        · exact tag_later x nm l 4 (by rw [r2, r3]; decide) (fun a b _ => absurd (And.intro a b) (by rw [r2, r3]; decide)) t4
        · exact tag_later x nm l 5 (by rw [r2, r3]; decide) (fun a b _ => absurd (And.intro a b) (by rw [r2, r3]; decide)) t5
        · exact tag_later x nm l 6 (by rw [r2, r3]; decide) (fun a b _ => absurd (And.intro a b) (by rw [r2, r3]; decide)) t6
        · exact tag_later x nm l 7 (by rw [r2, r3]; decide) (fun _ _ z => fld7 x nm l z) t7
        · exact tag_later x nm l 8 (by rw [r2, r3]; decide) (fun a b _ => absurd (And.intro a b) (by rw [r2, r3]; decide)) t8
        · first | exact tag_later x nm l 9 (by rw [r2, r3]; decide) (fun a b _ => absurd (And.intro a b) (by rw [r2, r3]; decide)) t9 | exact tag_later x nm l 9 (by rw [r2, r3]; decide) (fun _ _ z => fld9 x nm l z (cnt x nm l (by rw [r2]; decide) t8)) t9
        · exact tag_later x nm l 10 (by rw [r2, r3]; decide) (fun a b _ => absurd (And.intro a b) (by rw [r2, r3]; decide)) t10
        · exact tag_later x nm l 11 (by rw [r2, r3]; decide) (fun a b _ => absurd (And.intro a b) (by rw [r2, r3]; decide)) t11
  · rw [if_pos hk] at h
    simp at h
theorem dcd_later (b : List Nat) (q : Pts) (h : dcd 2 b = (0, q)) : dcd 3 b = (0, q.ofV 3) ∧ q.x.v = 2 := by
  unfold dcd at h ⊢
  rw [if_neg (by decide)] at h
  rw [if_neg (by decide)]
  generalize rpF b 12 0 0 zeroPts = Q at *
  obtain ⟨er, p⟩ := Q
  simp only at h ⊢
  by_cases he : er = 0
  · rw [if_neg (by simpa using he)] at h
    rw [if_neg (by simpa using he)]
    by_cases hc : chk (p.x.ofV 2) (bstr p.nm) p.l = 0
    · rw [if_neg (by simpa using hc)] at h
      rw [if_neg (by simpa using chk_later p.x (bstr p.nm) p.l hc)]
      obtain ⟨_, rfl⟩ := Prod.mk.inj h
      exact ⟨rfl, rfl⟩
    · rw [if_pos hc] at h
      exact absurd (Prod.mk.inj h).1 hc
  · rw [if_pos he] at h
    have := (Prod.mk.inj h).1
    omega
theorem dcd0 : dcd 2 [1, 2, 2, 5, 4, 1] = (0, ⟨⟨2, 2, 5, 0, 1, 0, 0, 0, 0, 0⟩, [], []⟩) := by kernel_rfl
end Go.Proofs.YtenhaogheilmoaaDoor

/-
  RecordLater: equal, and the law's walk.
-/
namespace Go.Proofs.YtenhaogheilmoaaDoor
open Go Go.RowKit
open Wb

theorem box_set {w : World} {g : Nat} {x0 : Nums} {nm0 : ByteArray} {d0 : Value} (h : Box w g x0 nm0 d0) (x : Nums) (nm : ByteArray) (d : Value) : Box (w.setCells g 0 [.int .i64 x.v, .int .i64 x.k, .int .i64 x.s, .int .i64 x.p, .int .i64 x.t, .int .i64 x.a, .int .i64 x.l, .int .i64 x.c, .int .i64 x.n, .int .i64 x.i, .string nm, d]) g x nm d := by
  unfold Box at *
  simp [World.setCells, World.setCell, Array.getElem?_modify, h]
theorem lit6 (w : World) : Bs (w.alloc (.cells #[.int .u8 1, .int .u8 2, .int .u8 2, .int .u8 5, .int .u8 4, .int .u8 1] 5)) (.slice (some ⟨w.heap.size, 0, none⟩) 6 6) [1, 2, 2, 5, 4, 1] :=
  (Own.lit (B := 0) w [1, 2, 2, 5, 4, 1] (by unfold ok; decide) (Nat.zero_le _) (by decide) #[.int .u8 1, .int .u8 2, .int .u8 2, .int .u8 5, .int .u8 4, .int .u8 1] rfl).bs
end Go.Proofs.YtenhaogheilmoaaDoor

/-
  Package record: value.
-/
namespace Go.Proofs.YtenhaogheilmoaaDoor
open Go Go.RowKit
open Wb

/-- a text's bytes -/
def nbs (s : ByteArray) : List Nat := s.data.toList.map UInt8.toNat
/-- the bytes of the field of a tag -/
def valB (x : Nums) (nm : ByteArray) (l : List Nat) (t : Nat) : List Nat := if t = 7 then Wn.uint (zz x.c) else if t = 10 then Wn.uint (nbs nm).length ++ nbs nm else if t = 11 then Wn.uint l.length ++ l else Wn.uint (x.tag t).toNat
theorem nbs_len (s : ByteArray) : (nbs s).length = s.size := by
  unfold nbs
  rw [List.length_map]
  rfl
theorem nbs_ok (s : ByteArray) : ok (nbs s) := by
  intro x hx
  obtain ⟨u, _, rfl⟩ := List.mem_map.1 hx
  exact u.toNat_lt
set_option maxRecDepth 100000 in
set_option maxHeartbeats 1000000 in
theorem value_n1 (x : Nums) (nm : ByteArray) (ao : Option Addr) (n cap : Nat) (l : List Nat) (w : World) (h0 : 0 ≤ x.k) (h1 : x.k ≤ 9223372036854775807) :
    Calls Tryd.prog 60 #[pv x nm (.slice ao n cap), .int .i64 ((1 : Nat) : Int)] w fun e w' => ∃ v', e = .returned v' ∧ Own w.heap.size w' v' (valB x nm l 1) ∧ Below w.heap.size w w' := by
  have HX : Hid (∀ o, Below w.heap.size w (w.alloc o) ∧ w.heap.size ≤ (w.alloc o).heap.size) := fun o => ⟨up0 w o, (up0 w o).size⟩
  have HU : Hid (∀ w', Calls Tryd.prog 17 #[.int .u64 x.k] w' fun e w'' => ∃ v', e = .returned v' ∧ Own w'.heap.size w'' v' (Wn.uint x.k.toNat) ∧ Below w'.heap.size w' w'') := fun w' => by
    have h := uint_any x.k.toNat w' (by omega)
    rwa [show ((x.k.toNat : Nat) : Int) = x.k by omega] at h
  have HV : Hid (valB x nm l 1 = Wn.uint x.k.toNat) := rfl
  rw [HV.out]
  generalize Wn.uint x.k.toNat = V at *
  unfold pv
  clear HV
  go_enter Tryd.func60, Tryd.ntmps60
  go_wp2_with fail
  refine (HU.out _).mono ?_
  rintro e w1 ⟨v1, rfl, ho, hb⟩
  obtain ⟨ao1, cap1, rfl, _⟩ := ho.bs.shape
  have HO : Hid (Own w.heap.size w1 (.slice ao1 V.length cap1) V ∧ Below w.heap.size w w1) := ⟨ho.mono (HX.out _).2, andThen (HX.out _).1 hb⟩
  clear ho hb
  go_wp2
  go_ret
  exact ⟨_, rfl, HO.out.1, HO.out.2⟩
set_option maxRecDepth 100000 in
set_option maxHeartbeats 1000000 in
theorem value_n2 (x : Nums) (nm : ByteArray) (ao : Option Addr) (n cap : Nat) (l : List Nat) (w : World) (h0 : 0 ≤ x.s) (h1 : x.s ≤ 9223372036854775807) :
    Calls Tryd.prog 60 #[pv x nm (.slice ao n cap), .int .i64 ((2 : Nat) : Int)] w fun e w' => ∃ v', e = .returned v' ∧ Own w.heap.size w' v' (valB x nm l 2) ∧ Below w.heap.size w w' := by
  have HX : Hid (∀ o, Below w.heap.size w (w.alloc o) ∧ w.heap.size ≤ (w.alloc o).heap.size) := fun o => ⟨up0 w o, (up0 w o).size⟩
  have HU : Hid (∀ w', Calls Tryd.prog 17 #[.int .u64 x.s] w' fun e w'' => ∃ v', e = .returned v' ∧ Own w'.heap.size w'' v' (Wn.uint x.s.toNat) ∧ Below w'.heap.size w' w'') := fun w' => by
    have h := uint_any x.s.toNat w' (by omega)
    rwa [show ((x.s.toNat : Nat) : Int) = x.s by omega] at h
  have HV : Hid (valB x nm l 2 = Wn.uint x.s.toNat) := rfl
  rw [HV.out]
  generalize Wn.uint x.s.toNat = V at *
  unfold pv
  clear HV
  go_enter Tryd.func60, Tryd.ntmps60
  go_wp2_with fail
  refine (HU.out _).mono ?_
  rintro e w1 ⟨v1, rfl, ho, hb⟩
  obtain ⟨ao1, cap1, rfl, _⟩ := ho.bs.shape
  have HO : Hid (Own w.heap.size w1 (.slice ao1 V.length cap1) V ∧ Below w.heap.size w w1) := ⟨ho.mono (HX.out _).2, andThen (HX.out _).1 hb⟩
  clear ho hb
  go_wp2
  go_ret
  exact ⟨_, rfl, HO.out.1, HO.out.2⟩
set_option maxRecDepth 100000 in
set_option maxHeartbeats 1000000 in
theorem value_n3 (x : Nums) (nm : ByteArray) (ao : Option Addr) (n cap : Nat) (l : List Nat) (w : World) (h0 : 0 ≤ x.p) (h1 : x.p ≤ 9223372036854775807) :
    Calls Tryd.prog 60 #[pv x nm (.slice ao n cap), .int .i64 ((3 : Nat) : Int)] w fun e w' => ∃ v', e = .returned v' ∧ Own w.heap.size w' v' (valB x nm l 3) ∧ Below w.heap.size w w' := by
  have HX : Hid (∀ o, Below w.heap.size w (w.alloc o) ∧ w.heap.size ≤ (w.alloc o).heap.size) := fun o => ⟨up0 w o, (up0 w o).size⟩
  have HU : Hid (∀ w', Calls Tryd.prog 17 #[.int .u64 x.p] w' fun e w'' => ∃ v', e = .returned v' ∧ Own w'.heap.size w'' v' (Wn.uint x.p.toNat) ∧ Below w'.heap.size w' w'') := fun w' => by
    have h := uint_any x.p.toNat w' (by omega)
    rwa [show ((x.p.toNat : Nat) : Int) = x.p by omega] at h
  have HV : Hid (valB x nm l 3 = Wn.uint x.p.toNat) := rfl
  rw [HV.out]
  generalize Wn.uint x.p.toNat = V at *
  unfold pv
  clear HV
  go_enter Tryd.func60, Tryd.ntmps60
  go_wp2_with fail
  refine (HU.out _).mono ?_
  rintro e w1 ⟨v1, rfl, ho, hb⟩
  obtain ⟨ao1, cap1, rfl, _⟩ := ho.bs.shape
  have HO : Hid (Own w.heap.size w1 (.slice ao1 V.length cap1) V ∧ Below w.heap.size w w1) := ⟨ho.mono (HX.out _).2, andThen (HX.out _).1 hb⟩
  clear ho hb
  go_wp2
  go_ret
  exact ⟨_, rfl, HO.out.1, HO.out.2⟩
set_option maxRecDepth 100000 in
set_option maxHeartbeats 1000000 in
theorem value_n4 (x : Nums) (nm : ByteArray) (ao : Option Addr) (n cap : Nat) (l : List Nat) (w : World) (h0 : 0 ≤ x.t) (h1 : x.t ≤ 9223372036854775807) :
    Calls Tryd.prog 60 #[pv x nm (.slice ao n cap), .int .i64 ((4 : Nat) : Int)] w fun e w' => ∃ v', e = .returned v' ∧ Own w.heap.size w' v' (valB x nm l 4) ∧ Below w.heap.size w w' := by
  have HX : Hid (∀ o, Below w.heap.size w (w.alloc o) ∧ w.heap.size ≤ (w.alloc o).heap.size) := fun o => ⟨up0 w o, (up0 w o).size⟩
  have HU : Hid (∀ w', Calls Tryd.prog 17 #[.int .u64 x.t] w' fun e w'' => ∃ v', e = .returned v' ∧ Own w'.heap.size w'' v' (Wn.uint x.t.toNat) ∧ Below w'.heap.size w' w'') := fun w' => by
    have h := uint_any x.t.toNat w' (by omega)
    rwa [show ((x.t.toNat : Nat) : Int) = x.t by omega] at h
  have HV : Hid (valB x nm l 4 = Wn.uint x.t.toNat) := rfl
  rw [HV.out]
  generalize Wn.uint x.t.toNat = V at *
  unfold pv
  clear HV
  go_enter Tryd.func60, Tryd.ntmps60
  go_wp2_with fail
  refine (HU.out _).mono ?_
  rintro e w1 ⟨v1, rfl, ho, hb⟩
  obtain ⟨ao1, cap1, rfl, _⟩ := ho.bs.shape
  have HO : Hid (Own w.heap.size w1 (.slice ao1 V.length cap1) V ∧ Below w.heap.size w w1) := ⟨ho.mono (HX.out _).2, andThen (HX.out _).1 hb⟩
  clear ho hb
  go_wp2
  go_ret
  exact ⟨_, rfl, HO.out.1, HO.out.2⟩
set_option maxRecDepth 100000 in
set_option maxHeartbeats 1000000 in
theorem value_n5 (x : Nums) (nm : ByteArray) (ao : Option Addr) (n cap : Nat) (l : List Nat) (w : World) (h0 : 0 ≤ x.a) (h1 : x.a ≤ 9223372036854775807) :
    Calls Tryd.prog 60 #[pv x nm (.slice ao n cap), .int .i64 ((5 : Nat) : Int)] w fun e w' => ∃ v', e = .returned v' ∧ Own w.heap.size w' v' (valB x nm l 5) ∧ Below w.heap.size w w' := by
  have HX : Hid (∀ o, Below w.heap.size w (w.alloc o) ∧ w.heap.size ≤ (w.alloc o).heap.size) := fun o => ⟨up0 w o, (up0 w o).size⟩
  have HU : Hid (∀ w', Calls Tryd.prog 17 #[.int .u64 x.a] w' fun e w'' => ∃ v', e = .returned v' ∧ Own w'.heap.size w'' v' (Wn.uint x.a.toNat) ∧ Below w'.heap.size w' w'') := fun w' => by
    have h := uint_any x.a.toNat w' (by omega)
    rwa [show ((x.a.toNat : Nat) : Int) = x.a by omega] at h
  have HV : Hid (valB x nm l 5 = Wn.uint x.a.toNat) := rfl
  rw [HV.out]
  generalize Wn.uint x.a.toNat = V at *
  unfold pv
  clear HV
  go_enter Tryd.func60, Tryd.ntmps60
  go_wp2_with fail
  refine (HU.out _).mono ?_
  rintro e w1 ⟨v1, rfl, ho, hb⟩
  obtain ⟨ao1, cap1, rfl, _⟩ := ho.bs.shape
  have HO : Hid (Own w.heap.size w1 (.slice ao1 V.length cap1) V ∧ Below w.heap.size w w1) := ⟨ho.mono (HX.out _).2, andThen (HX.out _).1 hb⟩
  clear ho hb
  go_wp2
  go_ret
  exact ⟨_, rfl, HO.out.1, HO.out.2⟩
set_option maxRecDepth 100000 in
set_option maxHeartbeats 1000000 in
theorem value_n6 (x : Nums) (nm : ByteArray) (ao : Option Addr) (n cap : Nat) (l : List Nat) (w : World) (h0 : 0 ≤ x.l) (h1 : x.l ≤ 9223372036854775807) :
    Calls Tryd.prog 60 #[pv x nm (.slice ao n cap), .int .i64 ((6 : Nat) : Int)] w fun e w' => ∃ v', e = .returned v' ∧ Own w.heap.size w' v' (valB x nm l 6) ∧ Below w.heap.size w w' := by
  have HX : Hid (∀ o, Below w.heap.size w (w.alloc o) ∧ w.heap.size ≤ (w.alloc o).heap.size) := fun o => ⟨up0 w o, (up0 w o).size⟩
  have HU : Hid (∀ w', Calls Tryd.prog 17 #[.int .u64 x.l] w' fun e w'' => ∃ v', e = .returned v' ∧ Own w'.heap.size w'' v' (Wn.uint x.l.toNat) ∧ Below w'.heap.size w' w'') := fun w' => by
    have h := uint_any x.l.toNat w' (by omega)
    rwa [show ((x.l.toNat : Nat) : Int) = x.l by omega] at h
  have HV : Hid (valB x nm l 6 = Wn.uint x.l.toNat) := rfl
  rw [HV.out]
  generalize Wn.uint x.l.toNat = V at *
  unfold pv
  clear HV
  go_enter Tryd.func60, Tryd.ntmps60
  go_wp2_with fail
  refine (HU.out _).mono ?_
  rintro e w1 ⟨v1, rfl, ho, hb⟩
  obtain ⟨ao1, cap1, rfl, _⟩ := ho.bs.shape
  have HO : Hid (Own w.heap.size w1 (.slice ao1 V.length cap1) V ∧ Below w.heap.size w w1) := ⟨ho.mono (HX.out _).2, andThen (HX.out _).1 hb⟩
  clear ho hb
  go_wp2
  go_ret
  exact ⟨_, rfl, HO.out.1, HO.out.2⟩
set_option maxRecDepth 100000 in
set_option maxHeartbeats 1000000 in
theorem value_n8 (x : Nums) (nm : ByteArray) (ao : Option Addr) (n cap : Nat) (l : List Nat) (w : World) (h0 : 0 ≤ x.n) (h1 : x.n ≤ 9223372036854775807) :
    Calls Tryd.prog 60 #[pv x nm (.slice ao n cap), .int .i64 ((8 : Nat) : Int)] w fun e w' => ∃ v', e = .returned v' ∧ Own w.heap.size w' v' (valB x nm l 8) ∧ Below w.heap.size w w' := by
  have HX : Hid (∀ o, Below w.heap.size w (w.alloc o) ∧ w.heap.size ≤ (w.alloc o).heap.size) := fun o => ⟨up0 w o, (up0 w o).size⟩
  have HU : Hid (∀ w', Calls Tryd.prog 17 #[.int .u64 x.n] w' fun e w'' => ∃ v', e = .returned v' ∧ Own w'.heap.size w'' v' (Wn.uint x.n.toNat) ∧ Below w'.heap.size w' w'') := fun w' => by
    have h := uint_any x.n.toNat w' (by omega)
    rwa [show ((x.n.toNat : Nat) : Int) = x.n by omega] at h
  have HV : Hid (valB x nm l 8 = Wn.uint x.n.toNat) := rfl
  rw [HV.out]
  generalize Wn.uint x.n.toNat = V at *
  unfold pv
  clear HV
  go_enter Tryd.func60, Tryd.ntmps60
  go_wp2_with fail
  refine (HU.out _).mono ?_
  rintro e w1 ⟨v1, rfl, ho, hb⟩
  obtain ⟨ao1, cap1, rfl, _⟩ := ho.bs.shape
  have HO : Hid (Own w.heap.size w1 (.slice ao1 V.length cap1) V ∧ Below w.heap.size w w1) := ⟨ho.mono (HX.out _).2, andThen (HX.out _).1 hb⟩
  clear ho hb
  go_wp2
  go_ret
  exact ⟨_, rfl, HO.out.1, HO.out.2⟩
set_option maxRecDepth 100000 in
set_option maxHeartbeats 1000000 in
theorem value_n9 (x : Nums) (nm : ByteArray) (ao : Option Addr) (n cap : Nat) (l : List Nat) (w : World) (h0 : 0 ≤ x.i) (h1 : x.i ≤ 9223372036854775807) :
    Calls Tryd.prog 60 #[pv x nm (.slice ao n cap), .int .i64 ((9 : Nat) : Int)] w fun e w' => ∃ v', e = .returned v' ∧ Own w.heap.size w' v' (valB x nm l 9) ∧ Below w.heap.size w w' := by
  have HX : Hid (∀ o, Below w.heap.size w (w.alloc o) ∧ w.heap.size ≤ (w.alloc o).heap.size) := fun o => ⟨up0 w o, (up0 w o).size⟩
  have HU : Hid (∀ w', Calls Tryd.prog 17 #[.int .u64 x.i] w' fun e w'' => ∃ v', e = .returned v' ∧ Own w'.heap.size w'' v' (Wn.uint x.i.toNat) ∧ Below w'.heap.size w' w'') := fun w' => by
    have h := uint_any x.i.toNat w' (by omega)
    rwa [show ((x.i.toNat : Nat) : Int) = x.i by omega] at h
  have HV : Hid (valB x nm l 9 = Wn.uint x.i.toNat) := rfl
  rw [HV.out]
  generalize Wn.uint x.i.toNat = V at *
  unfold pv
  clear HV
  go_enter Tryd.func60, Tryd.ntmps60
  go_wp2_with fail
  refine (HU.out _).mono ?_
  rintro e w1 ⟨v1, rfl, ho, hb⟩
  obtain ⟨ao1, cap1, rfl, _⟩ := ho.bs.shape
  have HO : Hid (Own w.heap.size w1 (.slice ao1 V.length cap1) V ∧ Below w.heap.size w w1) := ⟨ho.mono (HX.out _).2, andThen (HX.out _).1 hb⟩
  clear ho hb
  go_wp2
  go_ret
  exact ⟨_, rfl, HO.out.1, HO.out.2⟩
end Go.Proofs.YtenhaogheilmoaaDoor

/-
  Package record: value, the other tags.
-/
namespace Go.Proofs.YtenhaogheilmoaaDoor
open Go Go.RowKit
open Wb

/-- the bytes of a text, made anew -/
theorem bs_of_string (w : World) (s : ByteArray) (hs : s.size ≤ maxLen) (g : Nat) (hg : g = w.heap.size) (fr : Nat × Nat) : Bs (w.drew.alloc (.cells (bytesRow s (grownCap w s.size 0 5)) 5 fr)) (.slice (some ⟨g, 0, none⟩) s.size (grownCap w s.size 0 5)) (nbs s) := by
  subst hg
  refine ⟨⟨some ⟨w.heap.size, 0, none⟩, grownCap w s.size 0 5, by rw [nbs_len], by rw [nbs_len]; exact grownCap_ge _ _ _ _, grownCap_le_maxLen _ _ _ _ hs, (fun e => nomatch e), fun _ => ⟨w.heap.size, 0, rfl, fun j hj => ?_⟩⟩, nbs_ok s⟩
  rw [Nat.zero_add]
  have hj' : j < s.data.size := by rw [nbs_len] at hj; exact hj
  have e : (w.drew.alloc (.cells (bytesRow s (grownCap w s.size 0 5)) 5 fr)).cell? ⟨w.heap.size, j, none⟩ = (bytesRow s (grownCap w s.size 0 5))[j]? := by
    have h : (w.drew.alloc (.cells (bytesRow s (grownCap w s.size 0 5)) 5 fr)).heap[w.heap.size]? = some (.cells (bytesRow s (grownCap w s.size 0 5)) 5 fr) := Array.getElem?_push_size
    unfold World.cell?
    simp only [h]
    rfl
  rw [e, bytesRow_at s _ j hj']
  simp [nbs]
set_option maxRecDepth 100000 in
set_option maxHeartbeats 1000000 in
theorem value_seven (x : Nums) (nm : ByteArray) (ao : Option Addr) (n cap : Nat) (l : List Nat) (w : World) (h0 : -9223372036854775808 ≤ x.c) (h1 : x.c ≤ 9223372036854775807) :
    Calls Tryd.prog 60 #[pv x nm (.slice ao n cap), .int .i64 ((7 : Nat) : Int)] w fun e w' => ∃ v', e = .returned v' ∧ Own w.heap.size w' v' (valB x nm l 7) ∧ Below w.heap.size w w' := by
  have HX : Hid (∀ o, Below w.heap.size w (w.alloc o) ∧ w.heap.size ≤ (w.alloc o).heap.size) := fun o => ⟨up0 w o, (up0 w o).size⟩
  have HU : Hid (∀ w', Calls Tryd.prog 72 #[.int .i64 x.c] w' fun e w'' => ∃ v', e = .returned v' ∧ Own w'.heap.size w'' v' (Wn.uint (zz x.c)) ∧ Below w'.heap.size w' w'') := fun w' => int_any x.c w' h0 h1
  have HV : Hid (valB x nm l 7 = Wn.uint (zz x.c)) := rfl
  rw [HV.out]
  generalize Wn.uint (zz x.c) = V at *
  unfold pv
  clear HV
  go_enter Tryd.func60, Tryd.ntmps60
  go_wp2_with fail
  refine (HU.out _).mono ?_
  rintro e w1 ⟨v1, rfl, ho, hb⟩
  obtain ⟨ao1, cap1, rfl, _⟩ := ho.bs.shape
  have HO : Hid (Own w.heap.size w1 (.slice ao1 V.length cap1) V ∧ Below w.heap.size w w1) := ⟨ho.mono (HX.out _).2, andThen (HX.out _).1 hb⟩
  clear ho hb
  go_wp2
  go_ret
  exact ⟨_, rfl, HO.out.1, HO.out.2⟩
set_option maxRecDepth 100000 in
set_option maxHeartbeats 1000000 in
theorem value_data (x : Nums) (nm : ByteArray) (d : Value) (l : List Nat) (w : World) (h : Bs w d l) (hlen : l.length ≤ 140737488355000) :
    Calls Tryd.prog 60 #[pv x nm d, .int .i64 ((11 : Nat) : Int)] w fun e w' => ∃ v', e = .returned v' ∧ Own w.heap.size w' v' (valB x nm l 11) ∧ Below w.heap.size w w' := by
  have HX : Hid (∀ o, Below w.heap.size w (w.alloc o) ∧ w.heap.size ≤ (w.alloc o).heap.size) := fun o => ⟨up0 w o, (up0 w o).size⟩
  have HU : Hid (∀ w', Below w.heap.size w w' → Calls Tryd.prog 73 #[d] w' fun e w'' => ∃ v', e = .returned v' ∧ Own w'.heap.size w'' v' (Wn.uint l.length ++ l) ∧ Below w'.heap.size w' w'') := fun w' hb => bytes_any d l w' (h.kept hb) hlen
  have HV : Hid (valB x nm l 11 = Wn.uint l.length ++ l) := rfl
  rw [HV.out]
  obtain ⟨ao, cap, rfl, _⟩ := h.shape
  clear h
  generalize Wn.uint l.length ++ l = V at *
  unfold pv
  clear HV
  go_enter Tryd.func60, Tryd.ntmps60
  go_wp2_with fail
  refine (HU.out _ (HX.out _).1).mono ?_
  rintro e w1 ⟨v1, rfl, ho, hb⟩
  obtain ⟨ao1, cap1, rfl, _⟩ := ho.bs.shape
  have HO : Hid (Own w.heap.size w1 (.slice ao1 V.length cap1) V ∧ Below w.heap.size w w1) := ⟨ho.mono (HX.out _).2, andThen (HX.out _).1 hb⟩
  clear ho hb
  go_wp2
  go_ret
  exact ⟨_, rfl, HO.out.1, HO.out.2⟩
set_option maxRecDepth 100000 in
set_option maxHeartbeats 1000000 in
theorem value_name (x : Nums) (nm : ByteArray) (ao : Option Addr) (n cap : Nat) (l : List Nat) (w : World) (hs : nm.size ≤ 1000000) :
    Calls Tryd.prog 60 #[pv x nm (.slice ao n cap), .int .i64 ((10 : Nat) : Int)] w fun e w' => ∃ v', e = .returned v' ∧ Own w.heap.size w' v' (valB x nm l 10) ∧ Below w.heap.size w w' := by
  have HX : Hid (∀ o, Below w.heap.size w (w.alloc o) ∧ w.heap.size ≤ (w.alloc o).heap.size) := fun o => ⟨up0 w o, (up0 w o).size⟩
  have HU : Hid (∀ d w', Bs w' d (nbs nm) → Calls Tryd.prog 73 #[d] w' fun e w'' => ∃ v', e = .returned v' ∧ Own w'.heap.size w'' v' (Wn.uint (nbs nm).length ++ nbs nm) ∧ Below w'.heap.size w' w'') := fun d w' hb => bytes_any d (nbs nm) w' hb (by rw [nbs_len]; omega)
  have HC : Hid (∀ w' : World, (convert 9 25 (.string nm)).run Tryd.prog w' = .ok (.slice (some ⟨w'.heap.size, 0, none⟩) nm.size (grownCap w' nm.size 0 5)) (w'.drew.alloc (.cells (bytesRow nm (grownCap w' nm.size 0 5)) 5 ((bytesRow nm (grownCap w' nm.size 0 5)).size, (bytesRow nm (grownCap w' nm.size 0 5)).size + 1)))) := fun w' => run_bytes_of_string w' 9 25 5 nm Tryd.underlying9 Tryd.underlying25 Tryd.underlying5
  have HB : Hid (∀ (w' : World) g fr, g = w'.heap.size → Bs (w'.drew.alloc (.cells (bytesRow nm (grownCap w' nm.size 0 5)) 5 fr)) (.slice (some ⟨g, 0, none⟩) nm.size (grownCap w' nm.size 0 5)) (nbs nm)) := fun w' g fr hg => bs_of_string w' nm (by unfold maxLen; omega) g hg fr
  have hc := HC.out
  have HV : Hid (valB x nm l 10 = Wn.uint (nbs nm).length ++ nbs nm) := rfl
  rw [HV.out]
  generalize Wn.uint (nbs nm).length ++ nbs nm = V at *
  unfold pv
  clear HV HC
  go_enter Tryd.func60, Tryd.ntmps60
  go_wp2_with fail
  have HW := HX.out (.cells #[.int .i64 0, .int .i64 x.k, .int .i64 x.s, .int .i64 x.p, .int .i64 x.t, .int .i64 x.a, .int .i64 x.l, .int .i64 x.c, .int .i64 x.n, .int .i64 x.i, .string nm, .slice ao n cap] 65)
  have HSZ : w.heap.size + 1 = (w.alloc (.cells #[.int .i64 0, .int .i64 x.k, .int .i64 x.s, .int .i64 x.p, .int .i64 x.t, .int .i64 x.a, .int .i64 x.l, .int .i64 x.c, .int .i64 x.n, .int .i64 x.i, .string nm, .slice ao n cap] 65)).heap.size := by
    show _ = (w.heap.push _).size
    rw [Array.size_push]
  clear hc
  generalize w.alloc (.cells #[.int .i64 0, .int .i64 x.k, .int .i64 x.s, .int .i64 x.p, .int .i64 x.t, .int .i64 x.a, .int .i64 x.l, .int .i64 x.c, .int .i64 x.n, .int .i64 x.i, .string nm, .slice ao n cap] 65) = W at *
  refine (HU.out _ _ (HB.out W _ _ HSZ)).mono ?_
  rintro e w1 ⟨v1, rfl, ho, hb⟩
  obtain ⟨ao1, cap1, rfl, _⟩ := ho.bs.shape
  have hb' : Below W.heap.size W w1 := andThen (up (Below.drew (Below.refl _ W)) _) hb
  have HO : Hid (Own w.heap.size w1 (.slice ao1 V.length cap1) V ∧ Below w.heap.size w w1) := ⟨ho.mono (Nat.le_trans HW.2 (up (Below.drew (Below.refl _ W)) _).size), andThen HW.1 hb'⟩
  clear ho hb hb'
  go_wp2
  go_ret
  exact ⟨_, rfl, HO.out.1, HO.out.2⟩
/-- a record's numbers that are written as they are -/
def Nums.nice (x : Nums) : Prop := (∀ t, 1 ≤ t → t ≤ 9 → t ≠ 7 → 0 ≤ x.tag t ∧ x.tag t ≤ 9223372036854775807) ∧ -9223372036854775808 ≤ x.c ∧ x.c ≤ 9223372036854775807
theorem value_any (x : Nums) (nm : ByteArray) (d : Value) (l : List Nat) (t : Nat) (w : World) (h : Bs w d l) (hlen : l.length ≤ 140737488355000) (hs : nm.size ≤ 1000000) (hx : x.nice) (h1 : 1 ≤ t) (h2 : t ≤ 11) :
    Calls Tryd.prog 60 #[pv x nm d, .int .i64 (t : Int)] w fun e w' => ∃ v', e = .returned v' ∧ Own w.heap.size w' v' (valB x nm l t) ∧ Below w.heap.size w w' := by
  by_cases h11 : t = 11
  · subst h11
    exact value_data x nm d l w h hlen
  · obtain ⟨ao, cap, rfl, _⟩ := h.shape
    obtain rfl | rfl | rfl | rfl | rfl | rfl | rfl | rfl | rfl | rfl : t = 1 ∨ t = 2 ∨ t = 3 ∨ t = 4 ∨ t = 5 ∨ t = 6 ∨ t = 7 ∨ t = 8 ∨ t = 9 ∨ t = 10 := by omega
    · exact value_n1 x nm ao _ cap l w (hx.1 1 (by omega) (by omega) (by omega)).1 (hx.1 1 (by omega) (by omega) (by omega)).2
    · exact value_n2 x nm ao _ cap l w (hx.1 2 (by omega) (by omega) (by omega)).1 (hx.1 2 (by omega) (by omega) (by omega)).2
    · exact value_n3 x nm ao _ cap l w (hx.1 3 (by omega) (by omega) (by omega)).1 (hx.1 3 (by omega) (by omega) (by omega)).2
    · exact value_n4 x nm ao _ cap l w (hx.1 4 (by omega) (by omega) (by omega)).1 (hx.1 4 (by omega) (by omega) (by omega)).2
    · exact value_n5 x nm ao _ cap l w (hx.1 5 (by omega) (by omega) (by omega)).1 (hx.1 5 (by omega) (by omega) (by omega)).2
    · exact value_n6 x nm ao _ cap l w (hx.1 6 (by omega) (by omega) (by omega)).1 (hx.1 6 (by omega) (by omega) (by omega)).2
    · exact value_seven x nm ao _ cap l w hx.2.1 hx.2.2
    · exact value_n8 x nm ao _ cap l w (hx.1 8 (by omega) (by omega) (by omega)).1 (hx.1 8 (by omega) (by omega) (by omega)).2
    · exact value_n9 x nm ao _ cap l w (hx.1 9 (by omega) (by omega) (by omega)).1 (hx.1 9 (by omega) (by omega) (by omega)).2
    · exact value_name x nm ao _ cap l w hs
end Go.Proofs.YtenhaogheilmoaaDoor

/-
  Package record: Encode, Size.
-/
namespace Go.Proofs.YtenhaogheilmoaaDoor
open Go Go.RowKit
open Wb

/-- the bytes of the fields from the tag 12 - n on -/
def encN (x : Nums) (nm : ByteArray) (l : List Nat) : Nat → List Nat
  | 0 => []
  | n + 1 => (if zeroT x nm l.length (11 - n) then [] else Wn.uint (11 - n) ++ valB x nm l (11 - n)) ++ encN x nm l n
def enc (x : Nums) (nm : ByteArray) (l : List Nat) : List Nat := encN x nm l 11
theorem encN_succ (x : Nums) (nm : ByteArray) (l : List Nat) (n : Nat) : encN x nm l (n + 1) = (if zeroT x nm l.length (11 - n) then [] else Wn.uint (11 - n) ++ valB x nm l (11 - n)) ++ encN x nm l n := rfl
theorem valB_len (x : Nums) (nm : ByteArray) (l : List Nat) (t : Nat) (hx : x.nice) (hs : nm.size ≤ 1000000) (hl : l.length ≤ 16384) (h1 : 1 ≤ t) (h2 : t ≤ 11) : (valB x nm l t).length ≤ 1000100 := by
  unfold valB
  split
  · have := Wn.uint_len10 (zz x.c) (zz_lt x.c hx.2.1 hx.2.2)
    omega
  · split
    · have := Wn.uint_len10 (nbs nm).length (by rw [nbs_len]; omega)
      rw [List.length_append]
      rw [nbs_len] at *
      omega
    · split
      · have := Wn.uint_len10 l.length (by omega)
        rw [List.length_append]
        omega
      · have h := hx.1 t h1 (by omega) (by omega)
        have := Wn.uint_len10 (x.tag t).toNat (by omega)
        omega
set_option maxRecDepth 100000 in
set_option maxHeartbeats 4000000 in
theorem encode_ok (x : Nums) (nm : ByteArray) (d : Value) (l : List Nat) (w : World) (h : Bs w d l) (hT : Text.TabP 3 .i32 Text.Tx.lets w) (hG : TagsT w) (hnm : nm.size ≤ 1000000) (hl : l.length ≤ 16384) (hx : x.nice) (hc : chk x nm l = 0) :
    Calls Tryd.prog 37 #[rv x nm d] w fun e w' => ∃ ao cap, e = .returned (.tuple #[.slice ao (enc x nm l).length cap, .int .i64 0]) ∧ Own w.heap.size w' (.slice ao (enc x nm l).length cap) (enc x nm l) ∧ Below w.heap.size w w' := by
  have hin := info5
  have HX : Hid (∀ o, (w.alloc o).heap[w.heap.size]? = some o ∧ Below w.heap.size w (w.alloc o)) := fun o => ⟨Array.getElem?_push_size, up0 w o⟩
  have HB : Hid (∀ w', Below w.heap.size w w' → Bs w' d l) := fun w' hb => h.kept hb
  have HCH : Hid (∀ w', Below w.heap.size w w' → Calls Tryd.prog 15 #[rv x nm d] w' fun e w'' => e = .returned (.int .i64 0) ∧ Below w'.heap.size w' w'') := fun w' hb => by
    have h1 := check_any x nm d l w' (h.kept hb) (hT.kept hb) (hG.kept hb) (by omega)
    rwa [hc] at h1
  have HVL : Hid (∀ (t : Nat) w', Below w.heap.size w w' → 1 ≤ t → t ≤ 11 → Calls Tryd.prog 60 #[pv x nm d, .int .i64 (t : Int)] w' fun e w'' => ∃ v', e = .returned v' ∧ Own w'.heap.size w'' v' (valB x nm l t) ∧ Below w'.heap.size w' w'') := fun t w' hb a b => value_any x nm d l t w' (h.kept hb) (by omega) hnm hx a b
  have HLN : Hid (∀ t, 1 ≤ t → t ≤ 11 → (valB x nm l t).length ≤ 1000100) := fun t a b => valB_len x nm l t hx hnm hl a b
  obtain ⟨ao, cap, rfl, _⟩ := h.shape
  have HAP : Hid (∀ w', Calls Tryd.prog 32 #[rv x nm (.slice ao l.length cap)] w' fun e w'' => e = .returned (pv x nm (.slice ao l.length cap)) ∧ Below w'.heap.size w' w'') := fun w' => apart_any x nm ao l.length cap w'
  have HIZ : Hid (∀ (t : Nat) w', 1 ≤ t → t ≤ 11 → Calls Tryd.prog 35 #[pv x nm (.slice ao l.length cap), .int .i64 (t : Int)] w' fun e w'' => e = .returned (.bool (zeroT x nm l.length t)) ∧ Below w'.heap.size w' w'') := fun t w' a b => isZero_any x nm ao l.length cap t w' a b
  clear h hT hG hc hx
  unfold rv pv at *
  go_enter Tryd.func37, Tryd.ntmps37
  go_wp2_with fail
  refine (HCH.out _ (HX.out _).2).mono ?_
  rintro e w1 ⟨rfl, b1⟩
  have hbx : Box w1 w.heap.size x nm (.slice ao l.length cap) := Box.kept (HX.out _).1 b1
  have B1 := andThen (HX.out _).2 b1
  clear b1 HX HCH
  obtain ⟨c0, c1, c2, c3, c4, c5, c6, c7, c8, c9, c10, c11⟩ := hbx.cells
  go_wp2_with fail
  refine (HAP.out _).mono ?_
  rintro e w2 ⟨rfl, b2⟩
  have HW3 : Hid (PBox (w2.alloc (.cells #[.int .i64 0, .int .i64 x.k, .int .i64 x.s, .int .i64 x.p, .int .i64 x.t, .int .i64 x.a, .int .i64 x.l, .int .i64 x.c, .int .i64 x.n, .int .i64 x.i, .string nm, .slice ao l.length cap] 65)) w2.heap.size x nm (.slice ao l.length cap) ∧ Below w.heap.size w (w2.alloc (.cells #[.int .i64 0, .int .i64 x.k, .int .i64 x.s, .int .i64 x.p, .int .i64 x.t, .int .i64 x.a, .int .i64 x.l, .int .i64 x.c, .int .i64 x.n, .int .i64 x.i, .string nm, .slice ao l.length cap] 65))) := ⟨Array.getElem?_push_size, up (andThen B1 b2) _⟩
  clear c0 c1 c2 c3 c4 c5 c6 c7 c8 c9 c10 c11 hbx b2 B1 HAP
  go_wp2
  have HW3' := HW3.out
  clear HW3
  generalize w2.alloc (.cells #[.int .i64 0, .int .i64 x.k, .int .i64 x.s, .int .i64 x.p, .int .i64 x.t, .int .i64 x.a, .int .i64 x.l, .int .i64 x.c, .int .i64 x.n, .int .i64 x.i, .string nm, .slice ao l.length cap] 65) = W3 at HW3' ⊢
  generalize w2.heap.size = g3 at HW3' ⊢
  obtain ⟨hpb, hbw⟩ := HW3'
  have HK : Hid (∀ w', Below W3.heap.size W3 w' → PBox w' g3 x nm (.slice ao l.length cap) ∧ Below w.heap.size w w') := fun w' hb => ⟨hpb.kept hb, andThen hbw hb⟩
  have hW3 : w.heap.size ≤ W3.heap.size := hbw.size
  clear hpb hbw
  obtain ⟨A, hA⟩ : ∃ A, enc x nm l = A := ⟨_, rfl⟩
  have HA : Hid (encN x nm l 11 = A) := hA
  have HAQ : Hid (enc x nm l = A) := hA
  clear hA
  go_loopw [6, 7] (fun o i wr => ∃ (k : Nat) (L : List Nat), 1 ≤ k ∧ k ≤ 12 ∧ i = .int .i64 (k : Int) ∧ Own W3.heap.size wr o L ∧ L.length ≤ 1000200 * k ∧ L ++ encN x nm l (12 - k) = A ∧ Below W3.heap.size W3 wr) (fun _ i _ => 12 - (intOf i).toNat)
  case atStart => exact ⟨1, [], by omega, by omega, rfl, Own.nil _ _, by simp, HA.out, Below.refl _ _⟩
  case round =>
    obtain ⟨k, L, hk1, hk12, rfl, hown, hLl, hap, hbel⟩ := hrel
    have HAP : Hid (L ++ encN x nm l (12 - k) = A) := hap
    clear hap HA
    by_cases hlt : k ≤ 11
    · have HST : Hid (L ++ ((if zeroT x nm l.length k then [] else Wn.uint k ++ valB x nm l k) ++ encN x nm l (12 - (k + 1))) = A) := by
        show _ = _
        rw [← HAP.out, show 12 - k = (11 - k) + 1 by omega, encN_succ, show 11 - (11 - k) = k by omega, show 12 - (k + 1) = 11 - k by omega]
      obtain ⟨c0, c1, c2, c3, c4, c5, c6, c7, c8, c9, c10, c11⟩ := (HK.out _ hbel).1.cells
      have HIZ1 : Hid (Calls Tryd.prog 35 #[.agg #[.int .i64 0, .int .i64 x.k, .int .i64 x.s, .int .i64 x.p, .int .i64 x.t, .int .i64 x.a, .int .i64 x.l, .int .i64 x.c, .int .i64 x.n, .int .i64 x.i, .string nm, .slice ao l.length cap], .int .i64 (k : Int)] wr fun e w'' => e = .returned (.bool (zeroT x nm l.length k)) ∧ Below wr.heap.size wr w'') := HIZ.out k wr hk1 hlt
      obtain ⟨ao5, cap5, rfl, _⟩ := hown.bs.shape
      have HOW : Hid (∀ w', Below wr.heap.size wr w' → Own W3.heap.size w' (.slice ao5 L.length cap5) L ∧ Below W3.heap.size W3 w') := fun w' hb => ⟨hown.kept hb, andThen hbel hb⟩
      clear HAP hown
      cases hz : zeroT x nm l.length k with
      | true =>
        have HN : Hid (L ++ encN x nm l (12 - (k + 1)) = A) := by show _ = _; rw [← HST.out, hz]; rfl
        rw [hz] at HIZ1
        clear HST hz
        go_wp2_with fail
        refine HIZ1.out.mono ?_
        rintro e w4 ⟨rfl, b4⟩
        have HO4 := HOW.out _ b4
        clear c0 c1 c2 c3 c4 c5 c6 c7 c8 c9 c10 c11 HIZ1 HOW b4
        go_wp2
        go_roundw
        case rel => exact ⟨k + 1, L, by omega, by omega, by go_num, HO4.1, by omega, HN.out, HO4.2⟩
        case measure => simp [intOf]; omega
      | false =>
        have HN : Hid ((L ++ Wn.uint k ++ valB x nm l k) ++ encN x nm l (12 - (k + 1)) = A) := by show _ = _; rw [← HST.out, hz]; simp
        have HL1 : Hid ((Wn.uint k).length ≤ 10) := Wn.uint_len10 k (by omega)
        have HL2 : Hid ((valB x nm l k).length ≤ 1000100) := HLN.out k hk1 hlt
        have HVK : Hid (∀ w', Below W3.heap.size W3 w' → Calls Tryd.prog 60 #[.agg #[.int .i64 0, .int .i64 x.k, .int .i64 x.s, .int .i64 x.p, .int .i64 x.t, .int .i64 x.a, .int .i64 x.l, .int .i64 x.c, .int .i64 x.n, .int .i64 x.i, .string nm, .slice ao l.length cap], .int .i64 (k : Int)] w' fun e w'' => ∃ v', e = .returned v' ∧ Own w'.heap.size w'' v' (valB x nm l k) ∧ Below w'.heap.size w' w'') := fun w' hb => HVL.out k w' (HK.out _ hb).2 hk1 hlt
        have HUI : Hid (∀ w', Calls Tryd.prog 17 #[.int .u64 (k : Int)] w' fun e w'' => ∃ v', e = .returned v' ∧ Own w'.heap.size w'' v' (Wn.uint k) ∧ Below w'.heap.size w' w'') := fun w' => uint_any k w' (by omega)
        rw [hz] at HIZ1
        clear HST hz
        generalize Wn.uint k = U at *
        generalize valB x nm l k = V at *
        go_wp2_with fail
        refine HIZ1.out.mono ?_
        rintro e w4 ⟨rfl, b4⟩
        have HO4 := HOW.out _ b4
        clear c0 c1 c2 c3 c4 c5 c6 c7 c8 c9 c10 c11 HIZ1 HOW b4
        go_wp2_with fail
        refine (HUI.out _).mono ?_
        rintro e w5 ⟨v5, rfl, ho5, b5⟩
        obtain ⟨ao6, cap6, rfl, _⟩ := ho5.bs.shape
        have HO5 : Hid (Own W3.heap.size w5 (.slice ao5 L.length cap5) L ∧ Below W3.heap.size W3 w5 ∧ Bs w5 (.slice ao6 U.length cap6) U) := ⟨HO4.1.kept b5, andThen HO4.2 b5, ho5.bs⟩
        clear HO4 b5 ho5 HUI
        go_wp2_with (at_builtin; refine wpList_append _ rfl (.tmp 22) (.tmp 25) 25 rfl W3.heap.size hin Tryd.underlying25 _ L rfl HO5.out.1 _ U rfl HO5.out.2.2 (by have := HL1.out; omega) HO5.out.2.1.size ?_)
        intro v6 w6 ho6 b6 _
        have HO6 : Own W3.heap.size w6 v6 (L ++ U) ∧ Below W3.heap.size W3 w6 := ⟨ho6, HO5.out.2.1.trans b6⟩
        obtain ⟨ao7, cap7, rfl, _⟩ := ho6.bs.shape
        clear ho6 b6 HO5
        have HM1 : Hid ((L ++ U).length ≤ L.length + 10) := by show _ ≤ _; rw [List.length_append]; have := HL1.out; omega
        generalize L ++ U = M at *
        have hM1 : M.length ≤ L.length + 10 := HM1.out
        obtain ⟨c0, c1, c2, c3, c4, c5, c6, c7, c8, c9, c10, c11⟩ := (HK.out _ HO6.2).1.cells
        go_wp2_with fail
        refine (HVK.out _ HO6.2).mono ?_
        rintro e w7 ⟨v7, rfl, ho7, b7⟩
        obtain ⟨ao8, cap8, rfl, _⟩ := ho7.bs.shape
        have HO7 : Hid (Own W3.heap.size w7 (.slice ao7 M.length cap7) M ∧ Below W3.heap.size W3 w7 ∧ Bs w7 (.slice ao8 V.length cap8) V) := ⟨HO6.1.kept b7, andThen HO6.2 b7, ho7.bs⟩
        clear HO6 b7 ho7 HVK c0 c1 c2 c3 c4 c5 c6 c7 c8 c9 c10 c11
        go_wp2_with (at_builtin; refine wpList_append _ rfl (.tmp 27) (.tmp 30) 25 rfl W3.heap.size hin Tryd.underlying25 _ M rfl HO7.out.1 _ V rfl HO7.out.2.2 (by have := HL2.out; omega) HO7.out.2.1.size ?_)
        intro v8 w8 ho8 b8 _
        have HO8 : Hid (Own W3.heap.size w8 v8 (M ++ V) ∧ Below W3.heap.size W3 w8) := ⟨ho8, HO7.out.2.1.trans b8⟩
        clear ho8 b8 HO7
        go_wp2
        go_roundw
        case rel => exact ⟨k + 1, M ++ V, by omega, by omega, by go_num, HO8.out.1, by have := HL2.out; rw [List.length_append]; omega, HN.out, HO8.out.2⟩
        case measure => simp [intOf]; omega
    · obtain rfl : k = 12 := by omega
      have hE : L = A := by
        have := HAP.out
        rw [show 12 - 12 = 0 by omega] at this
        simpa [encN] using this
      obtain ⟨ao5, cap5, rfl, _⟩ := hown.bs.shape
      have HO : Hid (Own w.heap.size wr (.slice ao5 L.length cap5) L ∧ Below w.heap.size w wr) := ⟨hown.mono hW3, (HK.out _ hbel).2⟩
      subst hE
      clear hown HAP
      go_wp2
      go_ret2
      refine ⟨ao5, cap5, ?_, ?_, HO.out.2⟩
      · rw [HAQ.out]; rfl
      · rw [HAQ.out]; exact HO.out.1
set_option maxRecDepth 100000 in
set_option maxHeartbeats 1000000 in
theorem encode_err (x : Nums) (nm : ByteArray) (d : Value) (l : List Nat) (w : World) (h : Bs w d l) (hT : Text.TabP 3 .i32 Text.Tx.lets w) (hG : TagsT w) (hnm : nm.size ≤ 140737488355000) (hc : chk x nm l ≠ 0) :
    Calls Tryd.prog 37 #[rv x nm d] w fun e w' => e = .returned (.tuple #[.slice none 0 0, .int .i64 (chk x nm l)]) ∧ Below w.heap.size w w' := by
  have HX : Hid (∀ o, Below w.heap.size w (w.alloc o)) := fun o => up0 w o
  have HCH : Hid (∀ w', Below w.heap.size w w' → Calls Tryd.prog 15 #[rv x nm d] w' fun e w'' => e = .returned (.int .i64 (chk x nm l)) ∧ Below w'.heap.size w' w'') := fun w' hb => check_any x nm d l w' (h.kept hb) (hT.kept hb) (hG.kept hb) hnm
  obtain ⟨ao, cap, rfl, _⟩ := h.shape
  have d1 : (chk x nm l != 0) = true := by rw [bne_iff_ne]; exact hc
  clear h hT hG hc
  generalize chk x nm l = z at *
  unfold rv at *
  go_enter Tryd.func37, Tryd.ntmps37
  go_wp2_with fail
  refine (HCH.out _ (HX.out _)).mono ?_
  rintro e w1 ⟨rfl, b1⟩
  have B1 := andThen (HX.out _) b1
  clear b1
  go_wp2
  go_ret2
  exact ⟨rfl, B1⟩
theorem fld_nice (x : Nums) (nm : ByteArray) (l : List Nat) (t : Nat) (h : tagE x nm l t = 0) (h3 : 3 ≤ t) (h9 : t ≤ 9) (h7 : t ≠ 7) : 0 ≤ x.tag t := by
  unfold tagE at h
  cases hr : x.row.contains (t : Int) with
  | true =>
    rw [hr] at h
    have h2 : fldE x nm l t = 0 := by simpa using h
    unfold fldE at h2
    rw [if_neg (by omega), if_neg (by omega)] at h2
    have h4 : ¬ (x.tag t < x.lo t ∨ x.hi t < x.tag t) := by
      intro hh
      rw [if_pos hh] at h2
      simp at h2
    have h5 : 0 ≤ x.lo t := by
      unfold Nums.lo
      split
      · split <;> omega
      · split
        · omega
        · split <;> omega
    omega
  | false =>
    rw [hr] at h
    cases hz : zeroT x nm l.length t with
    | false => rw [hz] at h; simp at h
    | true =>
      unfold zeroT at hz
      rw [if_neg (by omega), if_neg (by omega)] at hz
      have : x.tag t = 0 := by simpa using hz
      omega
/-- a valid record's numbers are written as they are -/
theorem chk_nice (x : Nums) (nm : ByteArray) (l : List Nat) (hc : chk x nm l = 0) (hb : ∀ t, 1 ≤ t → t ≤ 9 → -9223372036854775808 ≤ x.tag t ∧ x.tag t ≤ 9223372036854775807) : x.nice ∧ (1 ≤ x.v ∧ x.v ≤ 3) ∧ (1 ≤ x.k ∧ x.k ≤ 7) ∧ 1 ≤ x.s ∧ chkN x nm l 9 = 0 := by
  unfold chk at hc
  by_cases hv : 1 ≤ x.v ∧ x.v ≤ 3
  · rw [if_neg (by simpa using hv)] at hc
    by_cases hk : 1 ≤ x.k ∧ x.k ≤ 7
    · rw [if_neg (by simpa using hk)] at hc
      by_cases hs : x.s < 1
      · rw [if_pos hs] at hc; simp at hc
      · rw [if_neg hs] at hc
        refine ⟨⟨fun t h1 h9 h7 => ⟨?_, (hb t h1 h9).2⟩, hb 7 (by omega) (by omega)⟩, hv, hk, by omega, hc⟩
        have key : ∀ n, chkN x nm l n = 0 → ∀ t, t ≤ 11 → 11 < t + n → tagE x nm l t = 0 := by
          intro n
          induction n with
          | zero => intro _ t _ _; omega
          | succ n ih =>
            intro h t ht htn
            rw [chkN_succ] at h
            by_cases h0 : tagE x nm l (11 - n) = 0
            · rw [if_pos h0] at h
              by_cases he : t = 11 - n
              · subst he; exact h0
              · exact ih h t ht (by omega)
            · rw [if_neg h0] at h
              exact absurd h h0
        by_cases ht1 : t = 1
        · subst ht1; show 0 ≤ x.k; omega
        · by_cases ht2 : t = 2
          · subst ht2; show 0 ≤ x.s; omega
          · exact fld_nice x nm l t (key 9 hc t (by omega) (by omega)) (by omega) h9 h7
    · rw [if_pos hk] at hc; simp at hc
  · rw [if_pos hv] at hc; simp at hc
end Go.Proofs.YtenhaogheilmoaaDoor

/-
  The reference's Alike and Same.
-/
namespace Go.Proofs.YtenhaogheilmoaaDoor
open Go Go.RowKit
open Wb

set_option maxHeartbeats 400000 in
theorem ralike_any (va vb : Value) (a b : List Nat) (w : World) (ha : Bs w va a) (hb : Bs w vb b) :
    Calls Tryd.prog 66 #[va, vb] w fun e w' => e = .returned (.bool (decide (a = b))) ∧ Below w.heap.size w w' := by
  obtain ⟨aoa, capa, rfl, hla, hma, hna, hca⟩ := ha.shape
  obtain ⟨aob, capb, rfl, hlb, hmb, hnb, hcb⟩ := hb.shape
  unfold maxLen at hma hmb
  have ga := ha.good
  have gb := hb.good
  by_cases hlen : a.length = b.length
  · have HL : Hid (a.length = b.length) := hlen
    have d0 : ((a.length : Int) != (b.length : Int)) = false := by simp [hlen]
    clear hlen
    go_enter Tryd.func66, Tryd.ntmps66
    go_wp2
    go_loopw [5] (fun i wr => ∃ k : Nat, k ≤ a.length ∧ i = .int .i64 k ∧ a.take k = b.take k ∧ Below w.heap.size w wr) (fun i _ => a.length - (intOf i).toNat)
    case atStart => exact ⟨0, Nat.zero_le _, rfl, by simp, Below.refl _ _⟩
    case round =>
      obtain ⟨k, hk, rfl, heq, hbel⟩ := hrel
      have HQ : Hid (a.take k = b.take k) := heq
      clear heq
      by_cases hlt : k < a.length
      · have hlt' : k < b.length := by rw [← HL.out]; exact hlt
        obtain ⟨b1, off1, rfl, hcell1⟩ := hca (List.ne_nil_of_length_pos (by omega))
        obtain ⟨b2, off2, rfl, hcell2⟩ := hcb (List.ne_nil_of_length_pos (by omega))
        have q1 := (hbel.cell (p := ⟨b1, off1 + k, none⟩) (World.block_lt_of_cell? _ _ (hcell1 k hlt))).trans (hcell1 k hlt)
        have q2 := (hbel.cell (p := ⟨b2, off2 + k, none⟩) (World.block_lt_of_cell? _ _ (hcell2 k hlt'))).trans (hcell2 k hlt')
        clear hca hcb hcell1 hcell2 hna hnb ha hb
        by_cases hxy : a[k] = b[k]
        · have HS : Hid (a.take (k + 1) = b.take (k + 1)) := by
            show _ = _
            rw [List.take_succ_eq_append_getElem hlt, List.take_succ_eq_append_getElem hlt', HQ.out, hxy]
          rw [hxy] at q1
          generalize b[k] = y at *
          have d1 : ((y : Int) != (y : Int)) = false := by simp
          clear hxy
          go_wp2
          go_quiet (fail)
          go_wp2
          go_roundw
          case rel => exact ⟨k + 1, by omega, by go_num, HS.out, below_drewN hbel _⟩
          case measure => simp [intOf]; omega
        · have HN : Hid (¬ a = b) := by
            intro e
            subst e
            exact hxy rfl
          have d1 : ((a[k] : Int) != (b[k] : Int)) = true := by rw [bne_iff_ne]; omega
          generalize a[k] = x at *
          generalize b[k] = y at *
          clear hxy
          go_wp2
          go_quiet (fail)
          go_wp2
          go_ret
          exact ⟨by rw [decide_eq_false HN.out]; rfl, below_drewN hbel _⟩
      · have HE : Hid (a = b) := by
          have h := HQ.out
          rw [List.take_of_length_le (by omega), List.take_of_length_le (by rw [← HL.out]; omega)] at h
          exact h
        go_wp2
        go_ret
        exact ⟨by rw [decide_eq_true HE.out]; rfl, hbel⟩
  · have HN : Hid (¬ a = b) := fun e => hlen (by rw [e])
    have d0 : ((a.length : Int) != (b.length : Int)) = true := by rw [bne_iff_ne]; omega
    clear hlen hca hcb
    go_enter Tryd.func66, Tryd.ntmps66
    go_wp2
    go_ret
    exact ⟨by rw [decide_eq_false HN.out]; rfl, Below.refl _ _⟩

/-- do two records hold the same? -/
def recEq (x y : Nums) (nm nm2 : ByteArray) (l l2 : List Nat) : Bool := decide (x = y) && (nm.toList == nm2.toList) && decide (l = l2)
theorem nums_eq (x y : Nums) (hv : x.v = y.v) (h : ∀ t, 1 ≤ t → t ≤ 9 → x.tag t = y.tag t) : x = y := by
  have h1 : x.k = y.k := h 1 (by omega) (by omega)
  have h2 : x.s = y.s := h 2 (by omega) (by omega)
  have h3 : x.p = y.p := h 3 (by omega) (by omega)
  have h4 : x.t = y.t := h 4 (by omega) (by omega)
  have h5 : x.a = y.a := h 5 (by omega) (by omega)
  have h6 : x.l = y.l := h 6 (by omega) (by omega)
  have h7 : x.c = y.c := h 7 (by omega) (by omega)
  have h8 : x.n = y.n := h 8 (by omega) (by omega)
  have h9 : x.i = y.i := h 9 (by omega) (by omega)
  cases x
  cases y
  simp_all
set_option maxRecDepth 100000 in
set_option maxHeartbeats 2000000 in
theorem refsame_any (x y : Nums) (nm nm2 : ByteArray) (d d2 : Value) (l l2 : List Nat) (w : World) (h : Bs w d l) (h2 : Bs w d2 l2) :
    Calls Tryd.prog 47 #[rv x nm d, rv y nm2 d2] w fun e w' => e = .returned (.bool (recEq x y nm nm2 l l2)) ∧ Below w.heap.size w w' := by
  have HB : Hid (∀ w', Below w.heap.size w w' → Bs w' d l) := fun w' hb => h.kept hb
  have HB2 : Hid (∀ w', Below w.heap.size w w' → Bs w' d2 l2) := fun w' hb => h2.kept hb
  obtain ⟨ao, cap, rfl, _⟩ := h.shape
  obtain ⟨ao2, cap2, rfl, _⟩ := h2.shape
  have HN1 : Hid (∀ (t : Nat) (w' : World), 1 ≤ t → t ≤ 9 → Calls Tryd.prog 62 #[.agg #[.int .i64 x.v, .int .i64 x.k, .int .i64 x.s, .int .i64 x.p, .int .i64 x.t, .int .i64 x.a, .int .i64 x.l, .int .i64 x.c, .int .i64 x.n, .int .i64 x.i, .string nm, .slice ao l.length cap], .int .i64 (t : Int)] w' fun e w'' => e = .returned (.int .i64 (x.tag t)) ∧ Below w'.heap.size w' w'') := fun t w' a b => number_any x nm ao l.length cap t w' a b
  have HN2 : Hid (∀ (t : Nat) (w' : World), 1 ≤ t → t ≤ 9 → Calls Tryd.prog 62 #[.agg #[.int .i64 y.v, .int .i64 y.k, .int .i64 y.s, .int .i64 y.p, .int .i64 y.t, .int .i64 y.a, .int .i64 y.l, .int .i64 y.c, .int .i64 y.n, .int .i64 y.i, .string nm2, .slice ao2 l2.length cap2], .int .i64 (t : Int)] w' fun e w'' => e = .returned (.int .i64 (y.tag t)) ∧ Below w'.heap.size w' w'') := fun t w' a b => number_any y nm2 ao2 l2.length cap2 t w' a b
  have HX1 : Hid (∀ o1 o2, (((w.alloc o1).alloc o2).heap[w.heap.size]? = some o1) ∧ (((w.alloc o1).alloc o2).heap[w.heap.size + 1]? = some o2)) := fun o1 o2 => ⟨(heap2 w o1 o2).1, (heap2 w o1 o2).2.1⟩
  clear h h2
  unfold rv
  go_enter Tryd.func47, Tryd.ntmps47
  go_wp2
  go_loopw [5] (fun i wr => ∃ k : Nat, 1 ≤ k ∧ k ≤ 10 ∧ i = .int .i64 (k : Int) ∧ (∀ t, 1 ≤ t → t < k → x.tag t = y.tag t) ∧ Box wr w.heap.size x nm (.slice ao l.length cap) ∧ Box wr (w.heap.size + 1) y nm2 (.slice ao2 l2.length cap2) ∧ Below w.heap.size w wr) (fun i _ => 10 - (intOf i).toNat)
  case atStart => exact ⟨1, by omega, by omega, rfl, fun t a b => by omega, (HX1.out _ _).1, (HX1.out _ _).2, up (up0 _ _) _⟩
  case round =>
    obtain ⟨k, hk1, hk2, rfl, heq, hb1, hb2, hbel⟩ := hrel
    have HEQ : Hid (∀ t, 1 ≤ t → t < k → x.tag t = y.tag t) := heq
    have HBX1 : Hid (∀ w', Below wr.heap.size wr w' → Box w' w.heap.size x nm (.slice ao l.length cap)) := fun w' hb => hb1.kept hb
    have HBX2 : Hid (∀ w', Below wr.heap.size wr w' → Box w' (w.heap.size + 1) y nm2 (.slice ao2 l2.length cap2)) := fun w' hb => hb2.kept hb
    clear heq HX1
    by_cases hlt : k ≤ 9
    · obtain ⟨c0, c1, c2, c3, c4, c5, c6, c7, c8, c9, c10, c11⟩ := hb1.cells
      clear hb1 hb2
      have HXT : Hid (x.tag k = y.tag k → ∀ t, 1 ≤ t → t < k + 1 → x.tag t = y.tag t) := fun e t a b => by
        by_cases ht : t < k
        · exact HEQ.out t a ht
        · obtain rfl : t = k := by omega
          exact e
      have HNE : Hid (x.tag k ≠ y.tag k → recEq x y nm nm2 l l2 = false) := fun hne => by
        unfold recEq
        rw [decide_eq_false (fun e => hne (by rw [e])), Bool.false_and, Bool.false_and]
      have HC1 : Hid (∀ w' : World, Calls Tryd.prog 62 #[.agg #[.int .i64 x.v, .int .i64 x.k, .int .i64 x.s, .int .i64 x.p, .int .i64 x.t, .int .i64 x.a, .int .i64 x.l, .int .i64 x.c, .int .i64 x.n, .int .i64 x.i, .string nm, .slice ao l.length cap], .int .i64 (k : Int)] w' fun e w'' => e = .returned (.int .i64 (x.tag k)) ∧ Below w'.heap.size w' w'') := fun w' => HN1.out k w' hk1 hlt
      have HC2 : Hid (∀ w' : World, Calls Tryd.prog 62 #[.agg #[.int .i64 y.v, .int .i64 y.k, .int .i64 y.s, .int .i64 y.p, .int .i64 y.t, .int .i64 y.a, .int .i64 y.l, .int .i64 y.c, .int .i64 y.n, .int .i64 y.i, .string nm2, .slice ao2 l2.length cap2], .int .i64 (k : Int)] w' fun e w'' => e = .returned (.int .i64 (y.tag k)) ∧ Below w'.heap.size w' w'') := fun w' => HN2.out k w' hk1 hlt
      clear HN1 HN2
      generalize x.tag k = tx at *
      generalize y.tag k = ty at *
      go_wp2_with fail
      refine (HC1.out _).mono ?_
      rintro e w2 ⟨rfl, b2⟩
      obtain ⟨d0, d1, d2', d3, d4, d5, d6, d7, d8, d9, d10, d11⟩ := (HBX2.out _ b2).cells
      clear c0 c1 c2 c3 c4 c5 c6 c7 c8 c9 c10 c11
      go_wp2_with fail
      refine (HC2.out _).mono ?_
      rintro e w3 ⟨rfl, b3⟩
      have B3 : Below wr.heap.size wr w3 := andThen b2 b3
      clear b2 b3 d0 d1 d2' d3 d4 d5 d6 d7 d8 d9 d10 d11 HC1 HC2
      by_cases he : tx = ty
      · subst he
        have HI : Hid (∀ t, 1 ≤ t → t < k + 1 → x.tag t = y.tag t) := HXT.out rfl
        have HRR : Hid (Box w3 w.heap.size x nm (.slice ao l.length cap) ∧ Box w3 (w.heap.size + 1) y nm2 (.slice ao2 l2.length cap2) ∧ Below w.heap.size w w3) := ⟨HBX1.out _ B3, HBX2.out _ B3, andThen hbel B3⟩
        clear HXT HNE HBX1 HBX2
        go_wp2
        go_roundw
        case rel => exact ⟨k + 1, by omega, by omega, by go_num, HI.out, HRR.out.1, HRR.out.2.1, HRR.out.2.2⟩
        case measure => simp [intOf]; omega
      · have HF : Hid (recEq x y nm nm2 l l2 = false) := HNE.out he
        have tn : (tx != ty) = true := by rw [bne_iff_ne]; exact he
        clear HXT HNE he
        go_wp2
        go_ret
        exact ⟨by rw [HF.out]; rfl, andThen hbel B3⟩
    · obtain rfl : k = 10 := by omega
      obtain ⟨c0, c1, c2, c3, c4, c5, c6, c7, c8, c9, c10, c11⟩ := hb1.cells
      obtain ⟨e0, e1, e2, e3, e4, e5, e6, e7, e8, e9, e10, e11⟩ := hb2.cells
      have HAL : Hid (Calls Tryd.prog 66 #[.slice ao l.length cap, .slice ao2 l2.length cap2] wr fun e w' => e = .returned (.bool (decide (l = l2))) ∧ Below wr.heap.size wr w') := ralike_any _ _ l l2 wr (HB.out _ hbel) (HB2.out _ hbel)
      have HXY : Hid (x.v = y.v → x = y) := fun hv => nums_eq x y hv (fun t a b => HEQ.out t a (by omega))
      clear hb1 hb2 c1 c2 c3 c4 c5 c6 c7 c8 c9 e1 e2 e3 e4 e5 e6 e7 e8 e9 HN1 HN2 HBX1 HBX2 HEQ
      by_cases hv : x.v = y.v
      · have HR1 : Hid (recEq x y nm nm2 l l2 = ((nm.toList == nm2.toList) && decide (l = l2))) := by show _ = _; unfold recEq; rw [decide_eq_true (HXY.out hv), Bool.true_and]
        have tv : (x.v == y.v) = true := by rw [hv]; exact beq_self_eq_true _
        cases hn : (nm.toList == nm2.toList) with
        | true =>
          have HR2 : Hid (recEq x y nm nm2 l l2 = decide (l = l2)) := by show _ = _; rw [HR1.out, hn, Bool.true_and]
          clear hv HXY HR1
          go_wp2_with fail
          refine HAL.out.mono ?_
          rintro e w2 ⟨rfl, b2⟩
          go_wp2
          go_ret
          exact ⟨by rw [HR2.out]; rfl, andThen hbel b2⟩
        | false =>
          have HR2 : Hid (recEq x y nm nm2 l l2 = false) := by show _ = _; rw [HR1.out, hn, Bool.false_and]
          clear hv HXY HR1 HAL
          go_wp2
          go_ret
          exact ⟨by rw [HR2.out]; rfl, hbel⟩
      · have HR2 : Hid (recEq x y nm nm2 l l2 = false) := by show _ = _; unfold recEq; rw [decide_eq_false (fun e => hv (by rw [e])), Bool.false_and, Bool.false_and]
        have tv : (x.v == y.v) = false := by rw [beq_eq_false_iff_ne]; exact hv
        clear hv HXY HAL
        go_wp2
        go_ret
        exact ⟨by rw [HR2.out]; rfl, hbel⟩
end Go.Proofs.YtenhaogheilmoaaDoor

/-
  The record laws' 'started'.
-/
namespace Go.Proofs.YtenhaogheilmoaaDoor
open Go Go.RowKit
open Wb

def oneN : Nums := ⟨1, 7, 1, 0, 0, 0, 0, 0, 0, 0⟩
theorem enc_one : enc oneN ⟨#[]⟩ [] = [1, 7, 2, 1] := by kernel_rfl
theorem chk_one : chk oneN ⟨#[]⟩ [] = 0 := by kernel_rfl
theorem chk_zero : chk zeroNums ⟨#[]⟩ [] = 3 := by kernel_rfl
theorem dcd_one : dcd 1 [1, 7, 2, 1] = (0, ⟨⟨1, 7, 1, 0, 0, 0, 0, 0, 0, 0⟩, [], []⟩) := by kernel_rfl
theorem nice_one : oneN.nice := ⟨fun t h1 h9 _ => by
  obtain rfl | rfl | rfl | rfl | rfl | rfl | rfl | rfl | rfl : t = 1 ∨ t = 2 ∨ t = 3 ∨ t = 4 ∨ t = 5 ∨ t = 6 ∨ t = 7 ∨ t = 8 ∨ t = 9 := by omega
  all_goals decide, by decide, by decide⟩
theorem lit4 (w : World) (g : Nat) (hg : g = w.heap.size) : Bs (w.alloc (.cells #[.int .u8 1, .int .u8 7, .int .u8 2, .int .u8 1] 5)) (.slice (some ⟨g, 0, none⟩) 4 4) [1, 7, 2, 1] := by
  subst hg
  exact (Own.lit (B := 0) w [1, 7, 2, 1] (by unfold ok; decide) (Nat.zero_le _) (by decide) #[.int .u8 1, .int .u8 7, .int .u8 2, .int .u8 1] rfl).bs
end Go.Proofs.YtenhaogheilmoaaDoor
