/-
  RecordBack: the law's walk.
-/
import Derived.Test.YtioghecmnggehaaDoorReE
import Derived.Test.YtioghecmnggehaaDoorReG
import Derived.Test.YtioghecmnggehaaDoorReH
namespace Go.Proofs.YtioghecmnggehaaDoor
open Go Go.RowKit
open Wb

theorem encN_len (x : Nums) (nm : ByteArray) (l : List Nat) (hx : x.nice) (hs : nm.size ≤ 1000000) (hl : l.length ≤ 16384) : ∀ n, n ≤ 11 → (encN x nm l n).length ≤ 1000200 * n
  | 0, _ => Nat.zero_le _
  | n + 1, h => by
    have ih := encN_len x nm l hx hs hl n (by omega)
    have h1 := valB_len x nm l (11 - n) hx hs hl (by omega) (by omega)
    have h2 := Wn.uint_len10 (11 - n) (by omega)
    rw [encN_succ, List.length_append]
    split
    · simp only [List.length_nil]; omega
    · rw [List.length_append]; omega
set_option maxRecDepth 100000 in
set_option maxHeartbeats 4000000 in
theorem back_err (x : Nums) (nm : ByteArray) (d : Value) (l : List Nat) (w : World) (h : Bs w d l) (hT : Text.TabP 1 .i32 Text.Tx.lets w) (hG : TagsT w) (hnm : nm.size ≤ 140737488355000) (hc : chk x nm l ≠ 0) :
    Calls Tryd.prog 5 #[rv x nm d] w fun e w' => e = .returned (.bool true) ∧ Below w.heap.size w w' := by
  have HX : Hid (∀ o, (w.alloc o).heap[w.heap.size]? = some o ∧ Below w.heap.size w (w.alloc o)) := fun o => ⟨Array.getElem?_push_size, up0 w o⟩
  have HST : Hid (∀ w', Below w.heap.size w w' → Calls Tryd.prog 10 #[] w' fun e w'' => e = .returned (.bool true) ∧ Below w'.heap.size w' w'') := fun w' hb => started_any w' (hT.kept hb) (hG.kept hb)
  have HCK : Hid (∀ w', Below w.heap.size w w' → Calls Tryd.prog 11 #[rv x nm d] w' fun e w'' => e = .returned (.int .i64 (chk x nm l)) ∧ Below w'.heap.size w' w'') := fun w' hb => check_any x nm d l w' (h.kept hb) (hT.kept hb) (hG.kept hb) hnm
  have HEN : Hid (∀ w', Below w.heap.size w w' → Calls Tryd.prog 13 #[rv x nm d] w' fun e w'' => e = .returned (.tuple #[.slice none 0 0, .int .i64 (chk x nm l)]) ∧ Below w'.heap.size w' w'') := fun w' hb => encode_err x nm d l w' (h.kept hb) (hT.kept hb) (hG.kept hb) hnm hc
  have HSZ : Hid (∀ w', Below w.heap.size w w' → Calls Tryd.prog 15 #[rv x nm d] w' fun e w'' => e = .returned (.tuple #[.int .i64 0, .int .i64 (chk x nm l)]) ∧ Below w'.heap.size w' w'') := fun w' hb => size_err x nm d l w' (h.kept hb) (hT.kept hb) (hG.kept hb) hnm hc
  obtain ⟨ao, cap, rfl, _⟩ := h.shape
  have d1 : (chk x nm l != 0) = true := by rw [bne_iff_ne]; exact hc
  have d2 : (chk x nm l != chk x nm l) = false := by simp
  clear h hT hG hc
  generalize chk x nm l = z at *
  unfold rv at *
  go_enter Tryd.func5, Tryd.ntmps5
  go_wp2_with fail
  refine (HST.out _ (HX.out _).2).mono ?_
  rintro e w1 ⟨rfl, b1⟩
  have hb1 : Box w1 w.heap.size x nm (.slice ao l.length cap) := Box.kept (HX.out _).1 b1
  have B1 := andThen (HX.out _).2 b1
  clear b1 HX HST
  obtain ⟨c0, c1, c2, c3, c4, c5, c6, c7, c8, c9, c10, c11⟩ := hb1.cells
  go_wp2_with fail
  refine (HCK.out _ B1).mono ?_
  rintro e w2 ⟨rfl, b2⟩
  have hb2 := hb1.kept b2
  have B2 := andThen B1 b2
  clear c0 c1 c2 c3 c4 c5 c6 c7 c8 c9 c10 c11 b2 hb1 B1 HCK
  obtain ⟨c0, c1, c2, c3, c4, c5, c6, c7, c8, c9, c10, c11⟩ := hb2.cells
  go_wp2_with fail
  refine (HEN.out _ B2).mono ?_
  rintro e w3 ⟨rfl, b3⟩
  have hb3 := hb2.kept b3
  have B3 := andThen B2 b3
  clear c0 c1 c2 c3 c4 c5 c6 c7 c8 c9 c10 c11 b3 hb2 B2 HEN
  obtain ⟨c0, c1, c2, c3, c4, c5, c6, c7, c8, c9, c10, c11⟩ := hb3.cells
  go_wp2_with fail
  refine (HSZ.out _ B3).mono ?_
  rintro e w4 ⟨rfl, b4⟩
  have B4 := andThen B3 b4
  clear c0 c1 c2 c3 c4 c5 c6 c7 c8 c9 c10 c11 b4 hb3 B3 HSZ
  go_wp2_with fail
  refine (errnum_any z _).mono ?_
  rintro e w5 ⟨rfl, rfl⟩
  go_wp2_with fail
  refine (errnum_any z _).mono ?_
  rintro e w6 ⟨rfl, rfl⟩
  go_wp2_with fail
  refine (errnum_any z _).mono ?_
  rintro e w7 ⟨rfl, rfl⟩
  go_wp2_with fail
  refine (errnum_any z _).mono ?_
  rintro e w8 ⟨rfl, rfl⟩
  go_wp2_with fail
  refine (errnum_any z _).mono ?_
  rintro e w9 ⟨rfl, rfl⟩
  go_wp2
  go_ret
  exact ⟨rfl, B4⟩
set_option maxRecDepth 100000 in
set_option maxHeartbeats 4000000 in
theorem back_ok (x : Nums) (nm : ByteArray) (d : Value) (l : List Nat) (w : World) (h : Bs w d l) (hT : Text.TabP 1 .i32 Text.Tx.lets w) (hG : TagsT w) (hx : x.nice) (hn : nm.size ≤ 192) (hl : l.length ≤ 16384) (hv : 1 ≤ x.v ∧ x.v ≤ 3) (hk : 1 ≤ x.k) (hc : chk x nm l = 0) :
    Calls Tryd.prog 5 #[rv x nm d] w fun e w' => e = .returned (.bool true) ∧ Below w.heap.size w w' := by
  have HX : Hid (∀ o, (w.alloc o).heap[w.heap.size]? = some o ∧ Below w.heap.size w (w.alloc o)) := fun o => ⟨Array.getElem?_push_size, up0 w o⟩
  have HST : Hid (∀ w', Below w.heap.size w w' → Calls Tryd.prog 10 #[] w' fun e w'' => e = .returned (.bool true) ∧ Below w'.heap.size w' w'') := fun w' hb => started_any w' (hT.kept hb) (hG.kept hb)
  have HCK : Hid (∀ w', Below w.heap.size w w' → Calls Tryd.prog 11 #[rv x nm d] w' fun e w'' => e = .returned (.int .i64 0) ∧ Below w'.heap.size w' w'') := fun w' hb => by
    have h1 := check_any x nm d l w' (h.kept hb) (hT.kept hb) (hG.kept hb) (by omega)
    rwa [hc] at h1
  have HEN : Hid (∀ w', Below w.heap.size w w' → Calls Tryd.prog 13 #[rv x nm d] w' fun e w'' => ∃ ao, ∃ cap : Nat, e = .returned (.tuple #[.slice ao (enc x nm l).length cap, .int .i64 0]) ∧ Bs w'' (.slice ao (enc x nm l).length cap) (enc x nm l) ∧ Below w'.heap.size w' w'') := fun w' hb => (encode_ok x nm d l w' (h.kept hb) (hT.kept hb) (hG.kept hb) (by omega) hl hx hc).mono fun e w'' ⟨ao, cap, he, ho, hb'⟩ => ⟨ao, cap, he, ho.bs, hb'⟩
  have HSZ : Hid (∀ w', Below w.heap.size w w' → Calls Tryd.prog 15 #[rv x nm d] w' fun e w'' => e = .returned (.tuple #[.int .i64 ((enc x nm l).length : Int), .int .i64 0]) ∧ Below w'.heap.size w' w'') := fun w' hb => size_ok x nm d l w' (h.kept hb) (hT.kept hb) (hG.kept hb) (by omega) hl hx hc
  have HLE : Hid ((enc x nm l).length ≤ 140737488355328) := by have h9 := encN_len x nm l hx (by omega) hl 11 (by omega); show (encN x nm l 11).length ≤ _; omega
  have HDE : Hid (∀ v' w', Below w.heap.size w w' → Bs w' v' (enc x nm l) → Calls Tryd.prog 7 #[.int .i64 x.v, v'] w' fun e w'' => ∃ ao, ∃ cap : Nat, e = .returned (.tuple #[rv x nm (.slice ao l.length cap), .int .i64 0]) ∧ Bs w'' (.slice ao l.length cap) l ∧ Below w'.heap.size w' w'') := fun v' w' hb hbs => (decode_any x.v v' (enc x nm l) w' hbs HLE.out (hT.kept hb) (hG.kept hb) _ (dcd_enc x nm l hx hn hl hv hc)).mono fun e w'' ⟨ao, cap, he, ho, hb'⟩ => by
    simp only [bstr_nbs] at he
    exact ⟨ao, cap, he, ho.bs, hb'⟩
  have HPO : Hid (0 < (enc x nm l).length) := enc_pos x nm l hk
  have HB : Hid (∀ w', Below w.heap.size w w' → Bs w' d l) := fun w' hb => h.kept hb
  obtain ⟨ao, cap, rfl, _⟩ := h.shape
  have HEQ : Hid (∀ w' ao2 (cap2 : Nat), Bs w' (.slice ao l.length cap) l → Bs w' (.slice ao2 l.length cap2) l → Calls Tryd.prog 9 #[rv x nm (.slice ao l.length cap), rv x nm (.slice ao2 l.length cap2)] w' fun e w'' => e = .returned (.bool true) ∧ Below w'.heap.size w' w'') := fun w' ao2 cap2 a b => equal_later x x.v nm _ _ l w' a b
  have HSM : Hid (∀ w' ao2 (cap2 : Nat), Bs w' (.slice ao l.length cap) l → Bs w' (.slice ao2 l.length cap2) l → Calls Tryd.prog 16 #[rv x nm (.slice ao l.length cap), rv x nm (.slice ao2 l.length cap2)] w' fun e w'' => e = .returned (.bool true) ∧ Below w'.heap.size w' w'') := fun w' ao2 cap2 a b => (rsame_any x x nm nm _ _ l l w' a b).mono fun e w'' ⟨he, hk⟩ => ⟨by rw [he]; simp [recEq], hk⟩
  have dv : (x.v == x.v) = true := beq_self_eq_true _
  clear h hT hG hc hx hv hk
  have hpo := HPO.out
  have hle := HLE.out
  generalize enc x nm l = E at *
  have dn : ((E.length : Int) != (E.length : Int)) = false := by simp
  unfold rv at *
  go_enter Tryd.func5, Tryd.ntmps5
  go_wp2_with fail
  refine (HST.out _ (HX.out _).2).mono ?_
  rintro e w1 ⟨rfl, b1⟩
  have hb1 : Box w1 w.heap.size x nm (.slice ao l.length cap) := Box.kept (HX.out _).1 b1
  have B1 := andThen (HX.out _).2 b1
  clear b1 HX HST
  obtain ⟨c0, c1, c2, c3, c4, c5, c6, c7, c8, c9, c10, c11⟩ := hb1.cells
  go_wp2_with fail
  refine (HCK.out _ B1).mono ?_
  rintro e w2 ⟨rfl, b2⟩
  have hb2 := hb1.kept b2
  have B2 := andThen B1 b2
  clear c0 c1 c2 c3 c4 c5 c6 c7 c8 c9 c10 c11 b2 hb1 B1 HCK
  obtain ⟨c0, c1, c2, c3, c4, c5, c6, c7, c8, c9, c10, c11⟩ := hb2.cells
  go_wp2_with fail
  refine (HEN.out _ B2).mono ?_
  rintro e w3 ⟨ao3, cap3, rfl, hbs3, b3⟩
  have hb3 := hb2.kept b3
  have B3 := andThen B2 b3
  clear c0 c1 c2 c3 c4 c5 c6 c7 c8 c9 c10 c11 b3 hb2 B2 HEN
  obtain ⟨c0, c1, c2, c3, c4, c5, c6, c7, c8, c9, c10, c11⟩ := hb3.cells
  go_wp2_with fail
  refine (HSZ.out _ B3).mono ?_
  rintro e w4 ⟨rfl, b4⟩
  have hb4 := hb3.kept b4
  have hbs4 := hbs3.kept b4
  have B4 := andThen B3 b4
  clear c0 c1 c2 c3 c4 c5 c6 c7 c8 c9 c10 c11 b4 hb3 B3 HSZ hbs3
  go_wp2_with fail
  refine (errnum_any 0 _).mono ?_
  rintro e w5 ⟨rfl, rfl⟩
  go_wp2_with fail
  refine (errnum_any 0 _).mono ?_
  rintro e w6 ⟨rfl, rfl⟩
  go_wp2_with fail
  refine (errnum_any 0 _).mono ?_
  rintro e w7 ⟨rfl, rfl⟩
  go_wp2_with fail
  refine (errnum_any 0 _).mono ?_
  rintro e w8 ⟨rfl, rfl⟩
  go_wp2_with fail
  refine (errnum_any 0 _).mono ?_
  rintro e w9 ⟨rfl, rfl⟩
  obtain ⟨c0, c1, c2, c3, c4, c5, c6, c7, c8, c9, c10, c11⟩ := hb4.cells
  go_wp2_with fail
  refine (HDE.out _ _ B4 hbs4).mono ?_
  rintro e wa ⟨aoa, capa, rfl, hbsa, ba⟩
  have HWB : Hid (Box (wa.alloc (.cells #[.int .i64 x.v, .int .i64 x.k, .int .i64 x.s, .int .i64 x.p, .int .i64 x.t, .int .i64 x.a, .int .i64 x.l, .int .i64 x.c, .int .i64 x.n, .int .i64 x.i, .string nm, .slice aoa l.length capa] 24)) w.heap.size x nm (.slice ao l.length cap) ∧ Below w.heap.size w (wa.alloc (.cells #[.int .i64 x.v, .int .i64 x.k, .int .i64 x.s, .int .i64 x.p, .int .i64 x.t, .int .i64 x.a, .int .i64 x.l, .int .i64 x.c, .int .i64 x.n, .int .i64 x.i, .string nm, .slice aoa l.length capa] 24)) ∧ Bs (wa.alloc (.cells #[.int .i64 x.v, .int .i64 x.k, .int .i64 x.s, .int .i64 x.p, .int .i64 x.t, .int .i64 x.a, .int .i64 x.l, .int .i64 x.c, .int .i64 x.n, .int .i64 x.i, .string nm, .slice aoa l.length capa] 24)) (.slice aoa l.length capa) l ∧ Box (wa.alloc (.cells #[.int .i64 x.v, .int .i64 x.k, .int .i64 x.s, .int .i64 x.p, .int .i64 x.t, .int .i64 x.a, .int .i64 x.l, .int .i64 x.c, .int .i64 x.n, .int .i64 x.i, .string nm, .slice aoa l.length capa] 24)) wa.heap.size x nm (.slice aoa l.length capa)) := ⟨(hb4.kept ba).kept (up0 _ _), up (andThen B4 ba) _, hbsa.alloc _, Array.getElem?_push_size⟩
  clear c0 c1 c2 c3 c4 c5 c6 c7 c8 c9 c10 c11 ba hb4 hbs4 B4 hbsa HDE
  go_wp2_with fail
  have HWB' := HWB.out
  clear HWB
  generalize wa.alloc (.cells #[.int .i64 x.v, .int .i64 x.k, .int .i64 x.s, .int .i64 x.p, .int .i64 x.t, .int .i64 x.a, .int .i64 x.l, .int .i64 x.c, .int .i64 x.n, .int .i64 x.i, .string nm, .slice aoa l.length capa] 24) = WB at HWB' ⊢
  generalize wa.heap.size = ga at HWB' ⊢
  obtain ⟨hbx, BB, hbsb, hbxa⟩ := HWB'
  refine (errnum_any 0 _).mono ?_
  rintro e wc ⟨rfl, rfl⟩
  obtain ⟨c0, c1, c2, c3, c4, c5, c6, c7, c8, c9, c10, c11⟩ := hbx.cells
  obtain ⟨k0, k1, k2, k3, k4, k5, k6, k7, k8, k9, k10, k11⟩ := hbxa.cells
  go_wp2_with fail
  refine (HEQ.out _ _ _ (HB.out _ BB) hbsb).mono ?_
  rintro e wd ⟨rfl, bd⟩
  have hbxd := hbx.kept bd
  have hbxad := hbxa.kept bd
  have hbsd := hbsb.kept bd
  have Bd := andThen BB bd
  clear c0 c1 c2 c3 c4 c5 c6 c7 c8 c9 c10 c11 k0 k1 k2 k3 k4 k5 k6 k7 k8 k9 k10 k11 hbx hbxa hbsb BB bd
  obtain ⟨c0, c1, c2, c3, c4, c5, c6, c7, c8, c9, c10, c11⟩ := hbxd.cells
  obtain ⟨k0, k1, k2, k3, k4, k5, k6, k7, k8, k9, k10, k11⟩ := hbxad.cells
  go_wp2_with fail
  refine (HSM.out _ _ _ (HB.out _ Bd) hbsd).mono ?_
  rintro e we ⟨rfl, be⟩
  have Be := andThen Bd be
  clear c0 c1 c2 c3 c4 c5 c6 c7 c8 c9 c10 c11 k0 k1 k2 k3 k4 k5 k6 k7 k8 k9 k10 k11 be
  go_wp2
  go_ret
  exact ⟨rfl, Be⟩
theorem back_any (x : Nums) (nm : ByteArray) (d : Value) (l : List Nat) (w : World) (h : Bs w d l) (hT : Text.TabP 1 .i32 Text.Tx.lets w) (hG : TagsT w) (hnm : nm.size ≤ 140737488355000) (hb : ∀ t, 1 ≤ t → t ≤ 9 → -9223372036854775808 ≤ x.tag t ∧ x.tag t ≤ 9223372036854775807) :
    Calls Tryd.prog 5 #[rv x nm d] w fun e w' => e = .returned (.bool true) ∧ Below w.heap.size w w' := by
  by_cases hc : chk x nm l = 0
  · obtain ⟨hx, hv, hk, _, hN⟩ := chk_nice x nm l hc hb
    obtain ⟨hn, hl⟩ := chk_fits x nm l hN
    exact back_ok x nm d l w h hT hG hx hn hl hv hk.1 hc
  · exact back_err x nm d l w h hT hG hnm hc

end Go.Proofs.YtioghecmnggehaaDoor
