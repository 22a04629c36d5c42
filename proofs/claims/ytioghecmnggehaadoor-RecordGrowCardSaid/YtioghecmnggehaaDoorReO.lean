/-
  RecordGrow: the law's walk.
-/
import Derived.Test.YtioghecmnggehaaDoorReE
import Derived.Test.YtioghecmnggehaaDoorReI
import Derived.Test.YtioghecmnggehaaDoorReN
import Derived.Test.YtioghecmnggehaaDoorRFld
namespace Go.Proofs.YtioghecmnggehaaDoor
open Go Go.RowKit
open Wb

theorem Box.data {w : World} {g : Nat} {x : Nums} {nm : ByteArray} {d : Value} (h : Box w g x nm d) (d' : Value) : Box (w.setCell ⟨g, 11, none⟩ d') g x nm d' := by
  unfold Box at *
  simp [World.setCell, Array.getElem?_modify, h]
/-- what the law asks of the longer bytes -/
theorem full_facts {B : Nat} {w : World} {ao : Option Addr} {cap : Nat} {Fl A dl : List Nat} (ho : Own B w (.slice ao Fl.length cap) Fl) (he : Fl = A ++ tailD dl) (hpo : 0 < A.length) (hl : dl.length ≤ 16384) :
    ∃ g, ao = some ⟨g, 0, none⟩ ∧ Bs w (.slice (some ⟨g, 0, none⟩) Fl.length cap) Fl ∧ Bs w (.slice (some ⟨g, 0, none⟩) A.length cap) A ∧ Bs w (.slice (some ⟨g, Fl.length - dl.length, none⟩) dl.length (cap - (Fl.length - dl.length))) dl ∧ A.length + dl.length ≤ Fl.length ∧ Fl.length ≤ A.length + 17000 ∧ (0 < dl.length ↔ A.length < Fl.length) ∧ Fl.length ≤ cap := by
  have htl : (tailD dl).length = 0 ∧ dl.length = 0 ∨ 0 < dl.length ∧ dl.length < (tailD dl).length ∧ (tailD dl).length ≤ dl.length + 20 := by
    unfold tailD
    by_cases h : dl.length = 0
    · left; rw [if_pos h]; exact ⟨rfl, h⟩
    · right
      rw [if_neg h]
      have h1 := Wn.uint_pos 11
      have h2 := Wn.uint_len10 11 (by omega)
      have h3 := Wn.uint_len10 dl.length (by omega)
      simp only [List.length_append]
      omega
  have hlen : Fl.length = A.length + (tailD dl).length := by rw [he, List.length_append]
  have hd : Fl.drop (Fl.length - dl.length) = dl := by
    unfold tailD at he htl hlen
    by_cases h : dl.length = 0
    · rw [List.drop_eq_nil_iff.2 (by omega), List.eq_nil_of_length_eq_zero h]
    · rw [if_neg h] at he hlen
      have e2 : Fl = (A ++ Wn.uint 11 ++ Wn.uint dl.length) ++ dl := by rw [he]; simp
      have e3 : Fl.length - dl.length = (A ++ Wn.uint 11 ++ Wn.uint dl.length).length := by
        have := congrArg List.length e2
        rw [List.length_append] at this
        omega
      rw [e3, e2, List.drop_left]
  rcases ho.shape with ⟨_, h0⟩ | ⟨g, cap', e, _, _, hcl, _, _⟩
  · rw [h0] at hlen
    simp at hlen
    omega
  · simp only [Value.slice.injEq] at e
    obtain ⟨rfl, _, rfl⟩ := e
    have hb := ho.bs
    have h1 := hb.sub 0 A.length hpo (by omega)
    have hA : (Fl.take A.length).drop 0 = A := by rw [he, List.drop_zero, List.take_left]
    rw [hA] at h1
    refine ⟨g, rfl, hb, by simpa using h1, ?_, by omega, by omega, by omega, by omega⟩
    by_cases h : dl.length = 0
    · have hdn := List.eq_nil_of_length_eq_zero h
      subst hdn
      exact ⟨⟨_, _, rfl, Nat.zero_le _, Nat.le_trans (Nat.sub_le _ _) (by obtain ⟨_, _, e9, _, hm, _⟩ := hb.shape; cases e9; exact hm), (fun e => nomatch e), fun hh => absurd rfl hh⟩, ok_nil⟩
    · have h2 := hb.sub (Fl.length - dl.length) Fl.length (by omega) (Nat.le_refl _)
      rw [List.take_length, hd] at h2
      have e4 : Fl.length - (Fl.length - dl.length) = dl.length := by omega
      rw [e4] at h2
      simpa using h2
theorem fields_valid (x : Nums) (w : World) (hG : TagsT w) (hv : 1 ≤ x.v ∧ x.v ≤ 3) (hk : 1 ≤ x.k ∧ x.k ≤ 7) :
    Calls Tryd.prog 12 #[.int .i64 x.v, .int .i64 x.k] w fun e w' => ∃ (g n cap : Nat) (z : Int), e = .returned (.slice (some ⟨g, 0, none⟩) n cap) ∧ 2 ≤ n ∧ n ≤ 7 ∧ w'.cell? ⟨g, n - 1, none⟩ = some (.int .i64 z) ∧ (z == 11) = x.row.contains (11 : Int) ∧ Below w.heap.size w w' := by
  have hm : (x.k.toNat - 1) * 3 + (x.v.toNat - 1) < 21 := by omega
  have hr := row_last _ hm
  refine (Fld.fields_in x.v x.k x.row w hv.1 hv.2 hk.1 hk.2 (tagR_len _ hm) (hG _ _ (by omega) (by omega))).mono fun e w' ⟨o, he, hro, hb⟩ => ?_
  obtain ⟨ao, cap, rfl⟩ := hro.shape
  have hlen : 0 < (Fld.nz x.row).length := by
    have : 2 ≤ (Fld.nz x.row).length := hr.1
    omega
  obtain ⟨g, rfl, hc⟩ := hro.cell ((Fld.nz x.row).length - 1) (by omega)
  refine ⟨g, _, cap, _, he, hr.1, hr.2.1, hc, ?_, hb⟩
  have h3 := hr.2.2
  have e3 : (Fld.nz x.row).getD ((Fld.nz x.row).length - 1) 0 = (Fld.nz x.row)[(Fld.nz x.row).length - 1] := by
    rw [List.getD_eq_getElem?_getD, List.getElem?_eq_getElem (by omega)]
    rfl
  have h4 : ((Fld.nz x.row).getD ((Fld.nz x.row).length - 1) 0 == 11) = x.row.contains (11 : Int) := h3
  rw [e3] at h4
  exact h4
set_option maxRecDepth 100000 in
set_option maxHeartbeats 4000000 in
theorem grow_err (x : Nums) (nm : ByteArray) (d dv : Value) (l dl : List Nat) (w : World) (h : Bs w d l) (h2 : Bs w dv dl) (hT : Text.TabP 1 .i32 Text.Tx.lets w) (hG : TagsT w) (hnm : nm.size ≤ 140737488355000) (hc : chk x nm l ≠ 0) :
    Calls Tryd.prog 4 #[rv x nm d, dv] w fun e w' => e = .returned (.bool true) ∧ Below w.heap.size w w' := by
  have HX : Hid (∀ o, (w.alloc o).heap[w.heap.size]? = some o ∧ Below w.heap.size w (w.alloc o)) := fun o => ⟨Array.getElem?_push_size, up0 w o⟩
  have HST : Hid (∀ w', Below w.heap.size w w' → Calls Tryd.prog 10 #[] w' fun e w'' => e = .returned (.bool true) ∧ Below w'.heap.size w' w'') := fun w' hb => started_any w' (hT.kept hb) (hG.kept hb)
  have HCK : Hid (∀ w', Below w.heap.size w w' → Calls Tryd.prog 11 #[rv x nm d] w' fun e w'' => e = .returned (.int .i64 (chk x nm l)) ∧ Below w'.heap.size w' w'') := fun w' hb => check_any x nm d l w' (h.kept hb) (hT.kept hb) (hG.kept hb) hnm
  obtain ⟨ao, cap, rfl, _⟩ := h.shape
  obtain ⟨ao2, cap2, rfl, _⟩ := h2.shape
  have d1 : (chk x nm l != 0) = true := by rw [bne_iff_ne]; exact hc
  clear h h2 hT hG hc
  generalize chk x nm l = z at *
  unfold rv at *
  go_enter Tryd.func4, Tryd.ntmps4
  go_wp2_with fail
  refine (HST.out _ (HX.out _).2).mono ?_
  rintro e w1 ⟨rfl, b1⟩
  have hb1 : Box w1 w.heap.size x nm (.slice ao l.length cap) := Box.kept (HX.out _).1 b1
  have B1 := andThen (HX.out _).2 b1
  clear b1 HX HST
  obtain ⟨c0, c1, c2, c3, c4, c5, c6, c7, c8, c9, c10, c11⟩ := hb1.cells
  go_wp2_with fail
  refine (HCK.out _ B1).mono ?_
  rintro e w2 ⟨rfl, b2⟩
  have B2 := andThen B1 b2
  clear c0 c1 c2 c3 c4 c5 c6 c7 c8 c9 c10 c11 b2 hb1 B1 HCK
  go_wp2_with fail
  refine (errnum_any z _).mono ?_
  rintro e w3 ⟨rfl, rfl⟩
  go_wp2
  go_ret
  exact ⟨rfl, B2⟩
set_option maxRecDepth 100000 in
set_option maxHeartbeats 8000000 in
theorem grow_ok (x : Nums) (nm : ByteArray) (d dv : Value) (l dl : List Nat) (w : World) (h : Bs w d l) (h2 : Bs w dv dl) (hT : Text.TabP 1 .i32 Text.Tx.lets w) (hG : TagsT w) (hx : x.nice) (hn : nm.size ≤ 192) (hv : 1 ≤ x.v ∧ x.v ≤ 3) (hk : 1 ≤ x.k ∧ x.k ≤ 7) (hc : chk x nm l = 0) :
    Calls Tryd.prog 4 #[rv x nm d, dv] w fun e w' => e = .returned (.bool true) ∧ Below w.heap.size w w' := by
  have HX : Hid (∀ o, (w.alloc o).heap[w.heap.size]? = some o ∧ Below w.heap.size w (w.alloc o)) := fun o => ⟨Array.getElem?_push_size, up0 w o⟩
  have HST : Hid (∀ w', Below w.heap.size w w' → Calls Tryd.prog 10 #[] w' fun e w'' => e = .returned (.bool true) ∧ Below w'.heap.size w' w'') := fun w' hb => started_any w' (hT.kept hb) (hG.kept hb)
  have HCK : Hid (∀ w', Below w.heap.size w w' → Calls Tryd.prog 11 #[rv x nm d] w' fun e w'' => e = .returned (.int .i64 0) ∧ Below w'.heap.size w' w'') := fun w' hb => by
    have h1 := check_any x nm d l w' (h.kept hb) (hT.kept hb) (hG.kept hb) (by omega)
    rwa [hc] at h1
  have HFI : Hid (∀ w', Below w.heap.size w w' → Calls Tryd.prog 12 #[.int .i64 x.v, .int .i64 x.k] w' fun e w'' => ∃ (g n cap : Nat) (z : Int), e = .returned (.slice (some ⟨g, 0, none⟩) n cap) ∧ 2 ≤ n ∧ n ≤ 7 ∧ w''.cell? ⟨g, n - 1, none⟩ = some (.int .i64 z) ∧ (z == 11) = x.row.contains (11 : Int) ∧ Below w'.heap.size w' w'') := fun w' hb => fields_valid x w' (hG.kept hb) hv hk
  have HEN : Hid (x.row.contains (11 : Int) = true → x.old = false → ∀ l2 d2 w', l2.length ≤ 16384 → Below w.heap.size w w' → Bs w' d2 l2 → Calls Tryd.prog 13 #[rv x nm d2] w' fun e w'' => ∃ ao, ∃ cap : Nat, e = .returned (.tuple #[.slice ao (enc x nm l2).length cap, .int .i64 0]) ∧ Own w'.heap.size w'' (.slice ao (enc x nm l2).length cap) (enc x nm l2) ∧ Below w'.heap.size w' w'') := fun hr ho l2 d2 w' hl2 hb hbs => encode_ok x nm d2 l2 w' hbs (hT.kept hb) (hG.kept hb) (by omega) hl2 hx (chk_data x nm l l2 hc hr ho hl2)
  have HOLD : Hid (x.old = (decide (x.v = 1) && decide (x.k = 1))) := rfl
  have HD2 : Hid (∀ w', Below w.heap.size w w' → Bs w' dv dl) := fun w' hb => h2.kept hb
  have HPO : Hid (0 < (enc x nm []).length) := enc_pos x nm [] hk.1
  have HLE : Hid ((enc x nm []).length ≤ 1000200 * 11) := encN_len x nm [] hx (by omega) (by simp) 11 (by omega)
  have HED : Hid (enc x nm dl = enc x nm [] ++ tailD dl) := enc_data x nm dl
  obtain ⟨ao, cap, rfl, _⟩ := h.shape
  obtain ⟨ao2, cap2, rfl, _⟩ := h2.shape
  clear h h2 hT hG hc hx hv hk
  unfold rv at *
  go_enter Tryd.func4, Tryd.ntmps4
  go_wp2_with fail
  refine (HST.out _ (HX.out _).2).mono ?_
  rintro e w1 ⟨rfl, b1⟩
  have hb1 : Box w1 w.heap.size x nm (.slice ao l.length cap) := Box.kept (HX.out _).1 b1
  have B1 := andThen (HX.out _).2 b1
  clear b1 HX HST
  obtain ⟨c0, c1, c2, c3, c4, c5, c6, c7, c8, c9, c10, c11⟩ := hb1.cells
  go_wp2_with fail
  refine (HCK.out _ B1).mono ?_
  rintro e w2 ⟨rfl, b2⟩
  have hb2 := hb1.kept b2
  have B2 := andThen B1 b2
  clear c0 c1 c2 c3 c4 c5 c6 c7 c8 c9 c10 c11 b2 hb1 B1 HCK
  go_wp2_with fail
  refine (errnum_any 0 _).mono ?_
  rintro e w3 ⟨rfl, rfl⟩
  obtain ⟨c0, c1, c2, c3, c4, c5, c6, c7, c8, c9, c10, c11⟩ := hb2.cells
  go_wp2_with fail
  refine (HFI.out _ B2).mono ?_
  rintro e w4 ⟨g4, n4, cap4, z4, rfl, hn2, hn7, hz4, hz5, b4⟩
  have hb4 := hb2.kept b4
  have B4 := andThen B2 b4
  clear c0 c1 c2 c3 c4 c5 c6 c7 c8 c9 c10 c11 b4 hb2 B2 HFI
  have HZ5 : Hid ((z4 == 11) = x.row.contains (11 : Int)) := hz5
  clear hz5
  obtain ⟨c0, c1, c2, c3, c4, c5, c6, c7, c8, c9, c10, c11⟩ := hb4.cells
  have dn : decide ((2 : Int) ≤ (n4 : Int)) = true := decide_eq_true (by omega)
  cases hhas : (z4 == 11) with
  | false =>
    go_wp2
    go_ret
    exact ⟨rfl, B4⟩
  | true =>
    by_cases v1 : x.v = 1
    · by_cases k1 : x.k = 1
      · have dv1 : (x.v == 1) = true := by rw [v1]; rfl
        have dk1 : (x.k == 1) = true := by rw [k1]; rfl
        go_wp2
        go_ret
        exact ⟨rfl, B4⟩
      · have dv1 : (x.v == 1) = true := by rw [v1]; rfl
        have dk1 : (x.k == 1) = false := by rw [beq_eq_false_iff_ne]; exact k1
        have hold : x.old = false := by rw [HOLD.out, decide_eq_false k1, Bool.and_false]
        clear v1 k1
        by_cases hl : 16384 < dl.length
        · go_wp2
          go_ret
          exact ⟨rfl, B4⟩
        · have hcon : x.row.contains (11 : Int) = true := by rw [← HZ5.out]; exact hhas
          have HE2 : Hid (∀ l2 d2 w', l2.length ≤ 16384 → Below w.heap.size w w' → Bs w' d2 l2 → Calls Tryd.prog 13 #[.agg #[.int .i64 x.v, .int .i64 x.k, .int .i64 x.s, .int .i64 x.p, .int .i64 x.t, .int .i64 x.a, .int .i64 x.l, .int .i64 x.c, .int .i64 x.n, .int .i64 x.i, .string nm, d2]] w' fun e w'' => ∃ ao, ∃ cap : Nat, e = .returned (.tuple #[.slice ao (enc x nm l2).length cap, .int .i64 0]) ∧ Own w'.heap.size w'' (.slice ao (enc x nm l2).length cap) (enc x nm l2) ∧ Below w'.heap.size w' w'') := HEN.out hcon hold
          have hl' : dl.length ≤ 16384 := by omega
          have HW9 : Hid (Box (w4.alloc (.cells #[.int .i64 x.v, .int .i64 x.k, .int .i64 x.s, .int .i64 x.p, .int .i64 x.t, .int .i64 x.a, .int .i64 x.l, .int .i64 x.c, .int .i64 x.n, .int .i64 x.i, .string nm, .slice none 0 0] 24)) w4.heap.size x nm (.slice none 0 0) ∧ Below w.heap.size w (w4.alloc (.cells #[.int .i64 x.v, .int .i64 x.k, .int .i64 x.s, .int .i64 x.p, .int .i64 x.t, .int .i64 x.a, .int .i64 x.l, .int .i64 x.c, .int .i64 x.n, .int .i64 x.i, .string nm, .slice none 0 0] 24)) ∧ w.heap.size ≤ w4.heap.size ∧ w4.heap.size < (w4.alloc (.cells #[.int .i64 x.v, .int .i64 x.k, .int .i64 x.s, .int .i64 x.p, .int .i64 x.t, .int .i64 x.a, .int .i64 x.l, .int .i64 x.c, .int .i64 x.n, .int .i64 x.i, .string nm, .slice none 0 0] 24)).heap.size) := ⟨Array.getElem?_push_size, up B4 _, B4.size, by show _ < (w4.heap.push _).size; rw [Array.size_push]; omega⟩
          clear HEN
          go_wp2_with fail
          have HW9' := HW9.out
          clear HW9
          generalize w4.alloc (.cells #[.int .i64 x.v, .int .i64 x.k, .int .i64 x.s, .int .i64 x.p, .int .i64 x.t, .int .i64 x.a, .int .i64 x.l, .int .i64 x.c, .int .i64 x.n, .int .i64 x.i, .string nm, .slice none 0 0] 24) = W9 at HW9' ⊢
          generalize w4.heap.size = g9 at HW9' ⊢
          obtain ⟨hx9, B9, hg9, hs9⟩ := HW9'
          clear c0 c1 c2 c3 c4 c5 c6 c7 c8 c9 c10 c11 hb4 B4 hz4
          refine (HE2.out [] _ _ (by simp) B9 (Bs.nil _)).mono ?_
          rintro e w5 ⟨ao5, cap5, rfl, ho5, b5⟩
          have hx5 := hx9.kept b5
          have B5 := andThen B9 b5
          have hc11 := hx5.cells.2.2.2.2.2.2.2.2.2.2.2
          have hf11 := hx5.free' 11
          have HW6 : Hid (Box (w5.setCell ⟨g9, 11, none⟩ (.slice ao2 dl.length cap2)) g9 x nm (.slice ao2 dl.length cap2) ∧ Below w.heap.size w (w5.setCell ⟨g9, 11, none⟩ (.slice ao2 dl.length cap2)) ∧ Own (g9 + 1) (w5.setCell ⟨g9, 11, none⟩ (.slice ao2 dl.length cap2)) (.slice ao5 (enc x nm []).length cap5) (enc x nm [])) := ⟨Box.data hx5 _, Below.setCell B5 hg9 _, Own.set (ho5.mono hs9) ⟨g9, 11, none⟩ _ (Nat.lt_succ_self _)⟩
          clear hx9 B9 b5 ho5 B5 hx5
          obtain ⟨c0, c1, c2, c3, c4, c5, c6, c7, c8, c9, c10, c11⟩ := HW6.out.1.cells
          go_wp2_with fail
          refine (HE2.out dl _ _ hl' HW6.out.2.1 (HD2.out _ HW6.out.2.1)).mono ?_
          rintro e w7 ⟨ao7, cap7, rfl, ho7, b7⟩
          have hbare := (HW6.out.2.2.kept b7).bs
          have B7 := andThen HW6.out.2.1 b7
          clear c0 c1 c2 c3 c4 c5 c6 c7 c8 c9 c10 c11 HW6 b7 HE2 hc11 hf11
          have hed := HED.out
          have hpo := HPO.out
          have hle := HLE.out
          clear HED HPO HLE
          generalize enc x nm dl = Fl at *
          generalize enc x nm [] = A at *
          obtain ⟨g7, rfl, hfull, HP1, HP2, hT1, hT2, hT3, hT4⟩ := full_facts ho7 hed hpo hl'
          clear ho7 hed
          have e1 : ((Fl.length : Int) < (A.length : Int) + (dl.length : Int)) = False := by simp; omega
          go_wp2_with fail
          refine (errnum_any 0 _).mono ?_
          rintro e w8 ⟨rfl, rfl⟩
          go_wp2_with fail
          refine (errnum_any 0 _).mono ?_
          rintro e w9 ⟨rfl, rfl⟩
          go_wp2_with fail
          refine (same_any _ _ A A _ HP1 hbare).mono ?_
          rintro e wa ⟨rfl, ba⟩
          have HP2' := HP2.kept ba
          have Ba := andThen B7 ba
          have ht : decide (A = A) = true := by simp
          rw [ht]
          have hdd := HD2.out _ Ba
          clear ba HP1 HP2 hbare hfull ht
          have e2 : decide ((0 : Int) < (dl.length : Int)) = decide ((A.length : Int) < (Fl.length : Int)) := by
            by_cases h : 0 < dl.length
            · rw [decide_eq_true (by omega), decide_eq_true (by have := hT3.1 h; omega)]
            · rw [decide_eq_false (by omega), decide_eq_false (by have := mt hT3.2 h; omega)]
          have e3 : (decide ((0 : Int) < (dl.length : Int)) == decide ((A.length : Int) < (Fl.length : Int))) = true := by rw [e2]; exact beq_self_eq_true _
          clear e2
          have e4 : Fl.length - (Fl.length - dl.length) = dl.length := by omega
          by_cases hcc : cap7 = Fl.length - dl.length
          · have hd0 : dl.length = 0 := by omega
            have en : decide (A.length < Fl.length) = false := decide_eq_false (by have := mt hT3.2 (show ¬ 0 < dl.length by omega); omega)
            have hdn : dl = [] := List.eq_nil_of_length_eq_zero hd0
            have HPZ : Bs wa (.slice (some ⟨g7, 0, none⟩) 0 0) [] := ⟨⟨_, _, rfl, Nat.le_refl _, Nat.zero_le _, (fun e => nomatch e), fun hh => absurd rfl hh⟩, ok_nil⟩
            have hdd0 : Bs wa (.slice ao2 0 cap2) [] := by
              have h9 := hdd
              rw [hdn] at h9
              exact h9
            clear hdn
            go_wp2_with fail
            refine (same_any _ _ [] [] _ HPZ hdd0).mono ?_
            rintro e wb ⟨rfl, bb⟩
            have Bb := andThen Ba bb
            have ht : decide (([] : List Nat) = []) = true := rfl
            rw [ht]
            clear bb ht
            go_wp2
            go_ret
            exact ⟨rfl, Bb⟩
          · go_wp2_with fail
            refine (same_any _ _ dl dl _ HP2' hdd).mono ?_
            rintro e wb ⟨rfl, bb⟩
            have Bb := andThen Ba bb
            have ht : decide (dl = dl) = true := by simp
            rw [ht]
            clear bb ht
            go_wp2
            go_ret
            exact ⟨rfl, Bb⟩
    · have dv1 : (x.v == 1) = false := by rw [beq_eq_false_iff_ne]; exact v1
      have hold : x.old = false := by rw [HOLD.out, decide_eq_false v1, Bool.false_and]
      clear v1
      by_cases hl : 16384 < dl.length
      · go_wp2
        go_ret
        exact ⟨rfl, B4⟩
      · have hcon : x.row.contains (11 : Int) = true := by rw [← HZ5.out]; exact hhas
        have HE2 : Hid (∀ l2 d2 w', l2.length ≤ 16384 → Below w.heap.size w w' → Bs w' d2 l2 → Calls Tryd.prog 13 #[.agg #[.int .i64 x.v, .int .i64 x.k, .int .i64 x.s, .int .i64 x.p, .int .i64 x.t, .int .i64 x.a, .int .i64 x.l, .int .i64 x.c, .int .i64 x.n, .int .i64 x.i, .string nm, d2]] w' fun e w'' => ∃ ao, ∃ cap : Nat, e = .returned (.tuple #[.slice ao (enc x nm l2).length cap, .int .i64 0]) ∧ Own w'.heap.size w'' (.slice ao (enc x nm l2).length cap) (enc x nm l2) ∧ Below w'.heap.size w' w'') := HEN.out hcon hold
        have hl' : dl.length ≤ 16384 := by omega
        have HW9 : Hid (Box (w4.alloc (.cells #[.int .i64 x.v, .int .i64 x.k, .int .i64 x.s, .int .i64 x.p, .int .i64 x.t, .int .i64 x.a, .int .i64 x.l, .int .i64 x.c, .int .i64 x.n, .int .i64 x.i, .string nm, .slice none 0 0] 24)) w4.heap.size x nm (.slice none 0 0) ∧ Below w.heap.size w (w4.alloc (.cells #[.int .i64 x.v, .int .i64 x.k, .int .i64 x.s, .int .i64 x.p, .int .i64 x.t, .int .i64 x.a, .int .i64 x.l, .int .i64 x.c, .int .i64 x.n, .int .i64 x.i, .string nm, .slice none 0 0] 24)) ∧ w.heap.size ≤ w4.heap.size ∧ w4.heap.size < (w4.alloc (.cells #[.int .i64 x.v, .int .i64 x.k, .int .i64 x.s, .int .i64 x.p, .int .i64 x.t, .int .i64 x.a, .int .i64 x.l, .int .i64 x.c, .int .i64 x.n, .int .i64 x.i, .string nm, .slice none 0 0] 24)).heap.size) := ⟨Array.getElem?_push_size, up B4 _, B4.size, by show _ < (w4.heap.push _).size; rw [Array.size_push]; omega⟩
        clear HEN
        go_wp2_with fail
        have HW9' := HW9.out
        clear HW9
        generalize w4.alloc (.cells #[.int .i64 x.v, .int .i64 x.k, .int .i64 x.s, .int .i64 x.p, .int .i64 x.t, .int .i64 x.a, .int .i64 x.l, .int .i64 x.c, .int .i64 x.n, .int .i64 x.i, .string nm, .slice none 0 0] 24) = W9 at HW9' ⊢
        generalize w4.heap.size = g9 at HW9' ⊢
        obtain ⟨hx9, B9, hg9, hs9⟩ := HW9'
        clear c0 c1 c2 c3 c4 c5 c6 c7 c8 c9 c10 c11 hb4 B4 hz4
        refine (HE2.out [] _ _ (by simp) B9 (Bs.nil _)).mono ?_
        rintro e w5 ⟨ao5, cap5, rfl, ho5, b5⟩
        have hx5 := hx9.kept b5
        have B5 := andThen B9 b5
        have hc11 := hx5.cells.2.2.2.2.2.2.2.2.2.2.2
        have hf11 := hx5.free' 11
        have HW6 : Hid (Box (w5.setCell ⟨g9, 11, none⟩ (.slice ao2 dl.length cap2)) g9 x nm (.slice ao2 dl.length cap2) ∧ Below w.heap.size w (w5.setCell ⟨g9, 11, none⟩ (.slice ao2 dl.length cap2)) ∧ Own (g9 + 1) (w5.setCell ⟨g9, 11, none⟩ (.slice ao2 dl.length cap2)) (.slice ao5 (enc x nm []).length cap5) (enc x nm [])) := ⟨Box.data hx5 _, Below.setCell B5 hg9 _, Own.set (ho5.mono hs9) ⟨g9, 11, none⟩ _ (Nat.lt_succ_self _)⟩
        clear hx9 B9 b5 ho5 B5 hx5
        obtain ⟨c0, c1, c2, c3, c4, c5, c6, c7, c8, c9, c10, c11⟩ := HW6.out.1.cells
        go_wp2_with fail
        refine (HE2.out dl _ _ hl' HW6.out.2.1 (HD2.out _ HW6.out.2.1)).mono ?_
        rintro e w7 ⟨ao7, cap7, rfl, ho7, b7⟩
        have hbare := (HW6.out.2.2.kept b7).bs
        have B7 := andThen HW6.out.2.1 b7
        clear c0 c1 c2 c3 c4 c5 c6 c7 c8 c9 c10 c11 HW6 b7 HE2 hc11 hf11
        have hed := HED.out
        have hpo := HPO.out
        have hle := HLE.out
        clear HED HPO HLE
        generalize enc x nm dl = Fl at *
        generalize enc x nm [] = A at *
        obtain ⟨g7, rfl, hfull, HP1, HP2, hT1, hT2, hT3, hT4⟩ := full_facts ho7 hed hpo hl'
        clear ho7 hed
        have e1 : ((Fl.length : Int) < (A.length : Int) + (dl.length : Int)) = False := by simp; omega
        go_wp2_with fail
        refine (errnum_any 0 _).mono ?_
        rintro e w8 ⟨rfl, rfl⟩
        go_wp2_with fail
        refine (errnum_any 0 _).mono ?_
        rintro e w9 ⟨rfl, rfl⟩
        go_wp2_with fail
        refine (same_any _ _ A A _ HP1 hbare).mono ?_
        rintro e wa ⟨rfl, ba⟩
        have HP2' := HP2.kept ba
        have Ba := andThen B7 ba
        have ht : decide (A = A) = true := by simp
        rw [ht]
        have hdd := HD2.out _ Ba
        clear ba HP1 HP2 hbare hfull ht
        have e2 : decide ((0 : Int) < (dl.length : Int)) = decide ((A.length : Int) < (Fl.length : Int)) := by
          by_cases h : 0 < dl.length
          · rw [decide_eq_true (by omega), decide_eq_true (by have := hT3.1 h; omega)]
          · rw [decide_eq_false (by omega), decide_eq_false (by have := mt hT3.2 h; omega)]
        have e3 : (decide ((0 : Int) < (dl.length : Int)) == decide ((A.length : Int) < (Fl.length : Int))) = true := by rw [e2]; exact beq_self_eq_true _
        clear e2
        have e4 : Fl.length - (Fl.length - dl.length) = dl.length := by omega
        by_cases hcc : cap7 = Fl.length - dl.length
        · have hd0 : dl.length = 0 := by omega
          have en : decide (A.length < Fl.length) = false := decide_eq_false (by have := mt hT3.2 (show ¬ 0 < dl.length by omega); omega)
          have hdn : dl = [] := List.eq_nil_of_length_eq_zero hd0
          have HPZ : Bs wa (.slice (some ⟨g7, 0, none⟩) 0 0) [] := ⟨⟨_, _, rfl, Nat.le_refl _, Nat.zero_le _, (fun e => nomatch e), fun hh => absurd rfl hh⟩, ok_nil⟩
          have hdd0 : Bs wa (.slice ao2 0 cap2) [] := by
            have h9 := hdd
            rw [hdn] at h9
            exact h9
          clear hdn
          go_wp2_with fail
          refine (same_any _ _ [] [] _ HPZ hdd0).mono ?_
          rintro e wb ⟨rfl, bb⟩
          have Bb := andThen Ba bb
          have ht : decide (([] : List Nat) = []) = true := rfl
          rw [ht]
          clear bb ht
          go_wp2
          go_ret
          exact ⟨rfl, Bb⟩
        · go_wp2_with fail
          refine (same_any _ _ dl dl _ HP2' hdd).mono ?_
          rintro e wb ⟨rfl, bb⟩
          have Bb := andThen Ba bb
          have ht : decide (dl = dl) = true := by simp
          rw [ht]
          clear bb ht
          go_wp2
          go_ret
          exact ⟨rfl, Bb⟩
theorem grow_any (x : Nums) (nm : ByteArray) (d dv : Value) (l dl : List Nat) (w : World) (h : Bs w d l) (h2 : Bs w dv dl) (hT : Text.TabP 1 .i32 Text.Tx.lets w) (hG : TagsT w) (hnm : nm.size ≤ 140737488355000) (hb : ∀ t, 1 ≤ t → t ≤ 9 → -9223372036854775808 ≤ x.tag t ∧ x.tag t ≤ 9223372036854775807) :
    Calls Tryd.prog 4 #[rv x nm d, dv] w fun e w' => e = .returned (.bool true) ∧ Below w.heap.size w w' := by
  by_cases hc : chk x nm l = 0
  · obtain ⟨hx, hv, hk, _, hN⟩ := chk_nice x nm l hc hb
    obtain ⟨hn, _⟩ := chk_fits x nm l hN
    exact grow_ok x nm d dv l dl w h h2 hT hG hx hn hv hk hc
  · exact grow_err x nm d dv l dl w h h2 hT hG hnm hc
end Go.Proofs.YtioghecmnggehaaDoor
