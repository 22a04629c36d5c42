/-
  WireBack's walk.
-/
import Derived.Test.YtnglcadhleefiaaDoorTorn
import Derived.Test.YtnglcadhleefiaaDoorWalk8
import Derived.Test.YtnglcadhleefiaaDoorLaws2
import Derived.OpenShut
namespace Go.Proofs.YtnglcadhleefiaaDoor
open Go Go.RowKit
open Wb

theorem ru_back (a b : List Nat) (v : Nat) (h : v < 18446744073709551616) : Wn.ru (a ++ Wn.uint v ++ b) (a.length : Int) = (v, ((a.length + (Wn.uint v).length : Nat) : Int), 0) := by
  have hd : (a ++ Wn.uint v ++ b).drop a.length = Wn.uint v ++ b := by rw [List.append_assoc, List.drop_left]
  have := Wn.ru_in (a ++ Wn.uint v ++ b) a.length (by simp) v (Wn.uint v).length 0 (by rw [hd]; exact Wn.rd_uint0 v b h)
  simpa using this
theorem ri_back (a b : List Nat) (i : Int) (h0 : -9223372036854775808 ≤ i) (h1 : i ≤ 9223372036854775807) : ri (a ++ Wn.uint (zz i) ++ b) (a.length : Int) = (i, ((a.length + (Wn.uint (zz i)).length : Nat) : Int), 0) := by
  unfold ri
  rw [ru_back a b (zz i) (zz_lt i h0 h1), if_neg (by simp), uz_zz]
theorem rb_back (a b s : List Nat) (h : s.length < 18446744073709551616) : rb (a ++ (Wn.uint s.length ++ s) ++ b) (a.length : Int) (s.length : Int) = (s, ((a.length + (Wn.uint s.length ++ s).length : Nat) : Int), 0) := by
  have e : a ++ (Wn.uint s.length ++ s) ++ b = a ++ Wn.uint s.length ++ (s ++ b) := by simp
  have hr := ru_back a (s ++ b) s.length h
  rw [← e] at hr
  unfold rb
  rw [hr, if_neg (by omega), if_neg (by simp), if_neg (by omega), if_neg (by simp; omega), Int.toNat_natCast]
  have ht : (a ++ (Wn.uint s.length ++ s) ++ b).take (a.length + (Wn.uint s.length).length + s.length) = a ++ (Wn.uint s.length ++ s) := by
    rw [show a.length + (Wn.uint s.length).length + s.length = (a ++ (Wn.uint s.length ++ s)).length by simp; omega, List.take_left]
  rw [ht, show a ++ (Wn.uint s.length ++ s) = (a ++ Wn.uint s.length) ++ s by simp, show a.length + (Wn.uint s.length).length = (a ++ Wn.uint s.length).length by simp, List.drop_left]
  simp
  omega

theorem readUint_eq (v : Value) (l : List Nat) (p : Int) (w : World) (h : Bs w v l) (hlen : l.length ≤ 140737488355328) (x : Nat) (q : Int) (hr : Wn.ru l p = (x, q, 0)) :
    Calls Tryd.prog 23 #[v, .int .i64 p] w fun e w' => e = .returned (.tuple #[.int .u64 (x : Int), .int .i64 q, .int .i64 0]) ∧ w = w' := by
  have := readUint_any v l p w h hlen
  rw [hr] at this
  exact this
theorem readInt_eq (v : Value) (l : List Nat) (p : Int) (w : World) (h : Bs w v l) (hlen : l.length ≤ 140737488355328) (x q : Int) (hr : ri l p = (x, q, 0)) :
    Calls Tryd.prog 25 #[v, .int .i64 p] w fun e w' => e = .returned (.tuple #[.int .i64 x, .int .i64 q, .int .i64 0]) ∧ w = w' := by
  have := readInt_any v l p w h hlen
  rw [hr] at this
  exact this
theorem readBytes_eq (v : Value) (l : List Nat) (p m : Int) (w : World) (h : Bs w v l) (hlen : l.length ≤ 140737488355328) (hm : m ≤ 9223372036854775807) (x : List Nat) (q : Int) (e0 : Nat) (hr : rb l p m = (x, q, e0)) :
    Calls Tryd.prog 27 #[v, .int .i64 p, .int .i64 m] w fun e w' => ∃ v', e = .returned (.tuple #[v', .int .i64 q, .int .i64 (e0 : Int)]) ∧ Own w.heap.size w' v' x ∧ Below w.heap.size w w' := by
  have := readBytes_any v l p m w h hlen hm
  rw [hr] at this
  exact this

set_option maxRecDepth 100000 in
set_option maxHeartbeats 4000000 in
theorem back_any (va : Value) (a : List Nat) (u i : Int) (vs : Value) (s : List Nat) (vb : Value) (b : List Nat) (w : World) (hT : Tab w) (ha : Bs w va a) (hu : (Lit.int .u64 u).wf = true) (hi : (Lit.int .i64 i).wf = true) (hs : Bs w vs s) (hb : Bs w vb b) :
    Calls Tryd.prog 7 #[va, .int .u64 u, .int .i64 i, vs, vb] w fun e w' => e = .returned (.bool true) ∧ Below w.heap.size w w' := by
  obtain ⟨i0, i1⟩ := bounds_i64 hi
  obtain ⟨U, rfl⟩ := Int.eq_ofNat_of_zero_le (bounds_u64 hu).1
  have hU : U < 18446744073709551616 := by have := (bounds_u64 hu).2; omega
  have HR2' : Hid (∀ A B : List Nat, ri (A ++ Wn.uint (zz i) ++ B) (A.length : Int) = (i, ((A.length + (Wn.uint (zz i)).length : Nat) : Int), 0)) := fun A B => ri_back A B i i0 i1
  have HI : Hid (-9223372036854775808 ≤ i ∧ i ≤ 9223372036854775807) := ⟨i0, i1⟩
  have HU : Hid (U < 18446744073709551616) := hU
  have l1 := Wn.uint_len10 U hU
  have l1' := Wn.uint_pos U
  have l2 := Wn.uint_len10 (zz i) (zz_lt i i0 i1)
  clear hi hu i0 i1 hU
  go_enter Tryd.func7, Tryd.ntmps7
  go_wp2_with fail
  refine (first_any va a _ ha).mono ?_
  rintro e w1 ⟨⟨va', rfl, ha'⟩, rfl⟩
  go_wp2_with fail
  refine (first_any vs s _ hs).mono ?_
  rintro e w1 ⟨⟨vs', rfl, hs'⟩, rfl⟩
  go_wp2_with fail
  refine (first_any vb b _ hb).mono ?_
  rintro e w1 ⟨⟨vb', rfl, hb'⟩, rfl⟩
  have lA : (a.take 2097152).length ≤ 2097152 := List.length_take_le _ _
  have lS : (s.take 2097152).length ≤ 2097152 := List.length_take_le _ _
  have lB : (b.take 2097152).length ≤ 2097152 := List.length_take_le _ _
  generalize a.take 2097152 = A at *
  generalize s.take 2097152 = S at *
  generalize b.take 2097152 = B at *
  clear ha hs hb
  obtain ⟨aoA, capA, rfl, _⟩ := ha'.shape
  obtain ⟨aoS, capS, rfl, _⟩ := hs'.shape
  obtain ⟨aoB, capB, rfl, _⟩ := hb'.shape
  have HR1 : Hid (Wn.ru (A ++ Wn.uint U ++ B) (A.length : Int) = (U, ((A.length + (Wn.uint U).length : Nat) : Int), 0)) := ru_back A B U HU.out
  have HR2 : Hid (ri (A ++ Wn.uint (zz i) ++ B) (A.length : Int) = (i, ((A.length + (Wn.uint (zz i)).length : Nat) : Int), 0)) := HR2'.out A B
  have HR3 : Hid (rb (A ++ (Wn.uint S.length ++ S) ++ B) (A.length : Int) (S.length : Int) = (S, ((A.length + (Wn.uint S.length ++ S).length : Nat) : Int), 0)) := rb_back A B S (by omega)
  have l3 : (Wn.uint S.length ++ S).length ≤ 2097162 := by have := Wn.uint_len10 S.length (by omega); simp; omega
  -- a number
  have E1 : ((U : Int) != (U : Int)) = false := by simp
  go_wp2_with fail
  refine (uint_any U _ HU.out).mono ?_
  rintro e w1 ⟨v1, rfl, ho1, b1⟩
  generalize Wn.uint U = X1 at *
  obtain ⟨ao1, cap1, rfl, _⟩ := ho1.bs.shape
  have E3 : decide ((X1.length : Int) < 1) = false := decide_eq_false (by omega)
  have E4 : decide (10 < (X1.length : Int)) = false := decide_eq_false (by omega)
  go_wp2_with fail
  refine (join_any _ _ _ A X1 B _ (ha'.kept b1) ho1.bs (hb'.kept b1) (by omega)).mono ?_
  rintro e w2 ⟨v2, rfl, ho2, b2'⟩
  have b2 := andThen b1 b2'
  generalize eJ : A ++ X1 ++ B = J at ho2
  have EJ : Hid (A ++ X1 ++ B = J) := eJ
  clear eJ
  have lJ : J.length ≤ 4194314 := by rw [← EJ.out]; simp; omega
  obtain ⟨ao2, cap2, rfl, _⟩ := ho2.bs.shape
  go_wp2_with fail
  refine (readUint_eq _ J _ _ ho2.bs (by omega) _ _ (by rw [← EJ.out]; exact HR1.out)).mono ?_
  rintro e w3 ⟨rfl, rfl⟩
  clear HR1 EJ ho2 b2' ho1 b1
  go_wp2_with fail
  refine (num_any _ _ (by omega) (by omega)).mono ?_
  rintro e w3 ⟨rfl, rfl⟩
  -- a signed number
  go_wp2_with fail
  refine (int_any i _ HI.out.1 HI.out.2).mono ?_
  rintro e w4 ⟨v4, rfl, ho4, b4'⟩
  have b4 := andThen b2 b4'
  generalize Wn.uint (zz i) = X2 at *
  obtain ⟨ao4, cap4, rfl, _⟩ := ho4.bs.shape
  have E5 : (i != i) = false := by simp
  go_wp2_with fail
  refine (join_any _ _ _ A X2 B _ (ha'.kept b4) ho4.bs (hb'.kept b4) (by omega)).mono ?_
  rintro e w5 ⟨v5, rfl, ho5, b5'⟩
  have b5 := andThen b4 b5'
  generalize eJ : A ++ X2 ++ B = J2 at ho5
  have EJ : Hid (A ++ X2 ++ B = J2) := eJ
  clear eJ
  have lJ2 : J2.length ≤ 4194314 := by rw [← EJ.out]; simp; omega
  obtain ⟨ao5, cap5, rfl, _⟩ := ho5.bs.shape
  go_wp2_with fail
  refine (readInt_eq _ J2 _ _ ho5.bs (by omega) _ _ (by rw [← EJ.out]; exact HR2.out)).mono ?_
  rintro e w6 ⟨rfl, rfl⟩
  clear HR2 HR2' EJ ho5 b5' ho4 b4 b2 b4'
  go_wp2_with fail
  refine (num_any _ _ (by omega) (by omega)).mono ?_
  rintro e w6 ⟨rfl, rfl⟩
  -- a byte string
  go_wp2_with fail
  refine (bytes_any _ S _ (hs'.kept b5) (by omega)).mono ?_
  rintro e w7 ⟨v7, rfl, ho7, b7'⟩
  have b7 := andThen b5 b7'
  generalize eX : Wn.uint S.length ++ S = X3 at ho7 l3 HR3
  clear eX
  obtain ⟨ao7, cap7, rfl, _⟩ := ho7.bs.shape
  go_wp2_with fail
  refine (join_any _ _ _ A X3 B _ (ha'.kept b7) ho7.bs (hb'.kept b7) (by omega)).mono ?_
  rintro e w8 ⟨v8, rfl, ho8, b8'⟩
  have b8 := andThen b7 b8'
  generalize eJ : A ++ X3 ++ B = J3 at ho8
  have EJ : Hid (A ++ X3 ++ B = J3) := eJ
  clear eJ
  have lJ3 : J3.length ≤ 8388608 := by rw [← EJ.out]; simp; omega
  obtain ⟨ao8, cap8, rfl, _⟩ := ho8.bs.shape
  go_wp2_with fail
  refine (readBytes_eq _ J3 _ _ _ ho8.bs (by omega) (by omega) S ((A.length + X3.length : Nat) : Int) 0 (by rw [← EJ.out]; exact HR3.out)).mono ?_
  rintro e w9 ⟨v9, rfl, ho9, b9'⟩
  have b9 := andThen b8 b9'
  obtain ⟨ao9, cap9, rfl, _⟩ := ho9.bs.shape
  clear HR3 EJ ho8 b8' ho7 b7 b5 b7' b8
  go_wp2_with fail
  refine (num_any _ _ (by omega) (by omega)).mono ?_
  rintro e w10 ⟨rfl, rfl⟩
  go_wp2_with fail
  refine (same_yes _ _ S _ ho9.bs (hs'.kept b9)).mono ?_
  rintro e w10 ⟨rfl, b10'⟩
  have b10 := andThen b9 b10'
  clear ho9 b9' b10' b9
  by_cases hbad : S.length = 0 ∨ 1048576 < S.length
  · have hfb : ∀ W pv, Ps W pv [S] → Calls Tryd.prog 14 #[pv] W fun e w' => e = .returned (.tuple #[.slice none 0 0, .int .i64 (if S.length = 0 then 14 else 13)]) ∧ W = w' := by
      intro W pv hp
      refine frame_bad pv [S] W hp _ ?_
      by_cases h0 : S.length = 0
      · exact .inr ⟨by simpa using h0, by rw [if_pos h0]⟩
      · exact .inl ⟨by simp; omega, by rw [if_neg h0]⟩
    obtain ⟨er, her⟩ : ∃ er : Int, er = (if S.length = 0 then 14 else 13) := ⟨_, rfl⟩
    rw [← her] at hfb
    have her2 : 1 ≤ er ∧ er ≤ 20 := by rw [her]; split <;> omega
    have HFB : Hid (∀ W pv, Ps W pv [S] → Calls Tryd.prog 14 #[pv] W fun e w' => e = .returned (.tuple #[.slice none 0 0, .int .i64 er]) ∧ W = w') := hfb
    have d1 : (er != 0) = true := by rw [bne_iff_ne]; omega
    clear hfb her
    obtain ⟨her3, her4⟩ := her2
    have hS10 := hs'.kept b10
    by_cases h0 : S.length = 0
    · have d0 : ((S.length : Int) == 0) = true := beq_iff_eq.2 (by omega)
      clear h0 hbad
      go_wp2_with fail
      refine (HFB.out _ _ (ps1 _ _ rfl _ hS10)).mono ?_
      rintro e w11 ⟨rfl, rfl⟩
      go_wp2_with fail
      refine (num_any er _ (by omega) (by omega)).mono ?_
      rintro e w11 ⟨rfl, rfl⟩
      go_wp2
      go_ret
      exact ⟨rfl, up b10 _⟩
    · have d0 : ((S.length : Int) == 0) = false := beq_eq_false_iff_ne.2 (by omega)
      have d2 : (1048576 : Int) < (S.length : Int) := by omega
      clear h0 hbad
      go_wp2_with fail
      refine (HFB.out _ _ (ps1 _ _ rfl _ hS10)).mono ?_
      rintro e w11 ⟨rfl, rfl⟩
      go_wp2_with fail
      refine (num_any er _ (by omega) (by omega)).mono ?_
      rintro e w11 ⟨rfl, rfl⟩
      go_wp2
      go_ret
      exact ⟨rfl, up b10 _⟩
  · have h0 : 0 < S.length := by omega
    have h1 : S.length ≤ 1048576 := by omega
    have d0 : ((S.length : Int) == 0) = false := beq_eq_false_iff_ne.2 (by omega)
    have d2 : ¬ (1048576 : Int) < (S.length : Int) := by omega
    clear hbad
    have HR4 : Hid (rf (A ++ fr S ++ B) (A.length : Int) = (S, ((A.length + (fr S).length : Nat) : Int), 0)) := rf_fr A S B hs'.good h0 h1
    have lF : (fr S).length ≤ 1048584 := by have := fr_length S; have := Wn.uint_len3 S.length h1; omega
    have hS10 := hs'.kept b10
    go_wp2_with fail
    refine (frame1 _ S _ ((hT.kept b10).kept (up0 _ _)) (ps1 _ _ rfl _ hS10) h1 h0).mono ?_
    rintro e w11 ⟨v11, rfl, ho11, b11'⟩
    have b11 := andThen (up b10 _) b11'
    generalize fr S = F at *
    obtain ⟨ao11, cap11, rfl, _⟩ := ho11.bs.shape
    clear b11' b10 hS10
    go_wp2_with fail
    refine (join_any _ _ _ A F B _ (ha'.kept b11) ho11.bs (hb'.kept b11) (by omega)).mono ?_
    rintro e w12 ⟨v12, rfl, ho12, b12'⟩
    have b12 := andThen b11 b12'
    generalize eJ : A ++ F ++ B = J4 at ho12
    have EJ : Hid (A ++ F ++ B = J4) := eJ
    clear eJ
    have lJ4 : J4.length ≤ 8388608 := by rw [← EJ.out]; simp; omega
    obtain ⟨ao12, cap12, rfl, _⟩ := ho12.bs.shape
    go_wp2_with fail
    refine (readFrame_eq _ J4 _ _ (hT.kept b12) ho12.bs (by omega) S ((A.length + F.length : Nat) : Int) 0 (by rw [← EJ.out]; exact HR4.out)).mono ?_
    rintro e w13 ⟨v13, rfl, ho13, b13'⟩
    have b13 := andThen b12 b13'
    obtain ⟨ao13, cap13, rfl, _⟩ := ho13.bs.shape
    clear HR4 EJ ho12 b12' b12 b11 ho11
    go_wp2_with fail
    refine (num_any _ _ (by omega) (by omega)).mono ?_
    rintro e w14 ⟨rfl, rfl⟩
    go_wp2_with fail
    refine (num_any _ _ (by omega) (by omega)).mono ?_
    rintro e w14 ⟨rfl, rfl⟩
    go_wp2_with fail
    refine (same_yes _ _ S _ ho13.bs (hs'.kept b13)).mono ?_
    rintro e w14 ⟨rfl, b14'⟩
    have b14 := andThen b13 b14'
    clear ho13 b13' b14' b13
    go_wp2
    go_ret
    exact ⟨by simp, b14⟩
end Go.Proofs.YtnglcadhleefiaaDoor
