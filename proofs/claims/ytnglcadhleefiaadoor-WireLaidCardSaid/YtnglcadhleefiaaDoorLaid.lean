/-
  WireLaid's walk.
-/
import Derived.Test.YtnglcadhleefiaaDoorSum
import Derived.Test.YtnglcadhleefiaaDoorLaws2
import Derived.Test.YtnglcadhleefiaaDoorOver
namespace Go.Proofs.YtnglcadhleefiaaDoor
open Go Go.RowKit
open Wb

theorem sum_b (pv : Value) (ls : List (List Nat)) (w : World) (s : Nat) (hs : Wm.crc ls.flatten = s) (hT : Tab w) (hp : Ps w pv ls) :
    Calls Tryd.prog 11 #[pv] w fun e w' => e = .returned (.int .u32 (s : Int)) ∧ Below w.heap.size w w' := by
  subst hs
  refine (sum_any pv ls w hT hp).mono ?_
  rintro e w' ⟨h1, rfl⟩
  exact ⟨h1, Below.refl _ _⟩
theorem crc_digits : Wm.crc [[49, 50, 51], [], [52, 53, 54, 55, 56, 57]].flatten = 3421780262 := by decide +kernel

theorem digits (w : World) : Ps (((w.alloc (.cells #[.int .u8 49, .int .u8 50, .int .u8 51] 5)).alloc (.cells #[.int .u8 52, .int .u8 53, .int .u8 54, .int .u8 55, .int .u8 56, .int .u8 57] 5)).alloc
      (.cells #[.slice (some ⟨w.heap.size, 0, none⟩) 3 3, .slice none 0 0, .slice (some ⟨w.heap.size + 1, 0, none⟩) 6 6] 22)) (.slice (some ⟨w.heap.size + 1 + 1, 0, none⟩) 3 3) [[49, 50, 51], [], [52, 53, 54, 55, 56, 57]] := by
  have h1 := (Own.lit (B := 0) w [49, 50, 51] (by intro x hx; simp at hx; omega) (Nat.zero_le _) (by simp [maxLen]) #[.int .u8 49, .int .u8 50, .int .u8 51] rfl).bs
  have h2 := (Own.lit (B := 0) (w.alloc (.cells #[.int .u8 49, .int .u8 50, .int .u8 51] 5)) [52, 53, 54, 55, 56, 57] (by intro x hx; simp at hx; omega) (Nat.zero_le _) (by simp [maxLen]) #[.int .u8 52, .int .u8 53, .int .u8 54, .int .u8 55, .int .u8 56, .int .u8 57] rfl).bs
  exact ps3 _ _ (by simp) 22 (h1.alloc _) (Bs.nil _) (by simpa using h2)

theorem part_n (v : Value) (l : List Nat) (n : Nat) (w : World) (h : Bs w v l) (hlen : l.length ≤ 140737488355328) (hhi : n ≤ 9223372036854775807) :
    Calls Tryd.prog 10 #[v, .int .i64 0, .int .i64 (n : Int)] w fun e w' => ∃ v', e = .returned v' ∧ Own w.heap.size w' v' (l.take n) ∧ Below w.heap.size w w' := by
  have := part_any v l 0 (n : Int) w h hlen (by omega)
  simpa using this

set_option maxHeartbeats 4000000 in
theorem laid_any (va vb vc : Value) (a b c : List Nat) (w : World) (hT : Tab w) (ha : Bs w va a) (hb : Bs w vb b) (hc : Bs w vc c) :
    Calls Tryd.prog 3 #[va, vb, vc] w fun e w' => e = .returned (.bool true) ∧ Below w.heap.size w w' := by
  go_enter Tryd.func3, Tryd.ntmps3
  go_wp2_with fail
  refine (first_any va a _ ha).mono ?_
  rintro e w1 ⟨⟨va', rfl, ha'⟩, rfl⟩
  go_wp2_with fail
  refine (first_any vb b _ hb).mono ?_
  rintro e w1 ⟨⟨vb', rfl, hb'⟩, rfl⟩
  go_wp2_with fail
  refine (first_any vc c _ hc).mono ?_
  rintro e w1 ⟨⟨vc', rfl, hc'⟩, rfl⟩
  have lA : (a.take 2097152).length ≤ 2097152 := List.length_take_le _ _
  have lB : (b.take 2097152).length ≤ 2097152 := List.length_take_le _ _
  have lC : (c.take 2097152).length ≤ 2097152 := List.length_take_le _ _
  generalize a.take 2097152 = A at *
  generalize b.take 2097152 = B at *
  generalize c.take 2097152 = C at *
  clear ha hb hc
  obtain ⟨aoA, capA, rfl, _⟩ := ha'.shape
  obtain ⟨aoB, capB, rfl, _⟩ := hb'.shape
  obtain ⟨aoC, capC, rfl, _⟩ := hc'.shape
  by_cases h1 : B.length < A.length
  · by_cases h2 : C.length < B.length
    · go_wp2_with fail
      refine (part_n _ A _ _ ha' (by omega) (by omega)).mono ?_
      rintro e w1 ⟨vx, rfl, hx, b1⟩
      generalize eX : A.take C.length = X at hx
      have EX : Hid (A.take C.length = X) := eX
      clear eX
      obtain ⟨aox, capx, rfl, _⟩ := hx.bs.shape
      go_wp2_with fail
      refine (part_n _ B _ _ (hb'.kept b1) (by omega) (by omega)).mono ?_
      rintro e w2 ⟨vy, rfl, hy, b2⟩
      generalize eY : B.take C.length = Y at hy
      have EY : Hid (B.take C.length = Y) := eY
      clear eY
      obtain ⟨aoy, capy, rfl, _⟩ := hy.bs.shape
      have b12 := andThen b1 b2
      go_wp2_with fail
      refine (part_n _ C _ _ (hc'.kept b12) (by omega) (by omega)).mono ?_
      rintro e w3 ⟨vz, rfl, hz, b3⟩
      generalize eZ : C.take C.length = Z at hz
      have EZ : Hid (C.take C.length = Z) := eZ
      clear eZ
      obtain ⟨aoz, capz, rfl, _⟩ := hz.bs.shape
      have H3 : Hid (Below w.heap.size w w3) := andThen b12 b3
      have hx3 := ((hx.kept b2).kept b3).bs
      have hy3 := (hy.kept b3).bs
      have hz3 := hz.bs
      have hA3 := ha'.kept H3.out
      have hB3 := hb'.kept H3.out
      have hC3 := hc'.kept H3.out
      have hT3 := hT.kept H3.out
      have eY : X.length = Y.length := by rw [← EX.out, ← EY.out]; simp; omega
      have eZ : X.length = Z.length := by rw [← EX.out, ← EZ.out]; simp; omega
      have HX : Hid (Wm.crc (Wm.xor3 X Y Z) = Wm.crc X ^^^ Wm.crc Y ^^^ Wm.crc Z) := Wm.crc_xor3 _ _ _ eY eZ
      have FY : Hid (X.length = Y.length) := eY
      have FZ : Hid (X.length = Z.length) := eZ
      have lX : X.length ≤ 2097152 := by rw [← EX.out]; simp; omega
      clear hx hy b1 b2 b3 b12 hT ha' hb' hc' eY eZ hz EX EY EZ
      go_wp2_with fail
      refine (sum_b _ _ _ _ crc_digits (hT3.kept (up (up (up0 _ _) _) _)) (digits w3)).mono ?_
      rintro e w4 ⟨rfl, b4'⟩
      have b4 := andThen (up (up (up0 _ _) _) _) b4'
      clear b4'
      obtain ⟨s1, hs1⟩ : ∃ s1, s1 = Wm.crc (A ++ B ++ C) := ⟨_, rfl⟩
      obtain ⟨s2, hs2⟩ : ∃ s2, s2 = Wm.crc (A ++ B) := ⟨_, rfl⟩
      have HS1 : Hid (s1 = Wm.crc (A ++ B ++ C)) := hs1
      have HS2 : Hid (s2 = Wm.crc (A ++ B)) := hs2
      clear hs1 hs2
      have d1 : ((s1 : Int) != (s1 : Int)) = false := by simp
      have d2 : ((s2 : Int) != (s2 : Int)) = false := by simp
      go_wp2_with fail
      refine (sum_b _ [A, B, C] _ s1 (by rw [HS1.out]; simp) (hT3.kept (up b4 _)) (ps3 _ _ rfl _ (hA3.kept b4) (hB3.kept b4) (hC3.kept b4))).mono ?_
      rintro e w5 ⟨rfl, b5'⟩
      have b5 := andThen (up b4 _) b5'
      clear b5' b4
      go_wp2_with fail
      refine (join_any _ _ _ A B C _ (hA3.kept b5) (hB3.kept b5) (hC3.kept b5) (by omega)).mono ?_
      rintro e w6 ⟨vj, rfl, hj, b6'⟩
      generalize eJ : A ++ B ++ C = J at hj
      have EJ : Hid (A ++ B ++ C = J) := eJ
      clear eJ
      obtain ⟨aoj, capj, rfl, _⟩ := hj.bs.shape
      have b6 := andThen b5 b6'
      clear b6' b5
      go_wp2_with fail
      refine (sum_b _ [J] _ s1 (by rw [HS1.out, EJ.out]; simp) (hT3.kept (up b6 _)) (ps1 _ _ rfl _ hj.bs)).mono ?_
      rintro e w7 ⟨rfl, b7'⟩
      have b7 := andThen (up b6 _) b7'
      clear b7' b6 hj EJ
      go_wp2_with fail
      refine (sum_b _ [A, [], B] _ s2 (by rw [HS2.out]; simp) (hT3.kept (up b7 _)) (ps3 _ _ rfl _ (hA3.kept b7) (Bs.nil _) (hB3.kept b7))).mono ?_
      rintro e w8 ⟨rfl, b8'⟩
      have b8 := andThen (up b7 _) b8'
      clear b8' b7
      go_wp2_with fail
      refine (join_any _ _ _ A B [] _ (hA3.kept b8) (hB3.kept b8) (Bs.nil _) (by simp; omega)).mono ?_
      rintro e w9 ⟨vj2, rfl, hj, b9'⟩
      generalize eJ : A ++ B ++ [] = J2 at hj
      have EJ : Hid (A ++ B ++ [] = J2) := eJ
      clear eJ
      obtain ⟨aoj2, capj2, rfl, _⟩ := hj.bs.shape
      have b9 := andThen b8 b9'
      clear b9' b8
      go_wp2_with fail
      refine (sum_b _ [[], J2] _ s2 (by rw [HS2.out, ← EJ.out]; simp) (hT3.kept (up b9 _)) (ps2 _ _ rfl _ (Bs.nil _) hj.bs)).mono ?_
      rintro e w10 ⟨rfl, b10'⟩
      have b10 := andThen (up b9 _) b10'
      clear b10' b9 hj EJ
      go_wp2_with fail
      refine (over_any _ _ _ X Y Z _ (hx3.kept b10) (hy3.kept b10) (hz3.kept b10) (by omega) FY.out FZ.out).mono ?_
      rintro e w11 ⟨vo, rfl, ho, b11'⟩
      generalize eO : Wm.xor3 X Y Z = O at ho
      have EO : Hid (Wm.xor3 X Y Z = O) := eO
      clear eO
      obtain ⟨aoo, capo, rfl, _⟩ := ho.bs.shape
      have b11 := andThen b10 b11'
      clear b11' b10
      go_wp2_with fail
      refine (sum_b _ [O] _ (Wm.crc (Wm.xor3 X Y Z)) (by rw [EO.out]; simp) (hT3.kept (up b11 _)) (ps1 _ _ rfl _ ho.bs)).mono ?_
      rintro e w12 ⟨rfl, b12'⟩
      have b12 := andThen (up b11 _) b12'
      clear b12' b11 ho EO
      go_wp2_with fail
      refine (sum_b _ [X] _ (Wm.crc X) (by simp) (hT3.kept (up b12 _)) (ps1 _ _ rfl _ (hx3.kept b12))).mono ?_
      rintro e w13 ⟨rfl, b13'⟩
      have b13 := andThen (up b12 _) b13'
      clear b13' b12
      go_wp2_with fail
      refine (sum_b _ [Y] _ (Wm.crc Y) (by simp) (hT3.kept (up b13 _)) (ps1 _ _ rfl _ (hy3.kept b13))).mono ?_
      rintro e w14 ⟨rfl, b14'⟩
      have b14 := andThen (up b13 _) b14'
      clear b14' b13
      go_wp2_with fail
      refine (sum_b _ [Z] _ (Wm.crc Z) (by simp) (hT3.kept (up b14 _)) (ps1 _ _ rfl _ (hz3.kept b14))).mono ?_
      rintro e w15 ⟨rfl, b15'⟩
      have H15 : Hid (Below w.heap.size w w15) := andThen H3.out (andThen (up b14 _) b15')
      have n1 := u32_xor_nat (Wm.crc X) (Wm.crc Y) (Wm.crc_lt X hx3.good) (Wm.crc_lt Y hy3.good)
      have n2 := u32_xor_nat (Wm.crc X ^^^ Wm.crc Y) (Wm.crc Z) (Wm.xor_lt _ _ (Wm.crc_lt X hx3.good) (Wm.crc_lt Y hy3.good)) (Wm.crc_lt Z hz3.good)
      rw [← HX.out] at n2
      clear b15' b14 hx3 hy3 hz3 hA3 hB3 hC3 hT3 HX FY FZ
      generalize Wm.crc (Wm.xor3 X Y Z) = q at *
      generalize Wm.crc X ^^^ Wm.crc Y = q2 at *
      generalize Wm.crc X = q3 at *
      generalize Wm.crc Y = q4 at *
      generalize Wm.crc Z = q5 at *
      go_wp2
      go_ret
      exact ⟨by simp, H15.out⟩
    · go_wp2_with fail
      refine (part_n _ A _ _ ha' (by omega) (by omega)).mono ?_
      rintro e w1 ⟨vx, rfl, hx, b1⟩
      generalize eX : A.take B.length = X at hx
      have EX : Hid (A.take B.length = X) := eX
      clear eX
      obtain ⟨aox, capx, rfl, _⟩ := hx.bs.shape
      go_wp2_with fail
      refine (part_n _ B _ _ (hb'.kept b1) (by omega) (by omega)).mono ?_
      rintro e w2 ⟨vy, rfl, hy, b2⟩
      generalize eY : B.take B.length = Y at hy
      have EY : Hid (B.take B.length = Y) := eY
      clear eY
      obtain ⟨aoy, capy, rfl, _⟩ := hy.bs.shape
      have b12 := andThen b1 b2
      go_wp2_with fail
      refine (part_n _ C _ _ (hc'.kept b12) (by omega) (by omega)).mono ?_
      rintro e w3 ⟨vz, rfl, hz, b3⟩
      generalize eZ : C.take B.length = Z at hz
      have EZ : Hid (C.take B.length = Z) := eZ
      clear eZ
      obtain ⟨aoz, capz, rfl, _⟩ := hz.bs.shape
      have H3 : Hid (Below w.heap.size w w3) := andThen b12 b3
      have hx3 := ((hx.kept b2).kept b3).bs
      have hy3 := (hy.kept b3).bs
      have hz3 := hz.bs
      have hA3 := ha'.kept H3.out
      have hB3 := hb'.kept H3.out
      have hC3 := hc'.kept H3.out
      have hT3 := hT.kept H3.out
      have eY : X.length = Y.length := by rw [← EX.out, ← EY.out]; simp; omega
      have eZ : X.length = Z.length := by rw [← EX.out, ← EZ.out]; simp; omega
      have HX : Hid (Wm.crc (Wm.xor3 X Y Z) = Wm.crc X ^^^ Wm.crc Y ^^^ Wm.crc Z) := Wm.crc_xor3 _ _ _ eY eZ
      have FY : Hid (X.length = Y.length) := eY
      have FZ : Hid (X.length = Z.length) := eZ
      have lX : X.length ≤ 2097152 := by rw [← EX.out]; simp; omega
      clear hx hy b1 b2 b3 b12 hT ha' hb' hc' eY eZ hz EX EY EZ
      go_wp2_with fail
      refine (sum_b _ _ _ _ crc_digits (hT3.kept (up (up (up0 _ _) _) _)) (digits w3)).mono ?_
      rintro e w4 ⟨rfl, b4'⟩
      have b4 := andThen (up (up (up0 _ _) _) _) b4'
      clear b4'
      obtain ⟨s1, hs1⟩ : ∃ s1, s1 = Wm.crc (A ++ B ++ C) := ⟨_, rfl⟩
      obtain ⟨s2, hs2⟩ : ∃ s2, s2 = Wm.crc (A ++ B) := ⟨_, rfl⟩
      have HS1 : Hid (s1 = Wm.crc (A ++ B ++ C)) := hs1
      have HS2 : Hid (s2 = Wm.crc (A ++ B)) := hs2
      clear hs1 hs2
      have d1 : ((s1 : Int) != (s1 : Int)) = false := by simp
      have d2 : ((s2 : Int) != (s2 : Int)) = false := by simp
      go_wp2_with fail
      refine (sum_b _ [A, B, C] _ s1 (by rw [HS1.out]; simp) (hT3.kept (up b4 _)) (ps3 _ _ rfl _ (hA3.kept b4) (hB3.kept b4) (hC3.kept b4))).mono ?_
      rintro e w5 ⟨rfl, b5'⟩
      have b5 := andThen (up b4 _) b5'
      clear b5' b4
      go_wp2_with fail
      refine (join_any _ _ _ A B C _ (hA3.kept b5) (hB3.kept b5) (hC3.kept b5) (by omega)).mono ?_
      rintro e w6 ⟨vj, rfl, hj, b6'⟩
      generalize eJ : A ++ B ++ C = J at hj
      have EJ : Hid (A ++ B ++ C = J) := eJ
      clear eJ
      obtain ⟨aoj, capj, rfl, _⟩ := hj.bs.shape
      have b6 := andThen b5 b6'
      clear b6' b5
      go_wp2_with fail
      refine (sum_b _ [J] _ s1 (by rw [HS1.out, EJ.out]; simp) (hT3.kept (up b6 _)) (ps1 _ _ rfl _ hj.bs)).mono ?_
      rintro e w7 ⟨rfl, b7'⟩
      have b7 := andThen (up b6 _) b7'
      clear b7' b6 hj EJ
      go_wp2_with fail
      refine (sum_b _ [A, [], B] _ s2 (by rw [HS2.out]; simp) (hT3.kept (up b7 _)) (ps3 _ _ rfl _ (hA3.kept b7) (Bs.nil _) (hB3.kept b7))).mono ?_
      rintro e w8 ⟨rfl, b8'⟩
      have b8 := andThen (up b7 _) b8'
      clear b8' b7
      go_wp2_with fail
      refine (join_any _ _ _ A B [] _ (hA3.kept b8) (hB3.kept b8) (Bs.nil _) (by simp; omega)).mono ?_
      rintro e w9 ⟨vj2, rfl, hj, b9'⟩
      generalize eJ : A ++ B ++ [] = J2 at hj
      have EJ : Hid (A ++ B ++ [] = J2) := eJ
      clear eJ
      obtain ⟨aoj2, capj2, rfl, _⟩ := hj.bs.shape
      have b9 := andThen b8 b9'
      clear b9' b8
      go_wp2_with fail
      refine (sum_b _ [[], J2] _ s2 (by rw [HS2.out, ← EJ.out]; simp) (hT3.kept (up b9 _)) (ps2 _ _ rfl _ (Bs.nil _) hj.bs)).mono ?_
      rintro e w10 ⟨rfl, b10'⟩
      have b10 := andThen (up b9 _) b10'
      clear b10' b9 hj EJ
      go_wp2_with fail
      refine (over_any _ _ _ X Y Z _ (hx3.kept b10) (hy3.kept b10) (hz3.kept b10) (by omega) FY.out FZ.out).mono ?_
      rintro e w11 ⟨vo, rfl, ho, b11'⟩
      generalize eO : Wm.xor3 X Y Z = O at ho
      have EO : Hid (Wm.xor3 X Y Z = O) := eO
      clear eO
      obtain ⟨aoo, capo, rfl, _⟩ := ho.bs.shape
      have b11 := andThen b10 b11'
      clear b11' b10
      go_wp2_with fail
      refine (sum_b _ [O] _ (Wm.crc (Wm.xor3 X Y Z)) (by rw [EO.out]; simp) (hT3.kept (up b11 _)) (ps1 _ _ rfl _ ho.bs)).mono ?_
      rintro e w12 ⟨rfl, b12'⟩
      have b12 := andThen (up b11 _) b12'
      clear b12' b11 ho EO
      go_wp2_with fail
      refine (sum_b _ [X] _ (Wm.crc X) (by simp) (hT3.kept (up b12 _)) (ps1 _ _ rfl _ (hx3.kept b12))).mono ?_
      rintro e w13 ⟨rfl, b13'⟩
      have b13 := andThen (up b12 _) b13'
      clear b13' b12
      go_wp2_with fail
      refine (sum_b _ [Y] _ (Wm.crc Y) (by simp) (hT3.kept (up b13 _)) (ps1 _ _ rfl _ (hy3.kept b13))).mono ?_
      rintro e w14 ⟨rfl, b14'⟩
      have b14 := andThen (up b13 _) b14'
      clear b14' b13
      go_wp2_with fail
      refine (sum_b _ [Z] _ (Wm.crc Z) (by simp) (hT3.kept (up b14 _)) (ps1 _ _ rfl _ (hz3.kept b14))).mono ?_
      rintro e w15 ⟨rfl, b15'⟩
      have H15 : Hid (Below w.heap.size w w15) := andThen H3.out (andThen (up b14 _) b15')
      have n1 := u32_xor_nat (Wm.crc X) (Wm.crc Y) (Wm.crc_lt X hx3.good) (Wm.crc_lt Y hy3.good)
      have n2 := u32_xor_nat (Wm.crc X ^^^ Wm.crc Y) (Wm.crc Z) (Wm.xor_lt _ _ (Wm.crc_lt X hx3.good) (Wm.crc_lt Y hy3.good)) (Wm.crc_lt Z hz3.good)
      rw [← HX.out] at n2
      clear b15' b14 hx3 hy3 hz3 hA3 hB3 hC3 hT3 HX FY FZ
      generalize Wm.crc (Wm.xor3 X Y Z) = q at *
      generalize Wm.crc X ^^^ Wm.crc Y = q2 at *
      generalize Wm.crc X = q3 at *
      generalize Wm.crc Y = q4 at *
      generalize Wm.crc Z = q5 at *
      go_wp2
      go_ret
      exact ⟨by simp, H15.out⟩
  · by_cases h2 : C.length < A.length
    · go_wp2_with fail
      refine (part_n _ A _ _ ha' (by omega) (by omega)).mono ?_
      rintro e w1 ⟨vx, rfl, hx, b1⟩
      generalize eX : A.take C.length = X at hx
      have EX : Hid (A.take C.length = X) := eX
      clear eX
      obtain ⟨aox, capx, rfl, _⟩ := hx.bs.shape
      go_wp2_with fail
      refine (part_n _ B _ _ (hb'.kept b1) (by omega) (by omega)).mono ?_
      rintro e w2 ⟨vy, rfl, hy, b2⟩
      generalize eY : B.take C.length = Y at hy
      have EY : Hid (B.take C.length = Y) := eY
      clear eY
      obtain ⟨aoy, capy, rfl, _⟩ := hy.bs.shape
      have b12 := andThen b1 b2
      go_wp2_with fail
      refine (part_n _ C _ _ (hc'.kept b12) (by omega) (by omega)).mono ?_
      rintro e w3 ⟨vz, rfl, hz, b3⟩
      generalize eZ : C.take C.length = Z at hz
      have EZ : Hid (C.take C.length = Z) := eZ
      clear eZ
      obtain ⟨aoz, capz, rfl, _⟩ := hz.bs.shape
      have H3 : Hid (Below w.heap.size w w3) := andThen b12 b3
      have hx3 := ((hx.kept b2).kept b3).bs
      have hy3 := (hy.kept b3).bs
      have hz3 := hz.bs
      have hA3 := ha'.kept H3.out
      have hB3 := hb'.kept H3.out
      have hC3 := hc'.kept H3.out
      have hT3 := hT.kept H3.out
      have eY : X.length = Y.length := by rw [← EX.out, ← EY.out]; simp; omega
      have eZ : X.length = Z.length := by rw [← EX.out, ← EZ.out]; simp; omega
      have HX : Hid (Wm.crc (Wm.xor3 X Y Z) = Wm.crc X ^^^ Wm.crc Y ^^^ Wm.crc Z) := Wm.crc_xor3 _ _ _ eY eZ
      have FY : Hid (X.length = Y.length) := eY
      have FZ : Hid (X.length = Z.length) := eZ
      have lX : X.length ≤ 2097152 := by rw [← EX.out]; simp; omega
      clear hx hy b1 b2 b3 b12 hT ha' hb' hc' eY eZ hz EX EY EZ
      go_wp2_with fail
      refine (sum_b _ _ _ _ crc_digits (hT3.kept (up (up (up0 _ _) _) _)) (digits w3)).mono ?_
      rintro e w4 ⟨rfl, b4'⟩
      have b4 := andThen (up (up (up0 _ _) _) _) b4'
      clear b4'
      obtain ⟨s1, hs1⟩ : ∃ s1, s1 = Wm.crc (A ++ B ++ C) := ⟨_, rfl⟩
      obtain ⟨s2, hs2⟩ : ∃ s2, s2 = Wm.crc (A ++ B) := ⟨_, rfl⟩
      have HS1 : Hid (s1 = Wm.crc (A ++ B ++ C)) := hs1
      have HS2 : Hid (s2 = Wm.crc (A ++ B)) := hs2
      clear hs1 hs2
      have d1 : ((s1 : Int) != (s1 : Int)) = false := by simp
      have d2 : ((s2 : Int) != (s2 : Int)) = false := by simp
      go_wp2_with fail
      refine (sum_b _ [A, B, C] _ s1 (by rw [HS1.out]; simp) (hT3.kept (up b4 _)) (ps3 _ _ rfl _ (hA3.kept b4) (hB3.kept b4) (hC3.kept b4))).mono ?_
      rintro e w5 ⟨rfl, b5'⟩
      have b5 := andThen (up b4 _) b5'
      clear b5' b4
      go_wp2_with fail
      refine (join_any _ _ _ A B C _ (hA3.kept b5) (hB3.kept b5) (hC3.kept b5) (by omega)).mono ?_
      rintro e w6 ⟨vj, rfl, hj, b6'⟩
      generalize eJ : A ++ B ++ C = J at hj
      have EJ : Hid (A ++ B ++ C = J) := eJ
      clear eJ
      obtain ⟨aoj, capj, rfl, _⟩ := hj.bs.shape
      have b6 := andThen b5 b6'
      clear b6' b5
      go_wp2_with fail
      refine (sum_b _ [J] _ s1 (by rw [HS1.out, EJ.out]; simp) (hT3.kept (up b6 _)) (ps1 _ _ rfl _ hj.bs)).mono ?_
      rintro e w7 ⟨rfl, b7'⟩
      have b7 := andThen (up b6 _) b7'
      clear b7' b6 hj EJ
      go_wp2_with fail
      refine (sum_b _ [A, [], B] _ s2 (by rw [HS2.out]; simp) (hT3.kept (up b7 _)) (ps3 _ _ rfl _ (hA3.kept b7) (Bs.nil _) (hB3.kept b7))).mono ?_
      rintro e w8 ⟨rfl, b8'⟩
      have b8 := andThen (up b7 _) b8'
      clear b8' b7
      go_wp2_with fail
      refine (join_any _ _ _ A B [] _ (hA3.kept b8) (hB3.kept b8) (Bs.nil _) (by simp; omega)).mono ?_
      rintro e w9 ⟨vj2, rfl, hj, b9'⟩
      generalize eJ : A ++ B ++ [] = J2 at hj
      have EJ : Hid (A ++ B ++ [] = J2) := eJ
      clear eJ
      obtain ⟨aoj2, capj2, rfl, _⟩ := hj.bs.shape
      have b9 := andThen b8 b9'
      clear b9' b8
      go_wp2_with fail
      refine (sum_b _ [[], J2] _ s2 (by rw [HS2.out, ← EJ.out]; simp) (hT3.kept (up b9 _)) (ps2 _ _ rfl _ (Bs.nil _) hj.bs)).mono ?_
      rintro e w10 ⟨rfl, b10'⟩
      have b10 := andThen (up b9 _) b10'
      clear b10' b9 hj EJ
      go_wp2_with fail
      refine (over_any _ _ _ X Y Z _ (hx3.kept b10) (hy3.kept b10) (hz3.kept b10) (by omega) FY.out FZ.out).mono ?_
      rintro e w11 ⟨vo, rfl, ho, b11'⟩
      generalize eO : Wm.xor3 X Y Z = O at ho
      have EO : Hid (Wm.xor3 X Y Z = O) := eO
      clear eO
      obtain ⟨aoo, capo, rfl, _⟩ := ho.bs.shape
      have b11 := andThen b10 b11'
      clear b11' b10
      go_wp2_with fail
      refine (sum_b _ [O] _ (Wm.crc (Wm.xor3 X Y Z)) (by rw [EO.out]; simp) (hT3.kept (up b11 _)) (ps1 _ _ rfl _ ho.bs)).mono ?_
      rintro e w12 ⟨rfl, b12'⟩
      have b12 := andThen (up b11 _) b12'
      clear b12' b11 ho EO
      go_wp2_with fail
      refine (sum_b _ [X] _ (Wm.crc X) (by simp) (hT3.kept (up b12 _)) (ps1 _ _ rfl _ (hx3.kept b12))).mono ?_
      rintro e w13 ⟨rfl, b13'⟩
      have b13 := andThen (up b12 _) b13'
      clear b13' b12
      go_wp2_with fail
      refine (sum_b _ [Y] _ (Wm.crc Y) (by simp) (hT3.kept (up b13 _)) (ps1 _ _ rfl _ (hy3.kept b13))).mono ?_
      rintro e w14 ⟨rfl, b14'⟩
      have b14 := andThen (up b13 _) b14'
      clear b14' b13
      go_wp2_with fail
      refine (sum_b _ [Z] _ (Wm.crc Z) (by simp) (hT3.kept (up b14 _)) (ps1 _ _ rfl _ (hz3.kept b14))).mono ?_
      rintro e w15 ⟨rfl, b15'⟩
      have H15 : Hid (Below w.heap.size w w15) := andThen H3.out (andThen (up b14 _) b15')
      have n1 := u32_xor_nat (Wm.crc X) (Wm.crc Y) (Wm.crc_lt X hx3.good) (Wm.crc_lt Y hy3.good)
      have n2 := u32_xor_nat (Wm.crc X ^^^ Wm.crc Y) (Wm.crc Z) (Wm.xor_lt _ _ (Wm.crc_lt X hx3.good) (Wm.crc_lt Y hy3.good)) (Wm.crc_lt Z hz3.good)
      rw [← HX.out] at n2
      clear b15' b14 hx3 hy3 hz3 hA3 hB3 hC3 hT3 HX FY FZ
      generalize Wm.crc (Wm.xor3 X Y Z) = q at *
      generalize Wm.crc X ^^^ Wm.crc Y = q2 at *
      generalize Wm.crc X = q3 at *
      generalize Wm.crc Y = q4 at *
      generalize Wm.crc Z = q5 at *
      go_wp2
      go_ret
      exact ⟨by simp, H15.out⟩
    · go_wp2_with fail
      refine (part_n _ A _ _ ha' (by omega) (by omega)).mono ?_
      rintro e w1 ⟨vx, rfl, hx, b1⟩
      generalize eX : A.take A.length = X at hx
      have EX : Hid (A.take A.length = X) := eX
      clear eX
      obtain ⟨aox, capx, rfl, _⟩ := hx.bs.shape
      go_wp2_with fail
      refine (part_n _ B _ _ (hb'.kept b1) (by omega) (by omega)).mono ?_
      rintro e w2 ⟨vy, rfl, hy, b2⟩
      generalize eY : B.take A.length = Y at hy
      have EY : Hid (B.take A.length = Y) := eY
      clear eY
      obtain ⟨aoy, capy, rfl, _⟩ := hy.bs.shape
      have b12 := andThen b1 b2
      go_wp2_with fail
      refine (part_n _ C _ _ (hc'.kept b12) (by omega) (by omega)).mono ?_
      rintro e w3 ⟨vz, rfl, hz, b3⟩
      generalize eZ : C.take A.length = Z at hz
      have EZ : Hid (C.take A.length = Z) := eZ
      clear eZ
      obtain ⟨aoz, capz, rfl, _⟩ := hz.bs.shape
      have H3 : Hid (Below w.heap.size w w3) := andThen b12 b3
      have hx3 := ((hx.kept b2).kept b3).bs
      have hy3 := (hy.kept b3).bs
      have hz3 := hz.bs
      have hA3 := ha'.kept H3.out
      have hB3 := hb'.kept H3.out
      have hC3 := hc'.kept H3.out
      have hT3 := hT.kept H3.out
      have eY : X.length = Y.length := by rw [← EX.out, ← EY.out]; simp; omega
      have eZ : X.length = Z.length := by rw [← EX.out, ← EZ.out]; simp; omega
      have HX : Hid (Wm.crc (Wm.xor3 X Y Z) = Wm.crc X ^^^ Wm.crc Y ^^^ Wm.crc Z) := Wm.crc_xor3 _ _ _ eY eZ
      have FY : Hid (X.length = Y.length) := eY
      have FZ : Hid (X.length = Z.length) := eZ
      have lX : X.length ≤ 2097152 := by rw [← EX.out]; simp; omega
      clear hx hy b1 b2 b3 b12 hT ha' hb' hc' eY eZ hz EX EY EZ
      go_wp2_with fail
      refine (sum_b _ _ _ _ crc_digits (hT3.kept (up (up (up0 _ _) _) _)) (digits w3)).mono ?_
      rintro e w4 ⟨rfl, b4'⟩
      have b4 := andThen (up (up (up0 _ _) _) _) b4'
      clear b4'
      obtain ⟨s1, hs1⟩ : ∃ s1, s1 = Wm.crc (A ++ B ++ C) := ⟨_, rfl⟩
      obtain ⟨s2, hs2⟩ : ∃ s2, s2 = Wm.crc (A ++ B) := ⟨_, rfl⟩
      have HS1 : Hid (s1 = Wm.crc (A ++ B ++ C)) := hs1
      have HS2 : Hid (s2 = Wm.crc (A ++ B)) := hs2
      clear hs1 hs2
      have d1 : ((s1 : Int) != (s1 : Int)) = false := by simp
      have d2 : ((s2 : Int) != (s2 : Int)) = false := by simp
      go_wp2_with fail
      refine (sum_b _ [A, B, C] _ s1 (by rw [HS1.out]; simp) (hT3.kept (up b4 _)) (ps3 _ _ rfl _ (hA3.kept b4) (hB3.kept b4) (hC3.kept b4))).mono ?_
      rintro e w5 ⟨rfl, b5'⟩
      have b5 := andThen (up b4 _) b5'
      clear b5' b4
      go_wp2_with fail
      refine (join_any _ _ _ A B C _ (hA3.kept b5) (hB3.kept b5) (hC3.kept b5) (by omega)).mono ?_
      rintro e w6 ⟨vj, rfl, hj, b6'⟩
      generalize eJ : A ++ B ++ C = J at hj
      have EJ : Hid (A ++ B ++ C = J) := eJ
      clear eJ
      obtain ⟨aoj, capj, rfl, _⟩ := hj.bs.shape
      have b6 := andThen b5 b6'
      clear b6' b5
      go_wp2_with fail
      refine (sum_b _ [J] _ s1 (by rw [HS1.out, EJ.out]; simp) (hT3.kept (up b6 _)) (ps1 _ _ rfl _ hj.bs)).mono ?_
      rintro e w7 ⟨rfl, b7'⟩
      have b7 := andThen (up b6 _) b7'
      clear b7' b6 hj EJ
      go_wp2_with fail
      refine (sum_b _ [A, [], B] _ s2 (by rw [HS2.out]; simp) (hT3.kept (up b7 _)) (ps3 _ _ rfl _ (hA3.kept b7) (Bs.nil _) (hB3.kept b7))).mono ?_
      rintro e w8 ⟨rfl, b8'⟩
      have b8 := andThen (up b7 _) b8'
      clear b8' b7
      go_wp2_with fail
      refine (join_any _ _ _ A B [] _ (hA3.kept b8) (hB3.kept b8) (Bs.nil _) (by simp; omega)).mono ?_
      rintro e w9 ⟨vj2, rfl, hj, b9'⟩
      generalize eJ : A ++ B ++ [] = J2 at hj
      have EJ : Hid (A ++ B ++ [] = J2) := eJ
      clear eJ
      obtain ⟨aoj2, capj2, rfl, _⟩ := hj.bs.shape
      have b9 := andThen b8 b9'
      clear b9' b8
      go_wp2_with fail
      refine (sum_b _ [[], J2] _ s2 (by rw [HS2.out, ← EJ.out]; simp) (hT3.kept (up b9 _)) (ps2 _ _ rfl _ (Bs.nil _) hj.bs)).mono ?_
      rintro e w10 ⟨rfl, b10'⟩
      have b10 := andThen (up b9 _) b10'
      clear b10' b9 hj EJ
      go_wp2_with fail
      refine (over_any _ _ _ X Y Z _ (hx3.kept b10) (hy3.kept b10) (hz3.kept b10) (by omega) FY.out FZ.out).mono ?_
      rintro e w11 ⟨vo, rfl, ho, b11'⟩
      generalize eO : Wm.xor3 X Y Z = O at ho
      have EO : Hid (Wm.xor3 X Y Z = O) := eO
      clear eO
      obtain ⟨aoo, capo, rfl, _⟩ := ho.bs.shape
      have b11 := andThen b10 b11'
      clear b11' b10
      go_wp2_with fail
      refine (sum_b _ [O] _ (Wm.crc (Wm.xor3 X Y Z)) (by rw [EO.out]; simp) (hT3.kept (up b11 _)) (ps1 _ _ rfl _ ho.bs)).mono ?_
      rintro e w12 ⟨rfl, b12'⟩
      have b12 := andThen (up b11 _) b12'
      clear b12' b11 ho EO
      go_wp2_with fail
      refine (sum_b _ [X] _ (Wm.crc X) (by simp) (hT3.kept (up b12 _)) (ps1 _ _ rfl _ (hx3.kept b12))).mono ?_
      rintro e w13 ⟨rfl, b13'⟩
      have b13 := andThen (up b12 _) b13'
      clear b13' b12
      go_wp2_with fail
      refine (sum_b _ [Y] _ (Wm.crc Y) (by simp) (hT3.kept (up b13 _)) (ps1 _ _ rfl _ (hy3.kept b13))).mono ?_
      rintro e w14 ⟨rfl, b14'⟩
      have b14 := andThen (up b13 _) b14'
      clear b14' b13
      go_wp2_with fail
      refine (sum_b _ [Z] _ (Wm.crc Z) (by simp) (hT3.kept (up b14 _)) (ps1 _ _ rfl _ (hz3.kept b14))).mono ?_
      rintro e w15 ⟨rfl, b15'⟩
      have H15 : Hid (Below w.heap.size w w15) := andThen H3.out (andThen (up b14 _) b15')
      have n1 := u32_xor_nat (Wm.crc X) (Wm.crc Y) (Wm.crc_lt X hx3.good) (Wm.crc_lt Y hy3.good)
      have n2 := u32_xor_nat (Wm.crc X ^^^ Wm.crc Y) (Wm.crc Z) (Wm.xor_lt _ _ (Wm.crc_lt X hx3.good) (Wm.crc_lt Y hy3.good)) (Wm.crc_lt Z hz3.good)
      rw [← HX.out] at n2
      clear b15' b14 hx3 hy3 hz3 hA3 hB3 hC3 hT3 HX FY FZ
      generalize Wm.crc (Wm.xor3 X Y Z) = q at *
      generalize Wm.crc X ^^^ Wm.crc Y = q2 at *
      generalize Wm.crc X = q3 at *
      generalize Wm.crc Y = q4 at *
      generalize Wm.crc Z = q5 at *
      go_wp2
      go_ret
      exact ⟨by simp, H15.out⟩
end Go.Proofs.YtnglcadhleefiaaDoor
