import Derived.Test.YtneifdbcjicfgaaDoorQM7
/-
  The reference: word.
-/
namespace Go.Proofs.YtneifdbcjicfgaaDoor
open Go Go.RowKit
open Tx

theorem letter_low : ∀ c : Nat, c < 128 → among lets (c : Int) = true → c ≠ 34 ∧ c ≠ 45 ∧ sgn c = false ∧ dig (c : Int) = false := by decide +kernel
theorem letter_facts (s : ByteArray) (i : Nat) (hl : among lets ((Utf8.decode s i).1 : Int) = true) : ¬ at' s i = 34 ∧ ¬ at' s i = 45 ∧ sgn (at' s i) = false ∧ isD s i = false ∧ stray s i = false := by
  have hst : stray s i = false := by
    cases h : stray s i with
    | false => rfl
    | true =>
      rw [stray_rune s i h] at hl
      exact absurd hl (by decide +kernel)
  by_cases ha : at' s i < 128
  · rw [dec_asc s i ha] at hl
    obtain ⟨h1, h2, h3, h4⟩ := letter_low _ ha hl
    refine ⟨h1, h2, h3, ?_, hst⟩
    unfold isD
    rw [h4, Bool.and_false]
  · refine ⟨by omega, by omega, ?_, ?_, hst⟩
    · cases h9 : sgn (at' s i) with
      | false => rfl
      | true => exact absurd (sgn_lt h9).1 ha
    · unfold isD dig
      rw [decide_eq_false (p := ((at' s i : Nat) : Int) ≤ 57) (by omega), Bool.and_false, Bool.and_false]
theorem pc_field0 (a b c : Value) (w : World) : (Instr.field 70 (.agg #[a, b, c]) 0).run Tryd.prog w = .ok a w := by kernel_rfl
theorem pc_field2 (a b c : Value) (w : World) : (Instr.field 70 (.agg #[a, b, c]) 2).run Tryd.prog w = .ok c w := by kernel_rfl
/-- the word of a letter, where the loop over the runes ends -/
def Tx.rlW (s : ByteArray) (i : Nat) (R : Nat ⊕ Nat) : (Wd × Nat) ⊕ (Int × Int) := match R with
  | .inl E => .inl (⟨1, (i : Int), s.extract i E, 0⟩, E)
  | .inr q => .inr (23, (q : Int))
theorem nm_pc (s : ByteArray) (k : Nat) : nmR (pcR s k) = nmR ((Utf8.decode s k).1 : Int) := by
  cases h : stray s k with
  | true =>
    unfold pcR
    rw [h, stray_rune s k h]
    decide +kernel
  | false =>
    unfold pcR
    rw [h]
    rfl
set_option maxRecDepth 100000 in
set_option maxHeartbeats 4000000 in
theorem rword_name (s : ByteArray) (i : Nat) (w : World) (hi : i < s.size) (hs : s.size ≤ 200000) (hl : among lets ((Utf8.decode s i).1 : Int) = true) (hT : TabP 1 .i64 lets w) :
    Calls Tryd.prog 32 #[.string s, .int .i64 (i : Int)] w fun e w' => e = .returned (rans (wordP s i)) ∧ Below w.heap.size w w' := by
  obtain ⟨h34, h45, hsg, hnd, hstr⟩ := letter_facts s i hl
  have HI0 : Hid (∀ w', Calls Tryd.prog 50 #[.string s, .int .i64 (i : Int)] w' fun e w'' => e = .returned (.bool false) ∧ w'' = w') := fun w' => by
    have h9 := isdig_any s i w'
    rw [hnd] at h9
    exact h9
  have HSG : Hid (∀ w', Calls Tryd.prog 33 #[.int .u8 (at' s i : Int)] w' fun e w'' => e = .returned (.bool false) ∧ w'' = w') := fun w' => by
    have h9 := rsign_any (at' s i) w'
    rw [hsg] at h9
    exact h9
  have HPC : Hid (∀ w', Calls Tryd.prog 34 #[.string s, .int .i64 (i : Int)] w' fun e w'' => e = .returned (.agg #[.int .i64 (pcR s i), .int .i64 (i : Int), .int .i64 ((Utf8.decode s i).2 : Int)]) ∧ Below w'.heap.size w' w'') := fun w' => piece_any s i w' (by omega) hi
  have hg : (s[i]'hi).toNat = at' s i := (at_get s i hi).symm
  have HX0 : Hid _ := bx_new w 24
  have HLT : Hid (∀ w', Below w.heap.size w w' → Calls Tryd.prog 42 #[.int .i64 ((Utf8.decode s i).1 : Int)] w' fun e w'' => e = .returned (.bool true) ∧ Below w'.heap.size w' w'') := fun w' hb => (rletter_any _ w' (hT.kept hb)).mono fun e w'' ⟨he, hd⟩ => ⟨by rw [he, hl], below_of_drewN hd⟩
  have HTB : Hid (∀ w', Below w.heap.size w w' → TabP 1 .i64 lets w') := fun w' hb => hT.kept hb
  have hb34 : ((at' s i : Int) == 34) = false := by simp; omega
  have hb45 : ((at' s i : Int) == 45) = false := by simp; omega
  have hpc : pcR s i = ((Utf8.decode s i).1 : Int) := by
    unfold pcR
    rw [hstr]
    rfl
  rw [hpc] at HPC
  have hwl : wordP s i = rlW s i (rl s 0 i) := word_letter s i hi hl
  rw [hwl]
  clear hwl
  have hf0 := pc_field0
  have hf2 := pc_field2
  obtain ⟨R, hR⟩ : ∃ R, rl s 0 i = R := ⟨_, rfl⟩
  rw [hR]
  have HR : Hid (rl s 0 i = R) := hR
  clear hR hl hnd hsg hstr h45 h34 hpc hT
  generalize (Utf8.decode s i).2 = wd at *
  generalize (Utf8.decode s i).1 = r at *
  generalize at' s i = c at *
  go_enter Tryd.func32, Tryd.ntmps32
  go_wp2_with fail
  refine (HSG.out _).mono ?_
  rintro e w1 ⟨rfl, rfl⟩
  generalize (w.alloc (.cells #[.int .i64 0, .int .i64 0, .string ⟨#[]⟩, .int .i64 0] 24)).alloc (.cells #[.int .i64 0, .int .i64 0, .string ⟨#[]⟩, .int .i64 0] 24) = w1 at *
  go_wp2_with fail
  refine (HI0.out _).mono ?_
  rintro e w2 ⟨rfl, rfl⟩
  go_wp2_with fail
  refine (HPC.out _).mono ?_
  rintro e w4 ⟨rfl, b4⟩
  have HXQ : Hid (Wx w4 w.heap.size zeroW ∧ Wx w4 (w.heap.size + 1) zeroW ∧ Below w.heap.size w w4) := bx_kept HX0.out b4
  clear b4 HPC HX0
  go_upto_region 19 with fail
  obtain ⟨WP, hWP⟩ : ∃ WP, WP = w4.alloc (.cells #[.int .i64 (r : Int), .int .i64 (i : Int), .int .i64 (wd : Int)] 70) := ⟨_, rfl⟩
  have HXP : Hid (Wx WP w.heap.size zeroW ∧ Wx WP (w.heap.size + 1) zeroW ∧ Below w.heap.size w WP) := by
    rw [hWP]
    exact bx_kept HXQ.out (up0 _ _)
  have c0 : WP.cell? ⟨w4.heap.size, 0, none⟩ = some (.int .i64 (r : Int)) := by
    rw [hWP, World.cell?_alloc_new]
    rfl
  rw [← hWP]
  clear hWP HXQ
  generalize w4.heap.size = gP at *
  go_wp2_with fail
  refine (HLT.out _ HXP.out.2.2).mono ?_
  rintro e w5 ⟨rfl, b5⟩
  have HX5 : Hid (Wx w5 w.heap.size zeroW ∧ Wx w5 (w.heap.size + 1) zeroW ∧ Below w.heap.size w w5) := bx_kept HXP.out b5
  clear b5 HLT HXP c0
  go_wp2
  go_loopw [17, 18] (fun vk vn wr => ∃ k n : Nat, vk = .int .i64 (k : Int) ∧ vn = .int .i64 (n : Int) ∧ i ≤ k ∧ k ≤ s.size ∧ n ≤ 48 ∧ rl s n k = R ∧ (Wx wr w.heap.size zeroW ∧ Wx wr (w.heap.size + 1) zeroW ∧ Below w.heap.size w wr)) (fun vk _ _ => s.size - (intOf vk).toNat)
  case atStart => exact ⟨i, 0, rfl, rfl, Nat.le_refl _, by omega, by omega, HR.out, HX5.out⟩
  case round =>
    obtain ⟨k, n, rfl, rfl, hik, hks, hn, hrl, hbx⟩ := hrel
    have HRL : Hid (rl s n k = R) := hrl
    have HXR : Hid (Wx wr w.heap.size zeroW ∧ Wx wr (w.heap.size + 1) zeroW ∧ Below w.heap.size w wr) := hbx
    clear hrl hbx HX5 HR
    by_cases hlt : k < s.size
    · have hd := decode_fits s k hlt
      have HPK : Hid (∀ w', Calls Tryd.prog 34 #[.string s, .int .i64 (k : Int)] w' fun e w'' => e = .returned (.agg #[.int .i64 (pcR s k), .int .i64 (k : Int), .int .i64 ((Utf8.decode s k).2 : Int)]) ∧ Below w'.heap.size w' w'') := fun w' => piece_any s k w' (by omega) hlt
      cases hnm : nmR ((Utf8.decode s k).1 : Int) with
      | true =>
        have HNR : Hid (∀ w', Below w.heap.size w w' → Calls Tryd.prog 43 #[.int .i64 (pcR s k)] w' fun e w'' => e = .returned (.bool true) ∧ Below w'.heap.size w' w'') := fun w' hb => (rnamer_any _ w' (HTB.out _ hb)).mono fun e w'' ⟨he, hd⟩ => ⟨by rw [he, nm_pc, hnm], below_of_drewN hd⟩
        by_cases h48 : n = 48
        · subst h48
          have HF : Hid (R = .inr k) := by
            show R = _
            rw [← HRL.out, rl, dif_pos hlt, if_pos hnm, if_pos rfl]
          clear HRL hnm
          generalize (Utf8.decode s k).2 = wd2 at *
          generalize pcR s k = pr at *
          go_wp2_with fail
          refine (HPK.out _).mono ?_
          rintro e w6 ⟨rfl, b6⟩
          have HX6 : Hid _ := bx_kept HXR.out b6
          clear b6 HXR
          go_wp2_with fail
          refine (HNR.out _ HX6.out.2.2).mono ?_
          rintro e w7 ⟨rfl, b7⟩
          have HX : Hid (Wx w7 w.heap.size zeroW ∧ Wx w7 (w.heap.size + 1) zeroW ∧ Below w.heap.size w w7) := bx_kept HX6.out b7
          clear b7 HX6 HNR HPK
          obtain ⟨q0, q1, q2, q3⟩ := HX.out.1.cells
          obtain ⟨r0, r1, r2, r3⟩ := HX.out.2.1.cells
          simp only [zeroW] at q0 q1 q2 q3 r0 r1 r2 r3
          have z0 := HX.out.1.frozen 0
          have z1 := HX.out.1.frozen 1
          have z2 := HX.out.1.frozen 2
          have z3 := HX.out.1.frozen 3
          have HEN : Hid (Wx (store4 w7 w.heap.size ⟨0, 0, ⟨#[]⟩, 0⟩) w.heap.size ⟨0, 0, ⟨#[]⟩, 0⟩ ∧ Below w.heap.size w (store4 w7 w.heap.size ⟨0, 0, ⟨#[]⟩, 0⟩)) := ⟨HX.out.1.store _, store4_below HX.out.2.2 (Nat.le_refl _) _⟩
          clear HX
          go_wp2
          obtain ⟨WE, hWE⟩ : ∃ WE, WE = store4 w7 w.heap.size ⟨0, 0, ⟨#[]⟩, 0⟩ := ⟨_, rfl⟩
          rw [← hWE] at HEN
          have hWE2 : WE = ((((w7.setCell ⟨w.heap.size, 0, none⟩ (.int .i64 0)).setCell ⟨w.heap.size, 1, none⟩ (.int .i64 0)).setCell ⟨w.heap.size, 2, none⟩ (.string ⟨#[]⟩)).setCell ⟨w.heap.size, 3, none⟩ (.int .i64 0)) := hWE
          rw [← hWE2]
          clear hWE hWE2 q0 q1 q2 q3 z0 z1 z2 z3 r0 r1 r2 r3
          obtain ⟨y0, y1, y2, y3⟩ := HEN.out.1.cells
          simp only at y0 y1 y2 y3
          (try simp only [Exit.inBlock, Exit.then])
          refine bodyPost_ret (by simp [results, Tryd.results32, go_sem, y0, y1, y2, y3]; try rfl) rfl ?_
          exact ⟨by rw [HF.out]; rfl, HEN.out.2⟩
        · have HF : Hid (rl s (n + 1) (k + (Utf8.decode s k).2) = R) := by
            show _ = R
            rw [← HRL.out]
            conv => rhs; rw [rl, dif_pos hlt, if_pos hnm, if_neg h48]
          have b48 : ((n : Int) == 48) = false := by simp; omega
          clear HRL hnm
          generalize (Utf8.decode s k).2 = wd2 at *
          generalize pcR s k = pr at *
          go_wp2_with fail
          refine (HPK.out _).mono ?_
          rintro e w6 ⟨rfl, b6⟩
          have HX6 : Hid _ := bx_kept HXR.out b6
          clear b6 HXR
          go_wp2_with fail
          refine (HNR.out _ HX6.out.2.2).mono ?_
          rintro e w7 ⟨rfl, b7⟩
          have HX7 : Hid (Wx w7 w.heap.size zeroW ∧ Wx w7 (w.heap.size + 1) zeroW ∧ Below w.heap.size w w7) := bx_kept HX6.out b7
          clear b7 HX6 HNR
          go_wp2_with fail
          refine (HPK.out _).mono ?_
          rintro e w8 ⟨rfl, b8⟩
          have HX8 : Hid (Wx w8 w.heap.size zeroW ∧ Wx w8 (w.heap.size + 1) zeroW ∧ Below w.heap.size w w8) := bx_kept HX7.out b8
          clear b8 HX7 HPK
          go_wp2
          go_roundw
          case rel => exact ⟨k + wd2, n + 1, by go_num, by go_num, by omega, by omega, by omega, HF.out, HX8.out⟩
          case measure => simp [intOf]; omega
      | false =>
        have HNR : Hid (∀ w', Below w.heap.size w w' → Calls Tryd.prog 43 #[.int .i64 (pcR s k)] w' fun e w'' => e = .returned (.bool false) ∧ Below w'.heap.size w' w'') := fun w' hb => (rnamer_any _ w' (HTB.out _ hb)).mono fun e w'' ⟨he, hd⟩ => ⟨by rw [he, nm_pc, hnm], below_of_drewN hd⟩
        have HF : Hid (R = .inl k) := by
          show R = _
          rw [← HRL.out, rl, dif_pos hlt, if_neg (by rw [hnm]; decide)]
        clear HRL hnm
        generalize (Utf8.decode s k).2 = wd2 at *
        generalize pcR s k = pr at *
        go_wp2_with fail
        refine (HPK.out _).mono ?_
        rintro e w6 ⟨rfl, b6⟩
        have HX6 : Hid _ := bx_kept HXR.out b6
        clear b6 HXR
        go_wp2_with fail
        refine (HNR.out _ HX6.out.2.2).mono ?_
        rintro e w7 ⟨rfl, b7⟩
        have HX : Hid (Wx w7 w.heap.size zeroW ∧ Wx w7 (w.heap.size + 1) zeroW ∧ Below w.heap.size w w7) := bx_kept HX6.out b7
        clear b7 HX6 HNR HPK
        obtain ⟨q0, q1, q2, q3⟩ := HX.out.1.cells
        obtain ⟨r0, r1, r2, r3⟩ := HX.out.2.1.cells
        simp only [zeroW] at q0 q1 q2 q3 r0 r1 r2 r3
        have z0 := HX.out.1.frozen 0
        have z1 := HX.out.1.frozen 1
        have z2 := HX.out.1.frozen 2
        have z3 := HX.out.1.frozen 3
        have HEN : Hid (Wx (store4 w7 w.heap.size ⟨1, (i : Int), (s.extract i k), 0⟩) w.heap.size ⟨1, (i : Int), (s.extract i k), 0⟩ ∧ Below w.heap.size w (store4 w7 w.heap.size ⟨1, (i : Int), (s.extract i k), 0⟩)) := ⟨HX.out.1.store _, store4_below HX.out.2.2 (Nat.le_refl _) _⟩
        clear HX
        go_wp2
        obtain ⟨WE, hWE⟩ : ∃ WE, WE = store4 w7 w.heap.size ⟨1, (i : Int), (s.extract i k), 0⟩ := ⟨_, rfl⟩
        rw [← hWE] at HEN
        have hWE2 : WE = ((((w7.setCell ⟨w.heap.size, 0, none⟩ (.int .i64 1)).setCell ⟨w.heap.size, 1, none⟩ (.int .i64 (i : Int))).setCell ⟨w.heap.size, 2, none⟩ (.string (s.extract i k))).setCell ⟨w.heap.size, 3, none⟩ (.int .i64 0)) := hWE
        rw [← hWE2]
        clear hWE hWE2 q0 q1 q2 q3 z0 z1 z2 z3 r0 r1 r2 r3
        obtain ⟨y0, y1, y2, y3⟩ := HEN.out.1.cells
        simp only at y0 y1 y2 y3
        (try simp only [Exit.inBlock, Exit.then])
        refine bodyPost_ret (by simp [results, Tryd.results32, go_sem, y0, y1, y2, y3]; try rfl) rfl ?_
        exact ⟨by rw [HF.out]; rfl, HEN.out.2⟩
    · obtain rfl : k = s.size := by omega
      have HF : Hid (R = .inl s.size) := by
        show R = _
        rw [← HRL.out, rl, dif_neg hlt]
      have HX : Hid (Wx wr w.heap.size zeroW ∧ Wx wr (w.heap.size + 1) zeroW ∧ Below w.heap.size w wr) := HXR.out
      clear HRL HXR
      obtain ⟨q0, q1, q2, q3⟩ := HX.out.1.cells
      obtain ⟨r0, r1, r2, r3⟩ := HX.out.2.1.cells
      simp only [zeroW] at q0 q1 q2 q3 r0 r1 r2 r3
      have z0 := HX.out.1.frozen 0
      have z1 := HX.out.1.frozen 1
      have z2 := HX.out.1.frozen 2
      have z3 := HX.out.1.frozen 3
      have HEN : Hid (Wx (store4 wr w.heap.size ⟨1, (i : Int), (s.extract i s.size), 0⟩) w.heap.size ⟨1, (i : Int), (s.extract i s.size), 0⟩ ∧ Below w.heap.size w (store4 wr w.heap.size ⟨1, (i : Int), (s.extract i s.size), 0⟩)) := ⟨HX.out.1.store _, store4_below HX.out.2.2 (Nat.le_refl _) _⟩
      clear HX
      go_wp2
      obtain ⟨WE, hWE⟩ : ∃ WE, WE = store4 wr w.heap.size ⟨1, (i : Int), (s.extract i s.size), 0⟩ := ⟨_, rfl⟩
      rw [← hWE] at HEN
      have hWE2 : WE = ((((wr.setCell ⟨w.heap.size, 0, none⟩ (.int .i64 1)).setCell ⟨w.heap.size, 1, none⟩ (.int .i64 (i : Int))).setCell ⟨w.heap.size, 2, none⟩ (.string (s.extract i s.size))).setCell ⟨w.heap.size, 3, none⟩ (.int .i64 0)) := hWE
      rw [← hWE2]
      clear hWE hWE2 q0 q1 q2 q3 z0 z1 z2 z3 r0 r1 r2 r3
      obtain ⟨y0, y1, y2, y3⟩ := HEN.out.1.cells
      simp only at y0 y1 y2 y3
      (try simp only [Exit.inBlock, Exit.then])
      refine bodyPost_ret (by simp [results, Tryd.results32, go_sem, y0, y1, y2, y3]; try rfl) rfl ?_
      exact ⟨by rw [HF.out]; rfl, HEN.out.2⟩
/-- the reference's word -/
theorem rword_any (s : ByteArray) (i : Nat) (w : World) (hi : i < s.size) (hs : s.size ≤ 200000) (hT : TabP 1 .i64 lets w) (hH : TabP 3 .i64 hids w) :
    Calls Tryd.prog 32 #[.string s, .int .i64 (i : Int)] w fun e w' => e = .returned (rans (wordP s i)) ∧ Below w.heap.size w w' := by
  by_cases h34 : at' s i = 34
  · exact rword_lit s i w hi hs hH h34
  cases hsg : sgn (at' s i) with
  | true => exact rword_sgn s i w hi hs hsg
  | false =>
    cases hnd : isD s i with
    | true => exact rword_dig s i w hi hs hnd
    | false =>
      by_cases h45 : at' s i = 45
      · cases h1 : isD s (i + 1) with
        | true => exact rword_min s i w hi hs h45 h1
        | false => exact rword_min0 s i w hi hs h45 h1 hT
      · cases hstr : stray s i with
        | true => exact rword_stray s i w hi hs h34 h45 hsg hnd hstr
        | false =>
          cases hl : among lets ((Utf8.decode s i).1 : Int) with
          | true => exact rword_name s i w hi hs hl hT
          | false => exact rword_odd s i w hi hs h34 h45 hsg hnd hstr hl hT
end Go.Proofs.YtneifdbcjicfgaaDoor
