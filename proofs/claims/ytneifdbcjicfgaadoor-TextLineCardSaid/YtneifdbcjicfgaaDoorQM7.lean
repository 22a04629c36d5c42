import Derived.Deep.CutRange
import Derived.Test.YtneifdbcjicfgaaDoorQM6
/-
  The reference: word, at a rune.
-/
namespace Go.Proofs.YtneifdbcjicfgaaDoor
open Go Go.RowKit
open Tx

theorem rune_dig (s : ByteArray) (i : Nat) (hi : i < s.size) (h : isD s i = false) : dig ((Utf8.decode s i).1 : Int) = false := by
  unfold isD at h
  rw [decide_eq_true hi, Bool.true_and] at h
  by_cases ha : at' s i < 128
  · rw [dec_asc s i ha]
    exact h
  · have h1 : ¬ (Utf8.decode s i).1 < 128 := fun h2 => ha (dec_small s i h2).1
    unfold dig
    rw [decide_eq_false (p := ((Utf8.decode s i).1 : Int) ≤ 57) (by omega), Bool.and_false]
theorem rune_eq (s : ByteArray) (i k : Nat) (hk : k < 128) (h : ¬ at' s i = k) : ¬ (Utf8.decode s i).1 = k := fun e => by
  have h9 := dec_small s i (by omega)
  rw [h9.2] at e
  exact h e
set_option maxRecDepth 100000 in
set_option maxHeartbeats 4000000 in
theorem rword_min0 (s : ByteArray) (i : Nat) (w : World) (hi : i < s.size) (hs : s.size ≤ 200000) (h45 : at' s i = 45) (h1 : isD s (i + 1) = false) (hT : TabP 1 .i64 lets w) :
    Calls Tryd.prog 32 #[.string s, .int .i64 (i : Int)] w fun e w' => e = .returned (rans (wordP s i)) ∧ Below w.heap.size w w' := by
  have hdec := dec_asc s i (by omega)
  rw [h45] at hdec
  have hl : among lets ((Utf8.decode s i).1 : Int) = false := by rw [hdec]; exact ascii_not_letter 45 (by omega)
  have hnd : isD s i = false := by
    unfold isD
    rw [h45]
    simp [dig]
  have hsg : sgn (at' s i) = false := by rw [h45]; decide
  have hstr : stray s i = false := by
    unfold stray
    rw [h45]
    rfl
  have HE : Hid (wordP s i = .inr (22, (i : Int))) := by
    show _ = _
    unfold wordP
    rw [if_neg (by rw [hl]; decide), if_pos (.inr (by rw [hdec]))]
    have hnf : nFrom s i = i + 1 := by
      unfold nFrom
      rw [hdec, if_pos rfl]
    rw [hnf, if_pos (isD_no (by omega) h1)]
  have HI0 : Hid (∀ w', Calls Tryd.prog 50 #[.string s, .int .i64 (i : Int)] w' fun e w'' => e = .returned (.bool false) ∧ w'' = w') := fun w' => by
    have h9 := isdig_any s i w'
    rw [hnd] at h9
    exact h9
  have HSG : Hid (∀ w', Calls Tryd.prog 33 #[.int .u8 (at' s i : Int)] w' fun e w'' => e = .returned (.bool false) ∧ w'' = w') := fun w' => by
    have h9 := rsign_any (at' s i) w'
    rw [hsg] at h9
    exact h9
  have HPC : Hid (∀ w', Calls Tryd.prog 34 #[.string s, .int .i64 (i : Int)] w' fun e w'' => e = .returned (.agg #[.int .i64 (pcR s i), .int .i64 (i : Int), .int .i64 ((Utf8.decode s i).2 : Int)]) ∧ Below w'.heap.size w' w'') := fun w' => piece_any s i w' (by omega) hi
  have hg : (s[i]'hi).toNat = at' s i := (at_get s i hi).symm
  have HX0 : Hid _ := bx_new w 24
  have HLT : Hid (∀ w', Below w.heap.size w w' → Calls Tryd.prog 42 #[.int .i64 ((Utf8.decode s i).1 : Int)] w' fun e w'' => e = .returned (.bool false) ∧ Below w'.heap.size w' w'') := fun w' hb => (rletter_any _ w' (hT.kept hb)).mono fun e w'' ⟨he, hd⟩ => ⟨by rw [he, hl], below_of_drewN hd⟩
  have HI1 : Hid (∀ w', Calls Tryd.prog 50 #[.string s, .int .i64 ((i : Int) + 1)] w' fun e w'' => e = .returned (.bool false) ∧ w'' = w') := fun w' => by
    have h9 := isdig_any s (i + 1) w'
    rw [h1] at h9
    exact h9
  have hpc : pcR s i = 45 := by
    unfold pcR
    rw [hstr, hdec]
    rfl
  rw [hpc] at HPC
  rw [h45] at HSG hg
  rw [hdec] at HPC HLT
  simp only at HPC HLT
  rw [HE.out]
  clear HE hdec hl hnd hsg hstr h45 h1 hT hpc
  obtain ⟨wd, hwd⟩ : ∃ wd : Nat, wd = 1 := ⟨_, rfl⟩
  rw [← hwd] at HPC
  clear hwd
  go_enter Tryd.func32, Tryd.ntmps32
  go_wp2_with fail
  refine (HSG.out _).mono ?_
  rintro e w1 ⟨rfl, rfl⟩
  generalize (w.alloc (.cells #[.int .i64 0, .int .i64 0, .string ⟨#[]⟩, .int .i64 0] 24)).alloc (.cells #[.int .i64 0, .int .i64 0, .string ⟨#[]⟩, .int .i64 0] 24) = w1 at *
  go_wp2_with fail
  refine (HI0.out _).mono ?_
  rintro e w2 ⟨rfl, rfl⟩
  go_wp2_with fail
  refine (HI1.out _).mono ?_
  rintro e w3 ⟨rfl, rfl⟩
  go_wp2_with fail
  refine (HPC.out _).mono ?_
  rintro e w4 ⟨rfl, b4⟩
  have HXQ : Hid (Wx w4 w.heap.size zeroW ∧ Wx w4 (w.heap.size + 1) zeroW ∧ Below w.heap.size w w4) := bx_kept HX0.out b4
  clear b4 HPC HX0
  go_upto_region 19 with fail
  obtain ⟨WP, hWP⟩ : ∃ WP, WP = w4.alloc (.cells #[.int .i64 45, .int .i64 (i : Int), .int .i64 (wd : Int)] 70) := ⟨_, rfl⟩
  have HXP : Hid (Wx WP w.heap.size zeroW ∧ Wx WP (w.heap.size + 1) zeroW ∧ Below w.heap.size w WP) := by
    rw [hWP]
    exact bx_kept HXQ.out (up0 _ _)
  have c0 : WP.cell? ⟨w4.heap.size, 0, none⟩ = some (.int .i64 45) := by
    rw [hWP, World.cell?_alloc_new]
    rfl
  rw [← hWP]
  clear hWP HXQ
  generalize w4.heap.size = gP at *
  go_wp2_with fail
  refine (HLT.out _ HXP.out.2.2).mono ?_
  rintro e w5 ⟨rfl, b5⟩
  have HX : Hid (Wx w5 w.heap.size zeroW ∧ Wx w5 (w.heap.size + 1) zeroW ∧ Below w.heap.size w w5) := bx_kept HXP.out b5
  clear b5 HLT HXP
  obtain ⟨q0, q1, q2, q3⟩ := HX.out.1.cells
  obtain ⟨r0, r1, r2, r3⟩ := HX.out.2.1.cells
  simp only [zeroW] at q0 q1 q2 q3 r0 r1 r2 r3
  have z0 := HX.out.1.frozen 0
  have z1 := HX.out.1.frozen 1
  have z2 := HX.out.1.frozen 2
  have z3 := HX.out.1.frozen 3
  have HEN : Hid (Wx (store4 w5 w.heap.size ⟨0, 0, ⟨#[]⟩, 0⟩) w.heap.size ⟨0, 0, ⟨#[]⟩, 0⟩ ∧ Below w.heap.size w (store4 w5 w.heap.size ⟨0, 0, ⟨#[]⟩, 0⟩)) := ⟨HX.out.1.store _, store4_below HX.out.2.2 (Nat.le_refl _) _⟩
  clear HX
  go_wp2
  obtain ⟨WE, hWE⟩ : ∃ WE, WE = store4 w5 w.heap.size ⟨0, 0, ⟨#[]⟩, 0⟩ := ⟨_, rfl⟩
  rw [← hWE] at HEN
  have hWE2 : WE = ((((w5.setCell ⟨w.heap.size, 0, none⟩ (.int .i64 0)).setCell ⟨w.heap.size, 1, none⟩ (.int .i64 0)).setCell ⟨w.heap.size, 2, none⟩ (.string ⟨#[]⟩)).setCell ⟨w.heap.size, 3, none⟩ (.int .i64 0)) := hWE
  rw [← hWE2]
  clear hWE hWE2 q0 q1 q2 q3 z0 z1 z2 z3 r0 r1 r2 r3
  obtain ⟨y0, y1, y2, y3⟩ := HEN.out.1.cells
  simp only at y0 y1 y2 y3
  (try simp only [Exit.inBlock, Exit.then])
  refine bodyPost_ret (by simp [results, Tryd.results32, go_sem, y0, y1, y2, y3]; try rfl) rfl ?_
  exact ⟨rfl, HEN.out.2⟩
set_option maxRecDepth 100000 in
set_option maxHeartbeats 4000000 in
theorem rword_stray (s : ByteArray) (i : Nat) (w : World) (hi : i < s.size) (hs : s.size ≤ 200000) (h34 : ¬ at' s i = 34) (h45 : ¬ at' s i = 45) (hsg : sgn (at' s i) = false) (hnd : isD s i = false) (hstr : stray s i = true) :
    Calls Tryd.prog 32 #[.string s, .int .i64 (i : Int)] w fun e w' => e = .returned (rans (wordP s i)) ∧ Below w.heap.size w w' := by
  have hnd' := rune_dig s i hi hnd
  have hr34 := rune_eq s i 34 (by omega) h34
  have hr45 := rune_eq s i 45 (by omega) h45
  have hrs : sgn (Utf8.decode s i).1 = false := by rw [(rune_blk s i).2.1]; exact hsg
  have hl : among lets ((Utf8.decode s i).1 : Int) = false := by rw [stray_rune s i hstr]; decide +kernel
  have HE : Hid (wordP s i = .inr (21, (i : Int))) := by
    show _ = _
    unfold wordP
    rw [if_neg (by rw [hl]; decide), if_neg (by rw [hnd']; intro h; rcases h with h | h; cases h; exact hr45 h), if_neg hr34, if_neg (by rw [hrs]; decide), if_pos hstr]
  have HI0 : Hid (∀ w', Calls Tryd.prog 50 #[.string s, .int .i64 (i : Int)] w' fun e w'' => e = .returned (.bool false) ∧ w'' = w') := fun w' => by
    have h9 := isdig_any s i w'
    rw [hnd] at h9
    exact h9
  have HSG : Hid (∀ w', Calls Tryd.prog 33 #[.int .u8 (at' s i : Int)] w' fun e w'' => e = .returned (.bool false) ∧ w'' = w') := fun w' => by
    have h9 := rsign_any (at' s i) w'
    rw [hsg] at h9
    exact h9
  have HPC : Hid (∀ w', Calls Tryd.prog 34 #[.string s, .int .i64 (i : Int)] w' fun e w'' => e = .returned (.agg #[.int .i64 (pcR s i), .int .i64 (i : Int), .int .i64 ((Utf8.decode s i).2 : Int)]) ∧ Below w'.heap.size w' w'') := fun w' => piece_any s i w' (by omega) hi
  have hg : (s[i]'hi).toNat = at' s i := (at_get s i hi).symm
  have HX0 : Hid _ := bx_new w 24
  have hb34 : ((at' s i : Int) == 34) = false := by simp; omega
  have hb45 : ((at' s i : Int) == 45) = false := by simp; omega
  have hpc : pcR s i = -1 := by
    unfold pcR
    rw [hstr]
    rfl
  rw [hpc] at HPC
  rw [HE.out]
  clear HE hl hnd hsg hstr h45 h34 hpc hnd' hr34 hr45 hrs
  generalize (Utf8.decode s i).2 = wd at *
  generalize at' s i = c at *
  go_enter Tryd.func32, Tryd.ntmps32
  go_wp2_with fail
  refine (HSG.out _).mono ?_
  rintro e w1 ⟨rfl, rfl⟩
  generalize (w.alloc (.cells #[.int .i64 0, .int .i64 0, .string ⟨#[]⟩, .int .i64 0] 24)).alloc (.cells #[.int .i64 0, .int .i64 0, .string ⟨#[]⟩, .int .i64 0] 24) = w1 at *
  go_wp2_with fail
  refine (HI0.out _).mono ?_
  rintro e w2 ⟨rfl, rfl⟩
  go_wp2_with fail
  refine (HPC.out _).mono ?_
  rintro e w4 ⟨rfl, b4⟩
  have HXQ : Hid (Wx w4 w.heap.size zeroW ∧ Wx w4 (w.heap.size + 1) zeroW ∧ Below w.heap.size w w4) := bx_kept HX0.out b4
  clear b4 HPC HX0
  go_upto_region 19 with fail
  obtain ⟨WP, hWP⟩ : ∃ WP, WP = w4.alloc (.cells #[.int .i64 (-1), .int .i64 (i : Int), .int .i64 (wd : Int)] 70) := ⟨_, rfl⟩
  have HXP : Hid (Wx WP w.heap.size zeroW ∧ Wx WP (w.heap.size + 1) zeroW ∧ Below w.heap.size w WP) := by
    rw [hWP]
    exact bx_kept HXQ.out (up0 _ _)
  have c0 : WP.cell? ⟨w4.heap.size, 0, none⟩ = some (.int .i64 (-1)) := by
    rw [hWP, World.cell?_alloc_new]
    rfl
  rw [← hWP]
  clear hWP HXQ
  generalize w4.heap.size = gP at *
  have HX : Hid _ := HXP.out
  clear HXP
  obtain ⟨q0, q1, q2, q3⟩ := HX.out.1.cells
  obtain ⟨r0, r1, r2, r3⟩ := HX.out.2.1.cells
  simp only [zeroW] at q0 q1 q2 q3 r0 r1 r2 r3
  have z0 := HX.out.1.frozen 0
  have z1 := HX.out.1.frozen 1
  have z2 := HX.out.1.frozen 2
  have z3 := HX.out.1.frozen 3
  have HEN : Hid (Wx (store4 WP w.heap.size ⟨0, 0, ⟨#[]⟩, 0⟩) w.heap.size ⟨0, 0, ⟨#[]⟩, 0⟩ ∧ Below w.heap.size w (store4 WP w.heap.size ⟨0, 0, ⟨#[]⟩, 0⟩)) := ⟨HX.out.1.store _, store4_below HX.out.2.2 (Nat.le_refl _) _⟩
  clear HX
  go_wp2
  obtain ⟨WE, hWE⟩ : ∃ WE, WE = store4 WP w.heap.size ⟨0, 0, ⟨#[]⟩, 0⟩ := ⟨_, rfl⟩
  rw [← hWE] at HEN
  have hWE2 : WE = ((((WP.setCell ⟨w.heap.size, 0, none⟩ (.int .i64 0)).setCell ⟨w.heap.size, 1, none⟩ (.int .i64 0)).setCell ⟨w.heap.size, 2, none⟩ (.string ⟨#[]⟩)).setCell ⟨w.heap.size, 3, none⟩ (.int .i64 0)) := hWE
  rw [← hWE2]
  clear hWE hWE2 q0 q1 q2 q3 z0 z1 z2 z3 r0 r1 r2 r3
  obtain ⟨y0, y1, y2, y3⟩ := HEN.out.1.cells
  simp only at y0 y1 y2 y3
  (try simp only [Exit.inBlock, Exit.then])
  refine bodyPost_ret (by simp [results, Tryd.results32, go_sem, y0, y1, y2, y3]; try rfl) rfl ?_
  exact ⟨rfl, HEN.out.2⟩
set_option maxRecDepth 100000 in
set_option maxHeartbeats 4000000 in
theorem rword_odd (s : ByteArray) (i : Nat) (w : World) (hi : i < s.size) (hs : s.size ≤ 200000) (h34 : ¬ at' s i = 34) (h45 : ¬ at' s i = 45) (hsg : sgn (at' s i) = false) (hnd : isD s i = false) (hstr : stray s i = false) (hl : among lets ((Utf8.decode s i).1 : Int) = false) (hT : TabP 1 .i64 lets w) :
    Calls Tryd.prog 32 #[.string s, .int .i64 (i : Int)] w fun e w' => e = .returned (rans (wordP s i)) ∧ Below w.heap.size w w' := by
  have hnd' := rune_dig s i hi hnd
  have hr34 := rune_eq s i 34 (by omega) h34
  have hr45 := rune_eq s i 45 (by omega) h45
  have hrs : sgn (Utf8.decode s i).1 = false := by rw [(rune_blk s i).2.1]; exact hsg
  have HE : Hid (wordP s i = .inr (22, (i : Int))) := by
    show _ = _
    unfold wordP
    rw [if_neg (by rw [hl]; decide), if_neg (by rw [hnd']; intro h; rcases h with h | h; cases h; exact hr45 h), if_neg hr34, if_neg (by rw [hrs]; decide), if_neg (by rw [hstr]; decide)]
  have HI0 : Hid (∀ w', Calls Tryd.prog 50 #[.string s, .int .i64 (i : Int)] w' fun e w'' => e = .returned (.bool false) ∧ w'' = w') := fun w' => by
    have h9 := isdig_any s i w'
    rw [hnd] at h9
    exact h9
  have HSG : Hid (∀ w', Calls Tryd.prog 33 #[.int .u8 (at' s i : Int)] w' fun e w'' => e = .returned (.bool false) ∧ w'' = w') := fun w' => by
    have h9 := rsign_any (at' s i) w'
    rw [hsg] at h9
    exact h9
  have HPC : Hid (∀ w', Calls Tryd.prog 34 #[.string s, .int .i64 (i : Int)] w' fun e w'' => e = .returned (.agg #[.int .i64 (pcR s i), .int .i64 (i : Int), .int .i64 ((Utf8.decode s i).2 : Int)]) ∧ Below w'.heap.size w' w'') := fun w' => piece_any s i w' (by omega) hi
  have hg : (s[i]'hi).toNat = at' s i := (at_get s i hi).symm
  have HX0 : Hid _ := bx_new w 24
  have HLT : Hid (∀ w', Below w.heap.size w w' → Calls Tryd.prog 42 #[.int .i64 ((Utf8.decode s i).1 : Int)] w' fun e w'' => e = .returned (.bool false) ∧ Below w'.heap.size w' w'') := fun w' hb => (rletter_any _ w' (hT.kept hb)).mono fun e w'' ⟨he, hd⟩ => ⟨by rw [he, hl], below_of_drewN hd⟩
  have hb34 : ((at' s i : Int) == 34) = false := by simp; omega
  have hb45 : ((at' s i : Int) == 45) = false := by simp; omega
  have hpc : pcR s i = ((Utf8.decode s i).1 : Int) := by
    unfold pcR
    rw [hstr]
    rfl
  rw [hpc] at HPC
  rw [HE.out]
  clear HE hl hnd hsg hstr h45 h34 hpc hnd' hr34 hr45 hrs hT
  generalize (Utf8.decode s i).2 = wd at *
  generalize (Utf8.decode s i).1 = r at *
  generalize at' s i = c at *
  go_enter Tryd.func32, Tryd.ntmps32
  go_wp2_with fail
  refine (HSG.out _).mono ?_
  rintro e w1 ⟨rfl, rfl⟩
  generalize (w.alloc (.cells #[.int .i64 0, .int .i64 0, .string ⟨#[]⟩, .int .i64 0] 24)).alloc (.cells #[.int .i64 0, .int .i64 0, .string ⟨#[]⟩, .int .i64 0] 24) = w1 at *
  go_wp2_with fail
  refine (HI0.out _).mono ?_
  rintro e w2 ⟨rfl, rfl⟩
  go_wp2_with fail
  refine (HPC.out _).mono ?_
  rintro e w4 ⟨rfl, b4⟩
  have HXQ : Hid (Wx w4 w.heap.size zeroW ∧ Wx w4 (w.heap.size + 1) zeroW ∧ Below w.heap.size w w4) := bx_kept HX0.out b4
  clear b4 HPC HX0
  go_upto_region 19 with fail
  obtain ⟨WP, hWP⟩ : ∃ WP, WP = w4.alloc (.cells #[.int .i64 (r : Int), .int .i64 (i : Int), .int .i64 (wd : Int)] 70) := ⟨_, rfl⟩
  have HXP : Hid (Wx WP w.heap.size zeroW ∧ Wx WP (w.heap.size + 1) zeroW ∧ Below w.heap.size w WP) := by
    rw [hWP]
    exact bx_kept HXQ.out (up0 _ _)
  have c0 : WP.cell? ⟨w4.heap.size, 0, none⟩ = some (.int .i64 (r : Int)) := by
    rw [hWP, World.cell?_alloc_new]
    rfl
  rw [← hWP]
  clear hWP HXQ
  generalize w4.heap.size = gP at *
  go_wp2_with fail
  refine (HLT.out _ HXP.out.2.2).mono ?_
  rintro e w5 ⟨rfl, b5⟩
  have HX : Hid (Wx w5 w.heap.size zeroW ∧ Wx w5 (w.heap.size + 1) zeroW ∧ Below w.heap.size w w5) := bx_kept HXP.out b5
  clear b5 HLT HXP
  obtain ⟨q0, q1, q2, q3⟩ := HX.out.1.cells
  obtain ⟨r0, r1, r2, r3⟩ := HX.out.2.1.cells
  simp only [zeroW] at q0 q1 q2 q3 r0 r1 r2 r3
  have z0 := HX.out.1.frozen 0
  have z1 := HX.out.1.frozen 1
  have z2 := HX.out.1.frozen 2
  have z3 := HX.out.1.frozen 3
  have HEN : Hid (Wx (store4 w5 w.heap.size ⟨0, 0, ⟨#[]⟩, 0⟩) w.heap.size ⟨0, 0, ⟨#[]⟩, 0⟩ ∧ Below w.heap.size w (store4 w5 w.heap.size ⟨0, 0, ⟨#[]⟩, 0⟩)) := ⟨HX.out.1.store _, store4_below HX.out.2.2 (Nat.le_refl _) _⟩
  clear HX
  go_wp2
  obtain ⟨WE, hWE⟩ : ∃ WE, WE = store4 w5 w.heap.size ⟨0, 0, ⟨#[]⟩, 0⟩ := ⟨_, rfl⟩
  rw [← hWE] at HEN
  have hWE2 : WE = ((((w5.setCell ⟨w.heap.size, 0, none⟩ (.int .i64 0)).setCell ⟨w.heap.size, 1, none⟩ (.int .i64 0)).setCell ⟨w.heap.size, 2, none⟩ (.string ⟨#[]⟩)).setCell ⟨w.heap.size, 3, none⟩ (.int .i64 0)) := hWE
  rw [← hWE2]
  clear hWE hWE2 q0 q1 q2 q3 z0 z1 z2 z3 r0 r1 r2 r3
  obtain ⟨y0, y1, y2, y3⟩ := HEN.out.1.cells
  simp only at y0 y1 y2 y3
  (try simp only [Exit.inBlock, Exit.then])
  refine bodyPost_ret (by simp [results, Tryd.results32, go_sem, y0, y1, y2, y3]; try rfl) rfl ?_
  exact ⟨rfl, HEN.out.2⟩
end Go.Proofs.YtneifdbcjicfgaaDoor
