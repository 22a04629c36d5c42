import Derived.Deep.CutRange
import Derived.Test.YtcnnpohnfoaceaaGreatDoorQN2
/-
  The reference: word, at a rune.
-/
namespace Go.Proofs.YtcnnpohnfoaceaaGreatDoor.Text
open Go Go.RowKit
open Tx

theorem rune_dig (s : ByteArray) (i : Nat) (hi : i < s.size) (h : isD s i = false) : dig ((Utf8.decode s i).1 : Int) = false := by
  unfold isD at h
  rw [decide_eq_true hi, Bool.true_and] at h
  by_cases ha : at' s i < 128
  · rw [dec_asc s i ha]
    exact h
  · have h1 : ¬ (Utf8.decode s i).1 < 128 := fun h2 => ha (dec_small s i h2).1
    unfold dig
    rw [decide_eq_false (p := ((Utf8.decode s i).1 : Int) ≤ 57) (by omega), Bool.and_false]
theorem rune_eq (s : ByteArray) (i k : Nat) (hk : k < 128) (h : ¬ at' s i = k) : ¬ (Utf8.decode s i).1 = k := fun e => by
  have h9 := dec_small s i (by omega)
  rw [h9.2] at e
  exact h e
set_option maxRecDepth 100000 in
set_option maxHeartbeats 4000000 in
theorem rword_min0 (s : ByteArray) (i : Nat) (w : World) (hi : i < s.size) (hs : s.size ≤ 200000) (h45 : at' s i = 45) (h1 : isD s (i + 1) = false) (hT : TabP 1 .i64 lets w) :
    Calls Tryz.prog 40 #[.string s, .int .i64 (i : Int)] w fun e w' => e = .returned (rans (wordP s i)) ∧ Below w.heap.size w w' := by
  have hdec := dec_asc s i (by omega)
  rw [h45] at hdec
  have hl : among lets ((Utf8.decode s i).1 : Int) = false := by rw [hdec]; exact ascii_not_letter 45 (by omega)
  have hnd : isD s i = false := by
    unfold isD
    rw [h45]
    simp [dig]
  have hsg : sgn (at' s i) = false := by rw [h45]; decide
  have hstr : stray s i = false := by
    unfold stray
    rw [h45]
    rfl
  have HE : Hid (wordP s i = .inr (22, (i : Int))) := by
    show _ = _
    unfold wordP
    rw [if_neg (by rw [hl]; decide), if_pos (.inr (by rw [hdec]))]
    have hnf : nFrom s i = i + 1 := by
      unfold nFrom
      rw [hdec, if_pos rfl]
    rw [hnf, if_pos (isD_no (by omega) h1)]
  have HI0 : Hid (∀ w', Calls Tryz.prog 66 #[.string s, .int .i64 (i : Int)] w' fun e w'' => e = .returned (.bool false) ∧ w'' = w') := fun w' => by
    have h9 := isdig_any s i w'
    rw [hnd] at h9
    exact h9
  have HSG : Hid (∀ w', Calls Tryz.prog 41 #[.int .u8 (at' s i : Int)] w' fun e w'' => e = .returned (.bool false) ∧ w'' = w') := fun w' => by
    have h9 := rsign_any (at' s i) w'
    rw [hsg] at h9
    exact h9
  have HPC : Hid (∀ w', Calls Tryz.prog 42 #[.string s, .int .i64 (i : Int)] w' fun e w'' => e = .returned (.agg #[.int .i64 (pcR s i), .int .i64 (i : Int), .int .i64 ((Utf8.decode s i).2 : Int)]) ∧ Below w'.heap.size w' w'') := fun w' => piece_any s i w' (by omega) hi
  have hg : (s[i]'hi).toNat = at' s i := (at_get s i hi).symm
  have HX0 : Hid _ := bx_new w 55
  have HLT : Hid (∀ w', Below w.heap.size w w' → Calls Tryz.prog 68 #[.int .i64 ((Utf8.decode s i).1 : Int)] w' fun e w'' => e = .returned (.bool false) ∧ Below w'.heap.size w' w'') := fun w' hb => (rletter_any _ w' (hT.kept hb)).mono fun e w'' ⟨he, hd⟩ => ⟨by rw [he, hl], below_of_drewN hd⟩
  have HI1 : Hid (∀ w', Calls Tryz.prog 66 #[.string s, .int .i64 ((i : Int) + 1)] w' fun e w'' => e = .returned (.bool false) ∧ w'' = w') := fun w' => by
    have h9 := isdig_any s (i + 1) w'
    rw [h1] at h9
    exact h9
  have hpc : pcR s i = 45 := by
    unfold pcR
    rw [hstr, hdec]
    rfl
  rw [hpc] at HPC
  rw [h45] at HSG hg
  rw [hdec] at HPC HLT
  simp only at HPC HLT
  rw [HE.out]
  clear HE hdec hl hnd hsg hstr h45 h1 hT hpc
  obtain ⟨wd, hwd⟩ : ∃ wd : Nat, wd = 1 := ⟨_, rfl⟩
  rw [← hwd] at HPC
  clear hwd
  go_enter Tryz.func40, Tryz.ntmps40
  go_wp2_with fail
  refine (HSG.out _).mono ?_
  rintro e w1 ⟨rfl, rfl⟩
  generalize (w.alloc (.cells #[.int .i64 0, .int .i64 0, .string ⟨#[]⟩, .int .i64 0] 55)).alloc (.cells #[.int .i64 0, .int .i64 0, .string ⟨#[]⟩, .int .i64 0] 55) = w1 at *
  go_wp2_with fail
  refine (HI0.out _).mono ?_
  rintro e w2 ⟨rfl, rfl⟩
  go_wp2_with fail
  refine (HI1.out _).mono ?_
  rintro e w3 ⟨rfl, rfl⟩
  go_wp2_with fail
  refine (HPC.out _).mono ?_
  rintro e w4 ⟨rfl, b4⟩
  have HXQ : Hid (Wx w4 w.heap.size zeroW ∧ Wx w4 (w.heap.size + 1) zeroW ∧ Below w.heap.size w w4) := bx_kept HX0.out b4
  clear b4 HPC HX0
  go_upto_region 19 with fail
  obtain ⟨WP, hWP⟩ : ∃ WP, WP = w4.alloc (.cells #[.int .i64 45, .int .i64 (i : Int), .int .i64 (wd : Int)] 84) := ⟨_, rfl⟩
  have HXP : Hid (Wx WP w.heap.size zeroW ∧ Wx WP (w.heap.size + 1) zeroW ∧ Below w.heap.size w WP) := by
    rw [hWP]
    exact bx_kept HXQ.out (up0 _ _)
  have c0 : WP.cell? ⟨w4.heap.size, 0, none⟩ = some (.int .i64 45) := by
    rw [hWP, World.cell?_alloc_new]
    rfl
  rw [← hWP]
  clear hWP HXQ
  generalize w4.heap.size = gP at *
  go_wp2_with fail
  refine (HLT.out _ HXP.out.2.2).mono ?_
  rintro e w5 ⟨rfl, b5⟩
  have HX : Hid (Wx w5 w.heap.size zeroW ∧ Wx w5 (w.heap.size + 1) zeroW ∧ Below w.heap.size w w5) := bx_kept HXP.out b5
  clear b5 HLT HXP
  obtain ⟨q0, q1, q2, q3⟩ := HX.out.1.cells
  obtain ⟨r0, r1, r2, r3⟩ := HX.out.2.1.cells
  simp only [zeroW] at q0 q1 q2 q3 r0 r1 r2 r3
  have z0 := HX.out.1.frozen 0
  have z1 := HX.out.1.frozen 1
  have z2 := HX.out.1.frozen 2
  have z3 := HX.out.1.frozen 3
  have HEN : Hid (Wx (store4 w5 w.heap.size ⟨0, 0, ⟨#[]⟩, 0⟩) w.heap.size ⟨0, 0, ⟨#[]⟩, 0⟩ ∧ Below w.heap.size w (store4 w5 w.heap.size ⟨0, 0, ⟨#[]⟩, 0⟩)) := ⟨HX.out.1.store _, store4_below HX.out.2.2 (Nat.le_refl _) _⟩
  clear HX
  go_wp2
  obtain ⟨WE, hWE⟩ : ∃ WE, WE = store4 w5 w.heap.size ⟨0, 0, ⟨#[]⟩, 0⟩ := ⟨_, rfl⟩
  rw [← hWE] at HEN
  have hWE2 : WE = ((((w5.setCell ⟨w.heap.size, 0, none⟩ (.int .i64 0)).setCell ⟨w.heap.size, 1, none⟩ (.int .i64 0)).setCell ⟨w.heap.size, 2, none⟩ (.string ⟨#[]⟩)).setCell ⟨w.heap.size, 3, none⟩ (.int .i64 0)) := hWE
  rw [← hWE2]
  clear hWE hWE2 q0 q1 q2 q3 z0 z1 z2 z3 r0 r1 r2 r3
  obtain ⟨y0, y1, y2, y3⟩ := HEN.out.1.cells
  simp only at y0 y1 y2 y3
  (try simp only [Exit.inBlock, Exit.then])
  refine bodyPost_ret (by simp [results, Tryz.results40, go_sem, y0, y1, y2, y3]; try rfl) rfl ?_
  exact ⟨rfl, HEN.out.2⟩
set_option maxRecDepth 100000 in
set_option maxHeartbeats 4000000 in
theorem rword_stray (s : ByteArray) (i : Nat) (w : World) (hi : i < s.size) (hs : s.size ≤ 200000) (h34 : ¬ at' s i = 34) (h45 : ¬ at' s i = 45) (hsg : sgn (at' s i) = false) (hnd : isD s i = false) (hstr : stray s i = true) :
    Calls Tryz.prog 40 #[.string s, .int .i64 (i : Int)] w fun e w' => e = .returned (rans (wordP s i)) ∧ Below w.heap.size w w' := by
  have hnd' := rune_dig s i hi hnd
  have hr34 := rune_eq s i 34 (by omega) h34
  have hr45 := rune_eq s i 45 (by omega) h45
  have hrs : sgn (Utf8.decode s i).1 = false := by rw [(rune_blk s i).2.1]; exact hsg
  have hl : among lets ((Utf8.decode s i).1 : Int) = false := by rw [stray_rune s i hstr]; decide +kernel
  have HE : Hid (wordP s i = .inr (21, (i : Int))) := by
    show _ = _
    unfold wordP
    rw [if_neg (by rw [hl]; decide), if_neg (by rw [hnd']; intro h; rcases h with h | h; cases h; exact hr45 h), if_neg hr34, if_neg (by rw [hrs]; decide), if_pos hstr]
  have HI0 : Hid (∀ w', Calls Tryz.prog 66 #[.string s, .int .i64 (i : Int)] w' fun e w'' => e = .returned (.bool false) ∧ w'' = w') := fun w' => by
    have h9 := isdig_any s i w'
    rw [hnd] at h9
    exact h9
  have HSG : Hid (∀ w', Calls Tryz.prog 41 #[.int .u8 (at' s i : Int)] w' fun e w'' => e = .returned (.bool false) ∧ w'' = w') := fun w' => by
    have h9 := rsign_any (at' s i) w'
    rw [hsg] at h9
    exact h9
  have HPC : Hid (∀ w', Calls Tryz.prog 42 #[.string s, .int .i64 (i : Int)] w' fun e w'' => e = .returned (.agg #[.int .i64 (pcR s i), .int .i64 (i : Int), .int .i64 ((Utf8.decode s i).2 : Int)]) ∧ Below w'.heap.size w' w'') := fun w' => piece_any s i w' (by omega) hi
  have hg : (s[i]'hi).toNat = at' s i := (at_get s i hi).symm
  have HX0 : Hid _ := bx_new w 55
  have hb34 : ((at' s i : Int) == 34) = false := by simp; omega
  have hb45 : ((at' s i : Int) == 45) = false := by simp; omega
  have hpc : pcR s i = -1 := by
    unfold pcR
    rw [hstr]
    rfl
  rw [hpc] at HPC
  rw [HE.out]
  clear HE hl hnd hsg hstr h45 h34 hpc hnd' hr34 hr45 hrs
  generalize (Utf8.decode s i).2 = wd at *
  generalize at' s i = c at *
  go_enter Tryz.func40, Tryz.ntmps40
  go_wp2_with fail
  refine (HSG.out _).mono ?_
  rintro e w1 ⟨rfl, rfl⟩
  generalize (w.alloc (.cells #[.int .i64 0, .int .i64 0, .string ⟨#[]⟩, .int .i64 0] 55)).alloc (.cells #[.int .i64 0, .int .i64 0, .string ⟨#[]⟩, .int .i64 0] 55) = w1 at *
  go_wp2_with fail
  refine (HI0.out _).mono ?_
  rintro e w2 ⟨rfl, rfl⟩
  go_wp2_with fail
  refine (HPC.out _).mono ?_
  rintro e w4 ⟨rfl, b4⟩
  have HXQ : Hid (Wx w4 w.heap.size zeroW ∧ Wx w4 (w.heap.size + 1) zeroW ∧ Below w.heap.size w w4) := bx_kept HX0.out b4
  clear b4 HPC HX0
  go_upto_region 19 with fail
  obtain ⟨WP, hWP⟩ : ∃ WP, WP = w4.alloc (.cells #[.int .i64 (-1), .int .i64 (i : Int), .int .i64 (wd : Int)] 84) := ⟨_, rfl⟩
  have HXP : Hid (Wx WP w.heap.size zeroW ∧ Wx WP (w.heap.size + 1) zeroW ∧ Below w.heap.size w WP) := by
    rw [hWP]
    exact bx_kept HXQ.out (up0 _ _)
  have c0 : WP.cell? ⟨w4.heap.size, 0, none⟩ = some (.int .i64 (-1)) := by
    rw [hWP, World.cell?_alloc_new]
    rfl
  rw [← hWP]
  clear hWP HXQ
  generalize w4.heap.size = gP at *
  have HX : Hid _ := HXP.out
  clear HXP
  obtain ⟨q0, q1, q2, q3⟩ := HX.out.1.cells
  obtain ⟨r0, r1, r2, r3⟩ := HX.out.2.1.cells
  simp only [zeroW] at q0 q1 q2 q3 r0 r1 r2 r3
  have z0 := HX.out.1.frozen 0
  have z1 := HX.out.1.frozen 1
  have z2 := HX.out.1.frozen 2
  have z3 := HX.out.1.frozen 3
  have HEN : Hid (Wx (store4 WP w.heap.size ⟨0, 0, ⟨#[]⟩, 0⟩) w.heap.size ⟨0, 0, ⟨#[]⟩, 0⟩ ∧ Below w.heap.size w (store4 WP w.heap.size ⟨0, 0, ⟨#[]⟩, 0⟩)) := ⟨HX.out.1.store _, store4_below HX.out.2.2 (Nat.le_refl _) _⟩
  clear HX
  go_wp2
  obtain ⟨WE, hWE⟩ : ∃ WE, WE = store4 WP w.heap.size ⟨0, 0, ⟨#[]⟩, 0⟩ := ⟨_, rfl⟩
  rw [← hWE] at HEN
  have hWE2 : WE = ((((WP.setCell ⟨w.heap.size, 0, none⟩ (.int .i64 0)).setCell ⟨w.heap.size, 1, none⟩ (.int .i64 0)).setCell ⟨w.heap.size, 2, none⟩ (.string ⟨#[]⟩)).setCell ⟨w.heap.size, 3, none⟩ (.int .i64 0)) := hWE
  rw [← hWE2]
  clear hWE hWE2 q0 q1 q2 q3 z0 z1 z2 z3 r0 r1 r2 r3
  obtain ⟨y0, y1, y2, y3⟩ := HEN.out.1.cells
  simp only at y0 y1 y2 y3
  (try simp only [Exit.inBlock, Exit.then])
  refine bodyPost_ret (by simp [results, Tryz.results40, go_sem, y0, y1, y2, y3]; try rfl) rfl ?_
  exact ⟨rfl, HEN.out.2⟩
set_option maxRecDepth 100000 in
set_option maxHeartbeats 4000000 in
theorem rword_odd (s : ByteArray) (i : Nat) (w : World) (hi : i < s.size) (hs : s.size ≤ 200000) (h34 : ¬ at' s i = 34) (h45 : ¬ at' s i = 45) (hsg : sgn (at' s i) = false) (hnd : isD s i = false) (hstr : stray s i = false) (hl : among lets ((Utf8.decode s i).1 : Int) = false) (hT : TabP 1 .i64 lets w) :
    Calls Tryz.prog 40 #[.string s, .int .i64 (i : Int)] w fun e w' => e = .returned (rans (wordP s i)) ∧ Below w.heap.size w w' := by
  have hnd' := rune_dig s i hi hnd
  have hr34 := rune_eq s i 34 (by omega) h34
  have hr45 := rune_eq s i 45 (by omega) h45
  have hrs : sgn (Utf8.decode s i).1 = false := by rw [(rune_blk s i).2.1]; exact hsg
  have HE : Hid (wordP s i = .inr (22, (i : Int))) := by
    show _ = _
    unfold wordP
    rw [if_neg (by rw [hl]; decide), if_neg (by rw [hnd']; intro h; rcases h with h | h; cases h; exact hr45 h), if_neg hr34, if_neg (by rw [hrs]; decide), if_neg (by rw [hstr]; decide)]
  have HI0 : Hid (∀ w', Calls Tryz.prog 66 #[.string s, .int .i64 (i : Int)] w' fun e w'' => e = .returned (.bool false) ∧ w'' = w') := fun w' => by
    have h9 := isdig_any s i w'
    rw [hnd] at h9
    exact h9
  have HSG : Hid (∀ w', Calls Tryz.prog 41 #[.int .u8 (at' s i : Int)] w' fun e w'' => e = .returned (.bool false) ∧ w'' = w') := fun w' => by
    have h9 := rsign_any (at' s i) w'
    rw [hsg] at h9
    exact h9
  have HPC : Hid (∀ w', Calls Tryz.prog 42 #[.string s, .int .i64 (i : Int)] w' fun e w'' => e = .returned (.agg #[.int .i64 (pcR s i), .int .i64 (i : Int), .int .i64 ((Utf8.decode s i).2 : Int)]) ∧ Below w'.heap.size w' w'') := fun w' => piece_any s i w' (by omega) hi
  have hg : (s[i]'hi).toNat = at' s i := (at_get s i hi).symm
  have HX0 : Hid _ := bx_new w 55
  have HLT : Hid (∀ w', Below w.heap.size w w' → Calls Tryz.prog 68 #[.int .i64 ((Utf8.decode s i).1 : Int)] w' fun e w'' => e = .returned (.bool false) ∧ Below w'.heap.size w' w'') := fun w' hb => (rletter_any _ w' (hT.kept hb)).mono fun e w'' ⟨he, hd⟩ => ⟨by rw [he, hl], below_of_drewN hd⟩
  have hb34 : ((at' s i : Int) == 34) = false := by simp; omega
  have hb45 : ((at' s i : Int) == 45) = false := by simp; omega
  have hpc : pcR s i = ((Utf8.decode s i).1 : Int) := by
    unfold pcR
    rw [hstr]
    rfl
  rw [hpc] at HPC
  rw [HE.out]
  clear HE hl hnd hsg hstr h45 h34 hpc hnd' hr34 hr45 hrs hT
  generalize (Utf8.decode s i).2 = wd at *
  generalize (Utf8.decode s i).1 = r at *
  generalize at' s i = c at *
  go_enter Tryz.func40, Tryz.ntmps40
  go_wp2_with fail
  refine (HSG.out _).mono ?_
  rintro e w1 ⟨rfl, rfl⟩
  generalize (w.alloc (.cells #[.int .i64 0, .int .i64 0, .string ⟨#[]⟩, .int .i64 0] 55)).alloc (.cells #[.int .i64 0, .int .i64 0, .string ⟨#[]⟩, .int .i64 0] 55) = w1 at *
  go_wp2_with fail
  refine (HI0.out _).mono ?_
  rintro e w2 ⟨rfl, rfl⟩
  go_wp2_with fail
  refine (HPC.out _).mono ?_
  rintro e w4 ⟨rfl, b4⟩
  have HXQ : Hid (Wx w4 w.heap.size zeroW ∧ Wx w4 (w.heap.size + 1) zeroW ∧ Below w.heap.size w w4) := bx_kept HX0.out b4
  clear b4 HPC HX0
  go_upto_region 19 with fail
  obtain ⟨WP, hWP⟩ : ∃ WP, WP = w4.alloc (.cells #[.int .i64 (r : Int), .int .i64 (i : Int), .int .i64 (wd : Int)] 84) := ⟨_, rfl⟩
  have HXP : Hid (Wx WP w.heap.size zeroW ∧ Wx WP (w.heap.size + 1) zeroW ∧ Below w.heap.size w WP) := by
    rw [hWP]
    exact bx_kept HXQ.out (up0 _ _)
  have c0 : WP.cell? ⟨w4.heap.size, 0, none⟩ = some (.int .i64 (r : Int)) := by
    rw [hWP, World.cell?_alloc_new]
    rfl
  rw [← hWP]
  clear hWP HXQ
  generalize w4.heap.size = gP at *
  go_wp2_with fail
  refine (HLT.out _ HXP.out.2.2).mono ?_
  rintro e w5 ⟨rfl, b5⟩
  have HX : Hid (Wx w5 w.heap.size zeroW ∧ Wx w5 (w.heap.size + 1) zeroW ∧ Below w.heap.size w w5) := bx_kept HXP.out b5
  clear b5 HLT HXP
  obtain ⟨q0, q1, q2, q3⟩ := HX.out.1.cells
  obtain ⟨r0, r1, r2, r3⟩ := HX.out.2.1.cells
  simp only [zeroW] at q0 q1 q2 q3 r0 r1 r2 r3
  have z0 := HX.out.1.frozen 0
  have z1 := HX.out.1.frozen 1
  have z2 := HX.out.1.frozen 2
  have z3 := HX.out.1.frozen 3
  have HEN : Hid (Wx (store4 w5 w.heap.size ⟨0, 0, ⟨#[]⟩, 0⟩) w.heap.size ⟨0, 0, ⟨#[]⟩, 0⟩ ∧ Below w.heap.size w (store4 w5 w.heap.size ⟨0, 0, ⟨#[]⟩, 0⟩)) := ⟨HX.out.1.store _, store4_below HX.out.2.2 (Nat.le_refl _) _⟩
  clear HX
  go_wp2
  obtain ⟨WE, hWE⟩ : ∃ WE, WE = store4 w5 w.heap.size ⟨0, 0, ⟨#[]⟩, 0⟩ := ⟨_, rfl⟩
  rw [← hWE] at HEN
  have hWE2 : WE = ((((w5.setCell ⟨w.heap.size, 0, none⟩ (.int .i64 0)).setCell ⟨w.heap.size, 1, none⟩ (.int .i64 0)).setCell ⟨w.heap.size, 2, none⟩ (.string ⟨#[]⟩)).setCell ⟨w.heap.size, 3, none⟩ (.int .i64 0)) := hWE
  rw [← hWE2]
  clear hWE hWE2 q0 q1 q2 q3 z0 z1 z2 z3 r0 r1 r2 r3
  obtain ⟨y0, y1, y2, y3⟩ := HEN.out.1.cells
  simp only at y0 y1 y2 y3
  (try simp only [Exit.inBlock, Exit.then])
  refine bodyPost_ret (by simp [results, Tryz.results40, go_sem, y0, y1, y2, y3]; try rfl) rfl ?_
  exact ⟨rfl, HEN.out.2⟩
end Go.Proofs.YtcnnpohnfoaceaaGreatDoor.Text

/-
  The reference: word.
-/
namespace Go.Proofs.YtcnnpohnfoaceaaGreatDoor.Text
open Go Go.RowKit
open Tx

theorem letter_low : ∀ c : Nat, c < 128 → among lets (c : Int) = true → c ≠ 34 ∧ c ≠ 45 ∧ sgn c = false ∧ dig (c : Int) = false := by decide +kernel
theorem letter_facts (s : ByteArray) (i : Nat) (hl : among lets ((Utf8.decode s i).1 : Int) = true) : ¬ at' s i = 34 ∧ ¬ at' s i = 45 ∧ sgn (at' s i) = false ∧ isD s i = false ∧ stray s i = false := by
  have hst : stray s i = false := by
    cases h : stray s i with
    | false => rfl
    | true =>
      rw [stray_rune s i h] at hl
      exact absurd hl (by decide +kernel)
  by_cases ha : at' s i < 128
  · rw [dec_asc s i ha] at hl
    obtain ⟨h1, h2, h3, h4⟩ := letter_low _ ha hl
    refine ⟨h1, h2, h3, ?_, hst⟩
    unfold isD
    rw [h4, Bool.and_false]
  · refine ⟨by omega, by omega, ?_, ?_, hst⟩
    · cases h9 : sgn (at' s i) with
      | false => rfl
      | true => exact absurd (sgn_lt h9).1 ha
    · unfold isD dig
      rw [decide_eq_false (p := ((at' s i : Nat) : Int) ≤ 57) (by omega), Bool.and_false, Bool.and_false]
theorem pc_field0 (a b c : Value) (w : World) : (Instr.field 84 (.agg #[a, b, c]) 0).run Tryz.prog w = .ok a w := by kernel_rfl
theorem pc_field2 (a b c : Value) (w : World) : (Instr.field 84 (.agg #[a, b, c]) 2).run Tryz.prog w = .ok c w := by kernel_rfl
/-- the word of a letter, where the loop over the runes ends -/
def Tx.rlW (s : ByteArray) (i : Nat) (R : Nat ⊕ Nat) : (Wd × Nat) ⊕ (Int × Int) := match R with
  | .inl E => .inl (⟨1, (i : Int), s.extract i E, 0⟩, E)
  | .inr q => .inr (23, (q : Int))
theorem nm_pc (s : ByteArray) (k : Nat) : nmR (pcR s k) = nmR ((Utf8.decode s k).1 : Int) := by
  cases h : stray s k with
  | true =>
    unfold pcR
    rw [h, stray_rune s k h]
    decide +kernel
  | false =>
    unfold pcR
    rw [h]
    rfl
set_option maxRecDepth 100000 in
set_option maxHeartbeats 4000000 in
theorem rword_name (s : ByteArray) (i : Nat) (w : World) (hi : i < s.size) (hs : s.size ≤ 200000) (hl : among lets ((Utf8.decode s i).1 : Int) = true) (hT : TabP 1 .i64 lets w) :
    Calls Tryz.prog 40 #[.string s, .int .i64 (i : Int)] w fun e w' => e = .returned (rans (wordP s i)) ∧ Below w.heap.size w w' := by
  obtain ⟨h34, h45, hsg, hnd, hstr⟩ := letter_facts s i hl
  have HI0 : Hid (∀ w', Calls Tryz.prog 66 #[.string s, .int .i64 (i : Int)] w' fun e w'' => e = .returned (.bool false) ∧ w'' = w') := fun w' => by
    have h9 := isdig_any s i w'
    rw [hnd] at h9
    exact h9
  have HSG : Hid (∀ w', Calls Tryz.prog 41 #[.int .u8 (at' s i : Int)] w' fun e w'' => e = .returned (.bool false) ∧ w'' = w') := fun w' => by
    have h9 := rsign_any (at' s i) w'
    rw [hsg] at h9
    exact h9
  have HPC : Hid (∀ w', Calls Tryz.prog 42 #[.string s, .int .i64 (i : Int)] w' fun e w'' => e = .returned (.agg #[.int .i64 (pcR s i), .int .i64 (i : Int), .int .i64 ((Utf8.decode s i).2 : Int)]) ∧ Below w'.heap.size w' w'') := fun w' => piece_any s i w' (by omega) hi
  have hg : (s[i]'hi).toNat = at' s i := (at_get s i hi).symm
  have HX0 : Hid _ := bx_new w 55
  have HLT : Hid (∀ w', Below w.heap.size w w' → Calls Tryz.prog 68 #[.int .i64 ((Utf8.decode s i).1 : Int)] w' fun e w'' => e = .returned (.bool true) ∧ Below w'.heap.size w' w'') := fun w' hb => (rletter_any _ w' (hT.kept hb)).mono fun e w'' ⟨he, hd⟩ => ⟨by rw [he, hl], below_of_drewN hd⟩
  have HTB : Hid (∀ w', Below w.heap.size w w' → TabP 1 .i64 lets w') := fun w' hb => hT.kept hb
  have hb34 : ((at' s i : Int) == 34) = false := by simp; omega
  have hb45 : ((at' s i : Int) == 45) = false := by simp; omega
  have hpc : pcR s i = ((Utf8.decode s i).1 : Int) := by
    unfold pcR
    rw [hstr]
    rfl
  rw [hpc] at HPC
  have hwl : wordP s i = rlW s i (rl s 0 i) := word_letter s i hi hl
  rw [hwl]
  clear hwl
  have hf0 := pc_field0
  have hf2 := pc_field2
  obtain ⟨R, hR⟩ : ∃ R, rl s 0 i = R := ⟨_, rfl⟩
  rw [hR]
  have HR : Hid (rl s 0 i = R) := hR
  clear hR hl hnd hsg hstr h45 h34 hpc hT
  generalize (Utf8.decode s i).2 = wd at *
  generalize (Utf8.decode s i).1 = r at *
  generalize at' s i = c at *
  go_enter Tryz.func40, Tryz.ntmps40
  go_wp2_with fail
  refine (HSG.out _).mono ?_
  rintro e w1 ⟨rfl, rfl⟩
  generalize (w.alloc (.cells #[.int .i64 0, .int .i64 0, .string ⟨#[]⟩, .int .i64 0] 55)).alloc (.cells #[.int .i64 0, .int .i64 0, .string ⟨#[]⟩, .int .i64 0] 55) = w1 at *
  go_wp2_with fail
  refine (HI0.out _).mono ?_
  rintro e w2 ⟨rfl, rfl⟩
  go_wp2_with fail
  refine (HPC.out _).mono ?_
  rintro e w4 ⟨rfl, b4⟩
  have HXQ : Hid (Wx w4 w.heap.size zeroW ∧ Wx w4 (w.heap.size + 1) zeroW ∧ Below w.heap.size w w4) := bx_kept HX0.out b4
  clear b4 HPC HX0
  go_upto_region 19 with fail
  obtain ⟨WP, hWP⟩ : ∃ WP, WP = w4.alloc (.cells #[.int .i64 (r : Int), .int .i64 (i : Int), .int .i64 (wd : Int)] 84) := ⟨_, rfl⟩
  have HXP : Hid (Wx WP w.heap.size zeroW ∧ Wx WP (w.heap.size + 1) zeroW ∧ Below w.heap.size w WP) := by
    rw [hWP]
    exact bx_kept HXQ.out (up0 _ _)
  have c0 : WP.cell? ⟨w4.heap.size, 0, none⟩ = some (.int .i64 (r : Int)) := by
    rw [hWP, World.cell?_alloc_new]
    rfl
  rw [← hWP]
  clear hWP HXQ
  generalize w4.heap.size = gP at *
  go_wp2_with fail
  refine (HLT.out _ HXP.out.2.2).mono ?_
  rintro e w5 ⟨rfl, b5⟩
  have HX5 : Hid (Wx w5 w.heap.size zeroW ∧ Wx w5 (w.heap.size + 1) zeroW ∧ Below w.heap.size w w5) := bx_kept HXP.out b5
  clear b5 HLT HXP c0
  go_wp2
  go_loopw [17, 18] (fun vk vn wr => ∃ k n : Nat, vk = .int .i64 (k : Int) ∧ vn = .int .i64 (n : Int) ∧ i ≤ k ∧ k ≤ s.size ∧ n ≤ 48 ∧ rl s n k = R ∧ (Wx wr w.heap.size zeroW ∧ Wx wr (w.heap.size + 1) zeroW ∧ Below w.heap.size w wr)) (fun vk _ _ => s.size - (intOf vk).toNat)
  case atStart => exact ⟨i, 0, rfl, rfl, Nat.le_refl _, by omega, by omega, HR.out, HX5.out⟩
  case round =>
    obtain ⟨k, n, rfl, rfl, hik, hks, hn, hrl, hbx⟩ := hrel
    have HRL : Hid (rl s n k = R) := hrl
    have HXR : Hid (Wx wr w.heap.size zeroW ∧ Wx wr (w.heap.size + 1) zeroW ∧ Below w.heap.size w wr) := hbx
    clear hrl hbx HX5 HR
    by_cases hlt : k < s.size
    · have hd := decode_fits s k hlt
      have HPK : Hid (∀ w', Calls Tryz.prog 42 #[.string s, .int .i64 (k : Int)] w' fun e w'' => e = .returned (.agg #[.int .i64 (pcR s k), .int .i64 (k : Int), .int .i64 ((Utf8.decode s k).2 : Int)]) ∧ Below w'.heap.size w' w'') := fun w' => piece_any s k w' (by omega) hlt
      cases hnm : nmR ((Utf8.decode s k).1 : Int) with
      | true =>
        have HNR : Hid (∀ w', Below w.heap.size w w' → Calls Tryz.prog 69 #[.int .i64 (pcR s k)] w' fun e w'' => e = .returned (.bool true) ∧ Below w'.heap.size w' w'') := fun w' hb => (rnamer_any _ w' (HTB.out _ hb)).mono fun e w'' ⟨he, hd⟩ => ⟨by rw [he, nm_pc, hnm], below_of_drewN hd⟩
        by_cases h48 : n = 48
        · subst h48
          have HF : Hid (R = .inr k) := by
            show R = _
            rw [← HRL.out, rl, dif_pos hlt, if_pos hnm, if_pos rfl]
          clear HRL hnm
          generalize (Utf8.decode s k).2 = wd2 at *
          generalize pcR s k = pr at *
          go_wp2_with fail
          refine (HPK.out _).mono ?_
          rintro e w6 ⟨rfl, b6⟩
          have HX6 : Hid _ := bx_kept HXR.out b6
          clear b6 HXR
          go_wp2_with fail
          refine (HNR.out _ HX6.out.2.2).mono ?_
          rintro e w7 ⟨rfl, b7⟩
          have HX : Hid (Wx w7 w.heap.size zeroW ∧ Wx w7 (w.heap.size + 1) zeroW ∧ Below w.heap.size w w7) := bx_kept HX6.out b7
          clear b7 HX6 HNR HPK
          obtain ⟨q0, q1, q2, q3⟩ := HX.out.1.cells
          obtain ⟨r0, r1, r2, r3⟩ := HX.out.2.1.cells
          simp only [zeroW] at q0 q1 q2 q3 r0 r1 r2 r3
          have z0 := HX.out.1.frozen 0
          have z1 := HX.out.1.frozen 1
          have z2 := HX.out.1.frozen 2
          have z3 := HX.out.1.frozen 3
          have HEN : Hid (Wx (store4 w7 w.heap.size ⟨0, 0, ⟨#[]⟩, 0⟩) w.heap.size ⟨0, 0, ⟨#[]⟩, 0⟩ ∧ Below w.heap.size w (store4 w7 w.heap.size ⟨0, 0, ⟨#[]⟩, 0⟩)) := ⟨HX.out.1.store _, store4_below HX.out.2.2 (Nat.le_refl _) _⟩
          clear HX
          go_wp2
          obtain ⟨WE, hWE⟩ : ∃ WE, WE = store4 w7 w.heap.size ⟨0, 0, ⟨#[]⟩, 0⟩ := ⟨_, rfl⟩
          rw [← hWE] at HEN
          have hWE2 : WE = ((((w7.setCell ⟨w.heap.size, 0, none⟩ (.int .i64 0)).setCell ⟨w.heap.size, 1, none⟩ (.int .i64 0)).setCell ⟨w.heap.size, 2, none⟩ (.string ⟨#[]⟩)).setCell ⟨w.heap.size, 3, none⟩ (.int .i64 0)) := hWE
          rw [← hWE2]
          clear hWE hWE2 q0 q1 q2 q3 z0 z1 z2 z3 r0 r1 r2 r3
          obtain ⟨y0, y1, y2, y3⟩ := HEN.out.1.cells
          simp only at y0 y1 y2 y3
          (try simp only [Exit.inBlock, Exit.then])
          refine bodyPost_ret (by simp [results, Tryz.results40, go_sem, y0, y1, y2, y3]; try rfl) rfl ?_
          exact ⟨by rw [HF.out]; rfl, HEN.out.2⟩
        · have HF : Hid (rl s (n + 1) (k + (Utf8.decode s k).2) = R) := by
            show _ = R
            rw [← HRL.out]
            conv => rhs; rw [rl, dif_pos hlt, if_pos hnm, if_neg h48]
          have b48 : ((n : Int) == 48) = false := by simp; omega
          clear HRL hnm
          generalize (Utf8.decode s k).2 = wd2 at *
          generalize pcR s k = pr at *
          go_wp2_with fail
          refine (HPK.out _).mono ?_
          rintro e w6 ⟨rfl, b6⟩
          have HX6 : Hid _ := bx_kept HXR.out b6
          clear b6 HXR
          go_wp2_with fail
          refine (HNR.out _ HX6.out.2.2).mono ?_
          rintro e w7 ⟨rfl, b7⟩
          have HX7 : Hid (Wx w7 w.heap.size zeroW ∧ Wx w7 (w.heap.size + 1) zeroW ∧ Below w.heap.size w w7) := bx_kept HX6.out b7
          clear b7 HX6 HNR
          go_wp2_with fail
          refine (HPK.out _).mono ?_
          rintro e w8 ⟨rfl, b8⟩
          have HX8 : Hid (Wx w8 w.heap.size zeroW ∧ Wx w8 (w.heap.size + 1) zeroW ∧ Below w.heap.size w w8) := bx_kept HX7.out b8
          clear b8 HX7 HPK
          go_wp2
          go_roundw
          case rel => exact ⟨k + wd2, n + 1, by go_num, by go_num, by omega, by omega, by omega, HF.out, HX8.out⟩
          case measure => simp [intOf]; omega
      | false =>
        have HNR : Hid (∀ w', Below w.heap.size w w' → Calls Tryz.prog 69 #[.int .i64 (pcR s k)] w' fun e w'' => e = .returned (.bool false) ∧ Below w'.heap.size w' w'') := fun w' hb => (rnamer_any _ w' (HTB.out _ hb)).mono fun e w'' ⟨he, hd⟩ => ⟨by rw [he, nm_pc, hnm], below_of_drewN hd⟩
        have HF : Hid (R = .inl k) := by
          show R = _
          rw [← HRL.out, rl, dif_pos hlt, if_neg (by rw [hnm]; decide)]
        clear HRL hnm
        generalize (Utf8.decode s k).2 = wd2 at *
        generalize pcR s k = pr at *
        go_wp2_with fail
        refine (HPK.out _).mono ?_
        rintro e w6 ⟨rfl, b6⟩
        have HX6 : Hid _ := bx_kept HXR.out b6
        clear b6 HXR
        go_wp2_with fail
        refine (HNR.out _ HX6.out.2.2).mono ?_
        rintro e w7 ⟨rfl, b7⟩
        have HX : Hid (Wx w7 w.heap.size zeroW ∧ Wx w7 (w.heap.size + 1) zeroW ∧ Below w.heap.size w w7) := bx_kept HX6.out b7
        clear b7 HX6 HNR HPK
        obtain ⟨q0, q1, q2, q3⟩ := HX.out.1.cells
        obtain ⟨r0, r1, r2, r3⟩ := HX.out.2.1.cells
        simp only [zeroW] at q0 q1 q2 q3 r0 r1 r2 r3
        have z0 := HX.out.1.frozen 0
        have z1 := HX.out.1.frozen 1
        have z2 := HX.out.1.frozen 2
        have z3 := HX.out.1.frozen 3
        have HEN : Hid (Wx (store4 w7 w.heap.size ⟨1, (i : Int), (s.extract i k), 0⟩) w.heap.size ⟨1, (i : Int), (s.extract i k), 0⟩ ∧ Below w.heap.size w (store4 w7 w.heap.size ⟨1, (i : Int), (s.extract i k), 0⟩)) := ⟨HX.out.1.store _, store4_below HX.out.2.2 (Nat.le_refl _) _⟩
        clear HX
        go_wp2
        obtain ⟨WE, hWE⟩ : ∃ WE, WE = store4 w7 w.heap.size ⟨1, (i : Int), (s.extract i k), 0⟩ := ⟨_, rfl⟩
        rw [← hWE] at HEN
        have hWE2 : WE = ((((w7.setCell ⟨w.heap.size, 0, none⟩ (.int .i64 1)).setCell ⟨w.heap.size, 1, none⟩ (.int .i64 (i : Int))).setCell ⟨w.heap.size, 2, none⟩ (.string (s.extract i k))).setCell ⟨w.heap.size, 3, none⟩ (.int .i64 0)) := hWE
        rw [← hWE2]
        clear hWE hWE2 q0 q1 q2 q3 z0 z1 z2 z3 r0 r1 r2 r3
        obtain ⟨y0, y1, y2, y3⟩ := HEN.out.1.cells
        simp only at y0 y1 y2 y3
        (try simp only [Exit.inBlock, Exit.then])
        refine bodyPost_ret (by simp [results, Tryz.results40, go_sem, y0, y1, y2, y3]; try rfl) rfl ?_
        exact ⟨by rw [HF.out]; rfl, HEN.out.2⟩
    · obtain rfl : k = s.size := by omega
      have HF : Hid (R = .inl s.size) := by
        show R = _
        rw [← HRL.out, rl, dif_neg hlt]
      have HX : Hid (Wx wr w.heap.size zeroW ∧ Wx wr (w.heap.size + 1) zeroW ∧ Below w.heap.size w wr) := HXR.out
      clear HRL HXR
      obtain ⟨q0, q1, q2, q3⟩ := HX.out.1.cells
      obtain ⟨r0, r1, r2, r3⟩ := HX.out.2.1.cells
      simp only [zeroW] at q0 q1 q2 q3 r0 r1 r2 r3
      have z0 := HX.out.1.frozen 0
      have z1 := HX.out.1.frozen 1
      have z2 := HX.out.1.frozen 2
      have z3 := HX.out.1.frozen 3
      have HEN : Hid (Wx (store4 wr w.heap.size ⟨1, (i : Int), (s.extract i s.size), 0⟩) w.heap.size ⟨1, (i : Int), (s.extract i s.size), 0⟩ ∧ Below w.heap.size w (store4 wr w.heap.size ⟨1, (i : Int), (s.extract i s.size), 0⟩)) := ⟨HX.out.1.store _, store4_below HX.out.2.2 (Nat.le_refl _) _⟩
      clear HX
      go_wp2
      obtain ⟨WE, hWE⟩ : ∃ WE, WE = store4 wr w.heap.size ⟨1, (i : Int), (s.extract i s.size), 0⟩ := ⟨_, rfl⟩
      rw [← hWE] at HEN
      have hWE2 : WE = ((((wr.setCell ⟨w.heap.size, 0, none⟩ (.int .i64 1)).setCell ⟨w.heap.size, 1, none⟩ (.int .i64 (i : Int))).setCell ⟨w.heap.size, 2, none⟩ (.string (s.extract i s.size))).setCell ⟨w.heap.size, 3, none⟩ (.int .i64 0)) := hWE
      rw [← hWE2]
      clear hWE hWE2 q0 q1 q2 q3 z0 z1 z2 z3 r0 r1 r2 r3
      obtain ⟨y0, y1, y2, y3⟩ := HEN.out.1.cells
      simp only at y0 y1 y2 y3
      (try simp only [Exit.inBlock, Exit.then])
      refine bodyPost_ret (by simp [results, Tryz.results40, go_sem, y0, y1, y2, y3]; try rfl) rfl ?_
      exact ⟨by rw [HF.out]; rfl, HEN.out.2⟩
/-- the reference's word -/
theorem rword_any (s : ByteArray) (i : Nat) (w : World) (hi : i < s.size) (hs : s.size ≤ 200000) (hT : TabP 1 .i64 lets w) (hH : TabP 2 .i64 hids w) :
    Calls Tryz.prog 40 #[.string s, .int .i64 (i : Int)] w fun e w' => e = .returned (rans (wordP s i)) ∧ Below w.heap.size w w' := by
  by_cases h34 : at' s i = 34
  · exact rword_lit s i w hi hs hH h34
  cases hsg : sgn (at' s i) with
  | true => exact rword_sgn s i w hi hs hsg
  | false =>
    cases hnd : isD s i with
    | true => exact rword_dig s i w hi hs hnd
    | false =>
      by_cases h45 : at' s i = 45
      · cases h1 : isD s (i + 1) with
        | true => exact rword_min s i w hi hs h45 h1
        | false => exact rword_min0 s i w hi hs h45 h1 hT
      · cases hstr : stray s i with
        | true => exact rword_stray s i w hi hs h34 h45 hsg hnd hstr
        | false =>
          cases hl : among lets ((Utf8.decode s i).1 : Int) with
          | true => exact rword_name s i w hi hs hl hT
          | false => exact rword_odd s i w hi hs h34 h45 hsg hnd hstr hl hT
end Go.Proofs.YtcnnpohnfoaceaaGreatDoor.Text

/-
  The reference: Words.
-/
namespace Go.Proofs.YtcnnpohnfoaceaaGreatDoor.Text
open Go Go.RowKit
open Tx

set_option maxRecDepth 100000 in
set_option maxHeartbeats 8000000 in
theorem rwords_any (s : ByteArray) (w : World) (hT : TabP 1 .i64 lets w) (hH : TabP 2 .i64 hids w) :
    Calls Tryz.prog 18 #[.string s] w fun e w' => ∃ v, e = .returned (.tuple #[v, .int .i64 (wdA s).2.1, .int .i64 (wdA s).2.2]) ∧ WdR w.heap.size w' v (wdA s).1 ∧ Below w.heap.size w w' := by
  by_cases h6 : 65536 < s.size
  · have HA : Hid (wdA s = ([], 2, 65536)) := by
      show _ = _
      unfold wdA
      rw [if_pos h6]
    rw [HA.out]
    clear HA hT hH
    go_enter Tryz.func18, Tryz.ntmps18
    go_wp2
    go_ret3
    exact ⟨_, rfl, WdR.nil _ _, Below.refl _ _⟩
  · obtain ⟨A, hA⟩ : ∃ A, wdA s = A := ⟨_, rfl⟩
    have HA : Hid (fin [] (wds s 0) = A) := by
      show _ = _
      rw [← hA]
      unfold wdA
      rw [if_neg h6, fin_nil]
    rw [hA]
    clear hA
    have HTL : Hid (∀ w', Below w.heap.size w w' → TabP 1 .i64 lets w') := fun w' hb => hT.kept hb
    have HTH : Hid (∀ w', Below w.heap.size w w' → TabP 2 .i64 hids w') := fun w' hb => hH.kept hb
    clear hT hH
    go_enter Tryz.func18, Tryz.ntmps18
    go_wp2
    go_loopw [5, 6] (fun vw vi wr => ∃ (p : Nat) (acc : List Wd), vi = .int .i64 (p : Int) ∧ p ≤ s.size ∧ acc.length ≤ p ∧ WdR w.heap.size wr vw acc ∧ fin acc (wds s p) = A ∧ Below w.heap.size w wr) (fun _ vi _ => s.size - (intOf vi).toNat)
    case atStart => exact ⟨0, [], rfl, Nat.zero_le _, Nat.le_refl _, WdR.nil _ _, HA.out, Below.refl _ _⟩
    case round =>
      obtain ⟨p, acc, rfl, hp, hal, hr, hfa, hbel⟩ := hrel
      have HFA : Hid (fin acc (wds s p) = A) := hfa
      have HR : Hid (WdR w.heap.size wr u5 acc) := hr
      clear HA hfa
      obtain ⟨aw, cw, ew⟩ := hr.shape
      subst ew
      clear hr
      by_cases hlt : p < s.size
      · have hg : (s[p]'hlt).toNat = at' s p := (at_get s p hlt).symm
        by_cases h35 : at' s p = 35
        · have HF : Hid (A = (acc, 0, 0)) := by
            show A = _
            rw [← HFA.out, wds_hash s p hlt h35]
            unfold fin
            simp
          rw [h35] at hg
          clear HFA
          go_wp2
          go_ret3
          rw [HF.out]
          exact ⟨_, rfl, HR.out, hbel⟩
        · have hb35 : ((at' s p : Int) != 35) = true := by simp; omega
          cases hbk : blk (at' s p) with
          | true =>
            have HBK : Hid (∀ w', Calls Tryz.prog 39 #[.int .u8 (at' s p : Int)] w' fun e w'' => e = .returned (.bool true) ∧ w'' = w') := fun w' => by
              have h9 := rblank_any (at' s p) w'
              rw [hbk] at h9
              exact h9
            have HF : Hid (fin acc (wds s (p + 1)) = A) := by
              show _ = A
              rw [← HFA.out, wds_blank s p hlt h35 hbk]
            clear HFA hbk h35
            generalize at' s p = c at *
            go_wp2_with fail
            refine (HBK.out _).mono ?_
            rintro e w2 ⟨rfl, rfl⟩
            go_wp2
            go_roundw
            case rel => exact ⟨p + 1, acc, by go_num, by omega, by omega, HR.out, HF.out, hbel⟩
            case measure => simp [intOf]; omega
          | false =>
            have HBK : Hid (∀ w', Calls Tryz.prog 39 #[.int .u8 (at' s p : Int)] w' fun e w'' => e = .returned (.bool false) ∧ w'' = w') := fun w' => by
              have h9 := rblank_any (at' s p) w'
              rw [hbk] at h9
              exact h9
            have HWD : Hid (∀ w', Below w.heap.size w w' → Calls Tryz.prog 40 #[.string s, .int .i64 (p : Int)] w' fun e w'' => e = .returned (rans (wordP s p)) ∧ Below w'.heap.size w' w'') := fun w' hb => rword_any s p w' hlt (by omega) (HTL.out _ hb) (HTH.out _ hb)
            cases hwp : wordP s p with
            | inr ep =>
              obtain ⟨er, pl⟩ := ep
              have hne := wordP_err s p _ hwp
              simp only at hne
              have HF : Hid (A = ([], er, pl)) := by
                show A = _
                rw [← HFA.out, wds_bad s p hlt h35 hbk _ hwp]
                unfold fin
                rw [if_neg hne]
              have hne' : (er != 0) = true := by simp [hne]
              rw [hwp] at HWD
              unfold rans wdv zeroW at HWD
              simp only at HWD
              clear HFA hbk h35 hwp
              generalize at' s p = c at *
              go_wp2_with fail
              refine (HBK.out _).mono ?_
              rintro e w2 ⟨rfl, rfl⟩
              go_wp2_with fail
              refine (HWD.out _ hbel).mono ?_
              rintro e w5 ⟨rfl, b5⟩
              have HB5 : Hid (∀ o, Below w.heap.size w (w5.alloc o)) := fun o => up (andThen hbel b5) o
              clear b5 HWD HBK
              go_wp2
              go_ret3
              rw [HF.out]
              exact ⟨_, rfl, WdR.nil _ _, HB5.out _⟩
            | inl de =>
              obtain ⟨d, en⟩ := de
              have h9 := word_end s p hlt d en hwp
              have hen1 := h9.1
              have hen2 := h9.2.1
              have HBH : Hid (fin (acc ++ [d]) (bhd s d.k en) = A) := by
                show _ = A
                rw [← HFA.out, wds_word s p hlt h35 hbk d en hwp, fin_fin]
              rw [hwp] at HWD
              unfold rans wdv at HWD
              simp only at HWD
              clear HFA hbk h35 hwp h9
              generalize at' s p = c at *
              go_wp2_with fail
              refine (HBK.out _).mono ?_
              rintro e w2 ⟨rfl, rfl⟩
              go_wp2_with fail
              refine (HWD.out _ hbel).mono ?_
              rintro e w5 ⟨rfl, b5⟩
              have HY : Hid (WdR w.heap.size w5 (.slice aw acc.length cw) acc ∧ Below w.heap.size w w5) := ⟨HR.out.kept b5, andThen hbel b5⟩
              clear b5 HWD HBK HR hbel
              go_upto_region 11 with fail
              obtain ⟨WX, hWX⟩ : ∃ WX, WX = w5.alloc (.cells #[.int .i64 d.k, .int .i64 d.at_, .string d.t, .int .i64 d.n] 55) := ⟨_, rfl⟩
              have hx0 : Wx WX w5.heap.size d := by rw [hWX]; exact wx_new w5 d 55
              have hx1 : WdR w.heap.size WX (.slice aw acc.length cw) acc := by rw [hWX]; exact HY.out.1.kept (up0 _ _)
              have hx3 : Below w.heap.size w WX := by rw [hWX]; exact up HY.out.2 _
              have hx4 : ∀ q, (Value.slice aw acc.length cw).ownBlock = some q → q < w5.heap.size := fun q hq => (World.ownsRow.lt HY.out.1 q hq).2
              have hx5 : WX.heap.size = w5.heap.size + 1 := by rw [hWX, heapW]
              rw [← hWX]
              obtain ⟨gX, hgX⟩ : ∃ gX, gX = w5.heap.size := ⟨_, rfl⟩
              rw [← hgX] at hx0 hx4 hx5 ⊢
              have HZ : Hid (∀ o, WdR w.heap.size (WX.alloc o) (.slice aw acc.length cw) acc ∧ w.heap.size ≤ (WX.alloc o).heap.size ∧ Below w.heap.size w (WX.alloc o) ∧ Wx (WX.alloc o) gX d ∧ gX < (WX.alloc o).heap.size) := fun o => by
                refine ⟨hx1.kept (up0 _ _), (up hx3 o).size, up hx3 o, hx0.block ((up0 WX o).block gX (by omega)), ?_⟩
                rw [heapW]; omega
              have HCC : Hid (∀ t j u, (wdc d)[j]? = some u → (WX.alloc (.cells #[.int .i64 d.k, .int .i64 d.at_, .string d.t, .int .i64 d.n] t)).cell? ⟨WX.heap.size, j, none⟩ = some u) := fun t j u hj => by
                rw [World.cell?_alloc_new]
                simpa [wdc] using hj
              have HOB : Hid (∀ q, (Value.slice aw acc.length cw).ownBlock = some q → q < gX) := hx4
              obtain ⟨q0, q1, q2, q3⟩ := hx0.cells
              clear hWX hgX hx0 hx1 hx3 hx4 hx5 HY
              go_wp2_with (at_builtin; refine wpList_append_wd _ rfl (.tmp 42) (.tmp 44) 38 rfl w.heap.size infoWd Tryz.underlying38 _ acc d rfl (HZ.out _).1 _ rfl (HCC.out _) (by omega) (HZ.out _).2.1 ?_)
              intro v6 w6 hr6 hb6 hg6
              have hz := HZ.out (.cells #[.int .i64 d.k, .int .i64 d.at_, .string d.t, .int .i64 d.n] 55)
              have hx6 : Wx w6 gX d := hz.2.2.2.1.block (hg6.block gX hz.2.2.2.2 (fun e => by have := HOB.out gX e.symm; omega))
              have HN : Hid (WdR w.heap.size w6 v6 (acc ++ [d]) ∧ Below w.heap.size w w6) := ⟨hr6, hz.2.2.1.trans hb6⟩
              obtain ⟨a6, c6, e6⟩ := hr6.shape
              rw [show (acc ++ [d]).length = acc.length + 1 by simp] at e6
              subst e6
              obtain ⟨y0, _, _, _⟩ := hx6.cells
              clear hr6 hb6 hg6 hz hx6 HZ HCC HOB q0 q1 q2 q3
              go_upto_region 13 with fail
              have HB0 : Hid (∀ w', Calls Tryz.prog 39 #[.int .u8 (at' s en : Int)] w' fun e w'' => e = .returned (.bool (blk (at' s en))) ∧ w'' = w') := fun w' => rblank_any (at' s en) w'
              have HS0 : Hid (∀ w', Calls Tryz.prog 41 #[.int .u8 (at' s en : Int)] w' fun e w'' => e = .returned (.bool (sgn (at' s en))) ∧ w'' = w') := fun w' => rsign_any (at' s en) w'
              go_cut [75] from 14 to 82 (fun c wx => c = .bool (decide (d.k ≠ 4 ∧ en < s.size ∧ at' s en ≠ 35 ∧ blk (at' s en) = false ∧ sgn (at' s en) = false)) ∧ w6 = wx)
              case first =>
                by_cases h4 : d.k = 4
                · rw [h4] at y0
                  go_wp2_with fail
                  go_meet
                  exact ⟨congrArg Value.bool (decide_eq_false (fun h => h.1 h4)).symm, rfl⟩
                · have b4 : (d.k != 4) = true := by simp [h4]
                  by_cases hen : en < s.size
                  · have hge : (s[en]'hen).toNat = at' s en := (at_get s en hen).symm
                    cases hb : blk (at' s en) with
                    | true =>
                      rw [hb] at HB0
                      generalize hce : at' s en = ce at *
                      go_wp2_with fail
                      refine (HB0.out _).mono ?_
                      rintro e w7 ⟨rfl, rfl⟩
                      go_wp2_with fail
                      go_meet
                      exact ⟨congrArg Value.bool (decide_eq_false (fun h => by have h9 := h.2.2.2.1; rw [hb] at h9; cases h9)).symm, rfl⟩
                    | false =>
                      rw [hb] at HB0
                      cases hsg : sgn (at' s en) with
                      | true =>
                        rw [hsg] at HS0
                        generalize hce : at' s en = ce at *
                        go_wp2_with fail
                        refine (HB0.out _).mono ?_
                        rintro e w7 ⟨rfl, rfl⟩
                        go_wp2_with fail
                        refine (HS0.out _).mono ?_
                        rintro e w8 ⟨rfl, rfl⟩
                        go_wp2_with fail
                        go_meet
                        exact ⟨congrArg Value.bool (decide_eq_false (fun h => by have h9 := h.2.2.2.2; rw [hsg] at h9; cases h9)).symm, rfl⟩
                      | false =>
                        rw [hsg] at HS0
                        by_cases h35 : at' s en = 35
                        · rw [h35] at HB0 HS0 hge
                          go_wp2_with fail
                          refine (HB0.out _).mono ?_
                          rintro e w7 ⟨rfl, rfl⟩
                          go_wp2_with fail
                          refine (HS0.out _).mono ?_
                          rintro e w8 ⟨rfl, rfl⟩
                          go_wp2_with fail
                          go_meet
                          exact ⟨congrArg Value.bool (decide_eq_false (fun h => h.2.2.1 h35)).symm, rfl⟩
                        · have b35 : ((at' s en : Int) != 35) = true := by simp; omega
                          generalize hce : at' s en = ce at *
                          go_wp2_with fail
                          refine (HB0.out _).mono ?_
                          rintro e w7 ⟨rfl, rfl⟩
                          go_wp2_with fail
                          refine (HS0.out _).mono ?_
                          rintro e w8 ⟨rfl, rfl⟩
                          go_wp2_with fail
                          go_meet
                          exact ⟨congrArg Value.bool (decide_eq_true ⟨h4, hen, h35, hb, hsg⟩).symm, rfl⟩
                  · go_wp2_with fail
                    go_meet
                    exact ⟨congrArg Value.bool (decide_eq_false (fun h => hen h.2.1)).symm, rfl⟩
              case rest =>
                obtain ⟨rfl, rfl⟩ := hcut
                clear HB0 HS0 y0
                by_cases hbad : d.k ≠ 4 ∧ en < s.size ∧ at' s en ≠ 35 ∧ blk (at' s en) = false ∧ sgn (at' s en) = false
                · have hen := hbad.2.1
                  have HPC : Hid (∀ w', Calls Tryz.prog 42 #[.string s, .int .i64 (en : Int)] w' fun e w'' => e = .returned (.agg #[.int .i64 (pcR s en), .int .i64 (en : Int), .int .i64 ((Utf8.decode s en).2 : Int)]) ∧ Below w'.heap.size w' w'') := fun w' => piece_any s en w' (by omega) hen
                  have hf0 := pc_field0
                  rw [decide_eq_true hbad]
                  cases hst : stray s en with
                  | true =>
                    have hpc : pcR s en = -1 := by
                      unfold pcR
                      rw [hst]
                      rfl
                    have HF : Hid (A = ([], 21, (en : Int))) := by
                      show A = _
                      rw [← HBH.out, bhd_err s d.k en hbad, hst]
                      unfold fin
                      simp
                    rw [hpc] at HPC
                    clear HBH hbad hst hpc
                    generalize (Utf8.decode s en).2 = wd at *
                    go_wp2_with fail
                    refine (HPC.out _).mono ?_
                    rintro e w7 ⟨rfl, b7⟩
                    have HB7 : Hid (Below w.heap.size w w7) := andThen HN.out.2 b7
                    clear b7 HPC HN
                    go_wp2
                    go_ret3
                    rw [HF.out]
                    exact ⟨_, rfl, WdR.nil _ _, HB7.out⟩
                  | false =>
                    have hpc : pcR s en = ((Utf8.decode s en).1 : Int) := by
                      unfold pcR
                      rw [hst]
                      rfl
                    have HF : Hid (A = ([], 22, (en : Int))) := by
                      show A = _
                      rw [← HBH.out, bhd_err s d.k en hbad, hst]
                      unfold fin
                      simp
                    rw [hpc] at HPC
                    clear HBH hbad hst hpc
                    generalize (Utf8.decode s en).2 = wd at *
                    generalize (Utf8.decode s en).1 = r at *
                    go_wp2_with fail
                    refine (HPC.out _).mono ?_
                    rintro e w7 ⟨rfl, b7⟩
                    have HB7 : Hid (Below w.heap.size w w7) := andThen HN.out.2 b7
                    clear b7 HPC HN
                    go_wp2
                    go_ret3
                    rw [HF.out]
                    exact ⟨_, rfl, WdR.nil _ _, HB7.out⟩
                · have HF : Hid (fin (acc ++ [d]) (wds s en) = A) := by
                    show _ = A
                    rw [← HBH.out]
                    unfold bhd
                    rw [if_neg hbad]
                  rw [decide_eq_false hbad]
                  clear HBH hbad
                  go_wp2
                  go_roundw
                  case rel => exact ⟨en, acc ++ [d], rfl, hen2, by rw [List.length_append]; simp; omega, HN.out.1, HF.out, HN.out.2⟩
                  case measure => simp [intOf]; omega
      · obtain rfl : p = s.size := by omega
        have HF : Hid (A = (acc, 0, 0)) := by
          show A = _
          rw [← HFA.out, wds_out s _ hlt]
          unfold fin
          simp
        clear HFA
        go_wp2
        go_ret3
        rw [HF.out]
        exact ⟨_, rfl, HR.out, hbel⟩
end Go.Proofs.YtcnnpohnfoaceaaGreatDoor.Text
