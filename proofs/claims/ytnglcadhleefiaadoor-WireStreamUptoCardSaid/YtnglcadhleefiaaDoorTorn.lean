/-
  WireTorn's walk.
-/
import Derived.Test.YtnglcadhleefiaaDoorFrm
namespace Go.Proofs.YtnglcadhleefiaaDoor
open Go Go.RowKit
open Wb

theorem part_n (v : Value) (l : List Nat) (n : Nat) (w : World) (h : Bs w v l) (hlen : l.length ≤ 140737488355328) (hhi : n ≤ 9223372036854775807) :
    Calls Tryd.prog 10 #[v, .int .i64 0, .int .i64 (n : Int)] w fun e w' => ∃ v', e = .returned v' ∧ Own w.heap.size w' v' (l.take n) ∧ Below w.heap.size w w' := by
  have := part_any v l 0 (n : Int) w h hlen (by omega)
  simpa using this

/-- Frame of one part, in one answer -/
theorem frame1 (pv : Value) (body : List Nat) (w : World) (hT : Tab w) (hp : Ps w pv [body]) (h : body.length ≤ 1048576) (h0 : 0 < body.length) :
    Calls Tryd.prog 14 #[pv] w fun e w' => ∃ v', e = .returned (.tuple #[v', .int .i64 0]) ∧ Own w.heap.size w' v' (fr body) ∧ Below w.heap.size w w' := by
  have := frame_ok pv [body] w hT hp (by simpa using h) (by simpa using h0)
  simpa using this
theorem readFrame_eq (v : Value) (l : List Nat) (p : Int) (w : World) (hT : Tab w) (h : Bs w v l) (hlen : l.length ≤ 140737488355328) (x : List Nat) (q : Int) (e0 : Nat) (hr : rf l p = (x, q, e0)) :
    Calls Tryd.prog 16 #[v, .int .i64 p] w fun e w' => ∃ v', e = .returned (.tuple #[v', .int .i64 q, .int .i64 (e0 : Int)]) ∧ Own w.heap.size w' v' x ∧ Below w.heap.size w w' := by
  have := readFrame_any v l p w hT h hlen
  rw [hr] at this
  exact this
theorem same_yes (va vb : Value) (a : List Nat) (w : World) (ha : Bs w va a) (hb : Bs w vb a) :
    Calls Tryd.prog 17 #[va, vb] w fun e w' => e = .returned (.bool true) ∧ Below w.heap.size w w' := by
  have := same_any va vb a a w ha hb
  simpa using this

set_option maxHeartbeats 2000000 in
theorem torn_any (v : Value) (body : List Nat) (k z : Int) (w : World) (hT : Tab w) (h : Bs w v body) (hk : (Lit.int .i64 k).wf = true) (hz : (Lit.int .i64 z).wf = true) :
    Calls Tryd.prog 4 #[v, .int .i64 k, .int .i64 z] w fun e w' => e = .returned (.bool true) ∧ Below w.heap.size w w' := by
  have hin := info5
  have hob := h
  obtain ⟨ao, cap, rfl, hl, hm, _, _⟩ := h.shape
  unfold maxLen at hm
  by_cases hbad : body.length = 0 ∨ 1048576 < body.length
  · have hfb : ∀ W, Below w.heap.size w W → ∀ pv, Ps W pv [body] → Calls Tryd.prog 14 #[pv] W fun e w' => e = .returned (.tuple #[.slice none 0 0, .int .i64 (if body.length = 0 then 14 else 13)]) ∧ W = w' := by
      intro W _ pv hp
      refine frame_bad pv [body] W hp _ ?_
      by_cases h0 : body.length = 0
      · exact .inr ⟨by simpa using h0, by rw [if_pos h0]⟩
      · exact .inl ⟨by simp; omega, by rw [if_neg h0]⟩
    obtain ⟨er, her⟩ : ∃ er : Int, er = (if body.length = 0 then 14 else 13) := ⟨_, rfl⟩
    rw [← her] at hfb
    have her2 : 1 ≤ er ∧ er ≤ 20 := by rw [her]; split <;> omega
    have HFB : Hid (∀ W, Below w.heap.size w W → ∀ pv, Ps W pv [body] → Calls Tryd.prog 14 #[pv] W fun e w' => e = .returned (.tuple #[.slice none 0 0, .int .i64 er]) ∧ W = w') := hfb
    have d1 : (er != 0) = true := by rw [bne_iff_ne]; omega
    clear hfb her
    obtain ⟨her3, her4⟩ := her2
    by_cases h0 : body.length = 0
    · have d0 : ((body.length : Int) == 0) = true := beq_iff_eq.2 (by omega)
      clear h0 hbad
      go_enter Tryd.func4, Tryd.ntmps4
      go_wp2_with fail
      refine (HFB.out _ (up0 _ _) _ (ps1 _ _ rfl _ hob)).mono ?_
      rintro e w1 ⟨rfl, rfl⟩
      go_wp2_with fail
      refine (num_any er _ (by omega) (by omega)).mono ?_
      rintro e w1 ⟨rfl, rfl⟩
      go_wp2
      go_ret
      exact ⟨rfl, up0 _ _⟩
    · have d0 : ((body.length : Int) == 0) = false := beq_eq_false_iff_ne.2 (by omega)
      have d2 : (1048576 : Int) < (body.length : Int) := by omega
      go_enter Tryd.func4, Tryd.ntmps4
      go_wp2_with fail
      refine (HFB.out _ (up0 _ _) _ (ps1 _ _ rfl _ hob)).mono ?_
      rintro e w1 ⟨rfl, rfl⟩
      go_wp2_with fail
      refine (num_any er _ (by omega) (by omega)).mono ?_
      rintro e w1 ⟨rfl, rfl⟩
      go_wp2
      go_ret
      exact ⟨rfl, up0 _ _⟩
  · have h0 : 0 < body.length := by omega
    have h1 : body.length ≤ 1048576 := by omega
    have d0 : ((body.length : Int) == 0) = false := beq_eq_false_iff_ne.2 (by omega)
    have d2 : ¬ (1048576 : Int) < (body.length : Int) := by omega
    clear hbad
    have hfl := fr_length body
    have hul := Wn.uint_len3 body.length h1
    have hrf := rf_fr [] body [] h.good h0 h1
    simp only [List.nil_append, List.append_nil, List.length_nil, Nat.zero_add] at hrf
    have HRF : Hid (rf (fr body) 0 = (body, ((fr body).length : Int), 0)) := hrf
    have HT : Hid (∀ kk zz : Nat, kk < (fr body).length → rf ((fr body).take kk ++ List.replicate zz 0) 0 = ([], 0, (rf ((fr body).take kk ++ List.replicate zz 0) 0).2.2) ∧ (rf ((fr body).take kk ++ List.replicate zz 0) 0).2.2 ≠ 0) :=
      fun kk zz hkk => ⟨rf_bad _ _ (rf_torn body kk zz h0 h1 hkk), rf_torn body kk zz h0 h1 hkk⟩
    have hFl : (fr body).length ≤ 1048584 := by omega
    clear hfl hul hrf
    go_enter Tryd.func4, Tryd.ntmps4
    go_wp2_with fail
    refine (frame1 _ body _ (hT.kept (up0 _ _)) (ps1 _ _ rfl _ hob) h1 h0).mono ?_
    rintro e w1 ⟨vf, rfl, hf, b1'⟩
    have b1 := andThen (up0 _ _) b1'
    clear b1'
    generalize fr body = F at *
    obtain ⟨aof, capf, rfl, _⟩ := hf.bs.shape
    go_wp2_with fail
    refine (readFrame_eq _ F 0 _ (hT.kept b1) hf.bs (by omega) _ _ _ HRF.out).mono ?_
    rintro e w2 ⟨vw, rfl, hw, b2'⟩
    have b2 := andThen b1 b2'
    have hf2 := (hf.kept b2').bs
    obtain ⟨aow, capw, rfl, _⟩ := hw.bs.shape
    have df : ((F.length : Int) != (F.length : Int)) = false := by simp
    have dz : (((0 : Nat) : Int) != 0) = false := by decide
    clear hf b2'
    go_wp2_with fail
    refine (num_any _ _ (by omega) (by omega)).mono ?_
    rintro e w3 ⟨rfl, rfl⟩
    go_wp2_with fail
    refine (num_any _ _ (by omega) (by omega)).mono ?_
    rintro e w3 ⟨rfl, rfl⟩
    go_wp2_with fail
    refine (same_yes _ _ body _ hw.bs (hob.kept b2)).mono ?_
    rintro e w3 ⟨rfl, b3'⟩
    have b3 := andThen b2 b3'
    have hf3 := hf2.kept b3'
    clear hf2 b3' b1 b2 hw
    by_cases k0 : k < 0
    · have e1 : decide (k < 0) = true := decide_eq_true k0
      go_wp2
      go_ret
      exact ⟨rfl, b3⟩
    have e1 : decide (k < 0) = false := decide_eq_false k0
    by_cases k1 : (F.length : Int) ≤ k
    · have e2 : decide ((F.length : Int) ≤ k) = true := decide_eq_true k1
      go_wp2
      go_ret
      exact ⟨rfl, b3⟩
    have e2 : decide ((F.length : Int) ≤ k) = false := decide_eq_false k1
    by_cases z0 : z < 0
    · have e3 : decide (z < 0) = true := decide_eq_true z0
      go_wp2
      go_ret
      exact ⟨rfl, b3⟩
    have e3 : decide (z < 0) = false := decide_eq_false z0
    by_cases z1 : 2097152 < z
    · have e4 : decide (2097152 < z) = true := decide_eq_true z1
      go_wp2
      go_ret
      exact ⟨rfl, b3⟩
    have e4 : decide (2097152 < z) = false := decide_eq_false z1
    obtain ⟨kk, rfl⟩ := Int.eq_ofNat_of_zero_le (show 0 ≤ k by omega)
    obtain ⟨zz, rfl⟩ := Int.eq_ofNat_of_zero_le (show 0 ≤ z by omega)
    have hkk : kk < F.length := by omega
    have hzz : zz ≤ 2097152 := by omega
    clear hk hz
    go_wp2_with fail
    refine (part_n _ F kk _ hf3 (by omega) (by omega)).mono ?_
    rintro e w4 ⟨vt, rfl, ht, b4'⟩
    have b4 := andThen b3 b4'
    have ht' := ht.mono b3.size
    clear b4' ht b3 hf3
    go_wp2
    go_loopw [12, 13] (fun o i wr => ∃ j : Nat, j ≤ zz ∧ i = .int .i64 (j : Int) ∧ Own w.heap.size wr o (F.take kk ++ List.replicate j 0) ∧ Below w.heap.size w wr) (fun _ i _ => zz - (intOf i).toNat)
    case atStart => exact ⟨0, Nat.zero_le _, rfl, by simpa using ht', b4⟩
    case round =>
      obtain ⟨j, hj, rfl, hown, hbel⟩ := hrel
      clear ht' b4
      have hsz := hbel.size
      have hL : (F.take kk ++ List.replicate j 0).length ≤ 4000000 := by simp; omega
      by_cases hlt : j < zz
      · have HS : Hid (F.take kk ++ List.replicate (j + 1) 0 = (F.take kk ++ List.replicate j 0) ++ [0]) := by
          show _ = _
          rw [List.append_assoc, List.replicate_succ']
        have HO : Hid (∀ o, Own w.heap.size (wr.alloc o) u12 (F.take kk ++ List.replicate j 0)) := fun o => hown.alloc o
        generalize F.take kk ++ List.replicate j 0 = m at *
        go_wp2_with (at_builtin; refine wpList_append _ rfl (.tmp 84) (.tmp 85) 22 rfl w.heap.size hin Tryd.underlying22 _ m rfl (HO.out _) _ [0] rfl (Bs.one _ 0 (by decide) _ rfl) (by simp; omega) (by simp; omega) ?_)
        intro v' w' ho' hb' _
        have R : Hid (Own w.heap.size w' v' (F.take kk ++ List.replicate (j + 1) 0) ∧ Below w.heap.size w w') := ⟨by rw [HS.out]; exact ho', (hbel.alloc hsz _).trans hb'⟩
        clear ho' hb' hown HO HS hbel
        go_wp2
        go_roundw
        case rel => exact ⟨j + 1, by omega, by go_num, R.out.1, R.out.2⟩
        case measure => simp [intOf]; omega
      · obtain rfl : j = zz := by omega
        obtain ⟨h1', h2'⟩ := HT.out kk j hkk
        have hle := rf_le (F.take kk ++ List.replicate j 0) 0
        generalize (rf (F.take kk ++ List.replicate j 0) 0).2.2 = er at *
        have HRT : Hid (rf (F.take kk ++ List.replicate j 0) 0 = ([], 0, er)) := h1'
        have der : ((er : Int) != 0) = true := by rw [bne_iff_ne]; omega
        clear h1' h2'
        generalize F.take kk ++ List.replicate j 0 = m at *
        obtain ⟨aom, capm, rfl, _⟩ := hown.bs.shape
        have hTw := hT.kept hbel
        clear HT hT
        go_wp2_with fail
        refine (readFrame_eq _ m 0 _ hTw hown.bs (by omega) _ _ _ HRT.out).mono ?_
        rintro e w5 ⟨vn, rfl, hn5, b5⟩
        have b5' := andThen hbel b5
        obtain ⟨aon, capn, rfl, _⟩ := hn5.bs.shape
        clear hn5 b5 hbel hown
        go_wp2_with fail
        refine (num_any _ _ (by omega) (by omega)).mono ?_
        rintro e w6 ⟨rfl, rfl⟩
        go_wp2
        go_ret
        exact ⟨rfl, b5'⟩
end Go.Proofs.YtnglcadhleefiaaDoor
