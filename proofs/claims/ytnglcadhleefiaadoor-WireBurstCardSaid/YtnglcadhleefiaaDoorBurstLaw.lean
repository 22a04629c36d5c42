/-
  WireBurst's walk.
-/
import Derived.Test.YtnglcadhleefiaaDoorTurned
import Derived.OpenShut
namespace Go.Proofs.YtnglcadhleefiaaDoor
open Go Go.RowKit
open Wb

/-- what the turned frame reads as -/
theorem burst_read (body : List Nat) (f mask : Nat) (hb : ok body) (h0 : 0 < body.length) (h1 : body.length ≤ 1048576) (hany : mm mask (8 * (Wn.uint body.length).length + f) ((fr body).length - 1) 32 ≠ 0) :
    rf (xorL (fr body) (mm mask (8 * (Wn.uint body.length).length + f) ((fr body).length - 1) 32 * 2 ^ (8 * (Wn.uint body.length).length + f))) 0 = ([], 0, 16) := by
  refine rf_burst body _ f hb h0 h1 (mm_lt _ _ _ 32) hany ?_
  rcases mm_bound mask (8 * (Wn.uint body.length).length + f) ((fr body).length - 1) 32 with h | h
  · exact h
  · exact absurd h hany

theorem turned_at (v : Value) (F : List Nat) (x y : Int) (f mask E : Nat) (w : World) (h : Bs w v F) (h0 : 0 < F.length) (hE : E ≤ F.length) (hF : F.length ≤ 2000000) (hf : f ≤ 100000000) (hm : mask < 4294967296) (hx : x = (f : Int)) (hy : y = (E : Int)) (B : Bool) (hB : decide (mm mask f E 32 ≠ 0) = B) :
    Calls Tryd.prog 18 #[v, .int .i64 x, .int .u32 (mask : Int), .int .i64 y] w fun e w' => ∃ v', e = .returned (.tuple #[v', .bool B]) ∧ Own w.heap.size w' v' (xorL F (mm mask f E 32 * 2 ^ f)) ∧ Below w.heap.size w w' := by
  subst hx hy hB
  exact turned_any v F f mask E w h h0 hE hF hf hm

set_option maxHeartbeats 2000000 in
theorem burst_any (v : Value) (body : List Nat) (f mask : Int) (w : World) (hT : Tab w) (h : Bs w v body) (_hf : (Lit.int .i64 f).wf = true) (hm : (Lit.int .u32 mask).wf = true) :
    Calls Tryd.prog 5 #[v, .int .i64 f, .int .u32 mask] w fun e w' => e = .returned (.bool true) ∧ Below w.heap.size w w' := by
  have hob := h
  obtain ⟨ao, cap, rfl, hl, hmx, _, _⟩ := h.shape
  unfold maxLen at hmx
  by_cases hbad : body.length = 0 ∨ 1048576 < body.length
  · have hfb : ∀ W, Below w.heap.size w W → ∀ pv, Ps W pv [body] → Calls Tryd.prog 14 #[pv] W fun e w' => e = .returned (.tuple #[.slice none 0 0, .int .i64 (if body.length = 0 then 14 else 13)]) ∧ W = w' := by
      intro W _ pv hp
      refine frame_bad pv [body] W hp _ ?_
      by_cases h0 : body.length = 0
      · exact .inr ⟨by simpa using h0, by rw [if_pos h0]⟩
      · exact .inl ⟨by simp; omega, by rw [if_neg h0]⟩
    obtain ⟨er, her⟩ : ∃ er : Int, er = (if body.length = 0 then 14 else 13) := ⟨_, rfl⟩
    rw [← her] at hfb
    have her2 : 1 ≤ er ∧ er ≤ 20 := by rw [her]; split <;> omega
    have HFB : Hid (∀ W, Below w.heap.size w W → ∀ pv, Ps W pv [body] → Calls Tryd.prog 14 #[pv] W fun e w' => e = .returned (.tuple #[.slice none 0 0, .int .i64 er]) ∧ W = w') := hfb
    have d1 : (er != 0) = true := by rw [bne_iff_ne]; omega
    clear hfb her
    obtain ⟨her3, her4⟩ := her2
    by_cases h0 : body.length = 0
    · have d0 : ((body.length : Int) == 0) = true := beq_iff_eq.2 (by omega)
      clear h0 hbad
      go_enter Tryd.func5, Tryd.ntmps5
      go_wp2_with fail
      refine (HFB.out _ (up0 _ _) _ (ps1 _ _ rfl _ hob)).mono ?_
      rintro e w1 ⟨rfl, rfl⟩
      go_wp2_with fail
      refine (num_any er _ (by omega) (by omega)).mono ?_
      rintro e w1 ⟨rfl, rfl⟩
      go_wp2
      go_ret
      exact ⟨rfl, up0 _ _⟩
    · have d0 : ((body.length : Int) == 0) = false := beq_eq_false_iff_ne.2 (by omega)
      have d2 : (1048576 : Int) < (body.length : Int) := by omega
      go_enter Tryd.func5, Tryd.ntmps5
      go_wp2_with fail
      refine (HFB.out _ (up0 _ _) _ (ps1 _ _ rfl _ hob)).mono ?_
      rintro e w1 ⟨rfl, rfl⟩
      go_wp2_with fail
      refine (num_any er _ (by omega) (by omega)).mono ?_
      rintro e w1 ⟨rfl, rfl⟩
      go_wp2
      go_ret
      exact ⟨rfl, up0 _ _⟩
  · have h0 : 0 < body.length := by omega
    have h1 : body.length ≤ 1048576 := by omega
    have d0 : ((body.length : Int) == 0) = false := beq_eq_false_iff_ne.2 (by omega)
    have d2 : ¬ (1048576 : Int) < (body.length : Int) := by omega
    clear hbad
    have hfl := fr_length body
    have hul := Wn.uint_len3 body.length h1
    have hup := Wn.uint_pos body.length
    have hrf := rf_fr [] body [] h.good h0 h1
    simp only [List.nil_append, List.append_nil, List.length_nil, Nat.zero_add] at hrf
    have HRF : Hid (rf (fr body) 0 = (body, ((fr body).length : Int), 0)) := hrf
    have HBU : Hid (∀ ff mk : Nat, mm mk (8 * (Wn.uint body.length).length + ff) ((fr body).length - 1) 32 ≠ 0 → rf (xorL (fr body) (mm mk (8 * (Wn.uint body.length).length + ff) ((fr body).length - 1) 32 * 2 ^ (8 * (Wn.uint body.length).length + ff))) 0 = ([], 0, 16)) :=
      fun ff mk hany => burst_read body ff mk h.good h0 h1 hany
    clear hrf
    obtain ⟨u, hu⟩ : ∃ u, u = (Wn.uint body.length).length := ⟨_, rfl⟩
    rw [← hu] at hfl hul hup HBU
    have hFl2 : u + body.length + 5 ≤ (fr body).length := by omega
    have hFl3 : (fr body).length ≤ u + body.length + 5 := by omega
    clear hu hfl
    go_enter Tryd.func5, Tryd.ntmps5
    go_wp2_with fail
    refine (frame1 _ body _ (hT.kept (up0 _ _)) (ps1 _ _ rfl _ hob) h1 h0).mono ?_
    rintro e w1 ⟨vf, rfl, hfr, b1'⟩
    have b1 := andThen (up0 _ _) b1'
    clear b1'
    generalize fr body = F at *
    obtain ⟨aof, capf, rfl, _⟩ := hfr.bs.shape
    go_wp2_with fail
    refine (readFrame_eq _ F 0 _ (hT.kept b1) hfr.bs (by omega) _ _ _ HRF.out).mono ?_
    rintro e w2 ⟨vw, rfl, hw, b2'⟩
    have b2 := andThen b1 b2'
    have hf2 := (hfr.kept b2').bs
    obtain ⟨aow, capw, rfl, _⟩ := hw.bs.shape
    have df : ((F.length : Int) != (F.length : Int)) = false := by simp
    have dlo : decide ((F.length : Int) - (body.length : Int) - 5 < 1) = false := decide_eq_false (by omega)
    clear hfr b2' b1
    go_wp2_with fail
    refine (num_any _ _ (by omega) (by omega)).mono ?_
    rintro e w3 ⟨rfl, rfl⟩
    go_wp2_with fail
    refine (num_any _ _ (by omega) (by omega)).mono ?_
    rintro e w3 ⟨rfl, rfl⟩
    by_cases f0 : f < 0
    · have e1 : decide (f < 0) = true := decide_eq_true f0
      go_wp2
      go_ret
      exact ⟨rfl, b2⟩
    have e1 : decide (f < 0) = false := decide_eq_false f0
    by_cases f1 : 8 * ((body.length : Int) + 4) ≤ f
    · have e2 : decide (8 * ((body.length : Int) + 4) ≤ f) = true := decide_eq_true f1
      go_wp2
      go_ret
      exact ⟨rfl, b2⟩
    have e2 : decide (8 * ((body.length : Int) + 4) ≤ f) = false := decide_eq_false f1
    obtain ⟨ff, rfl⟩ := Int.eq_ofNat_of_zero_le (show 0 ≤ f by omega)
    obtain ⟨mk, rfl⟩ : ∃ mk : Nat, mask = (mk : Int) := Int.eq_ofNat_of_zero_le (bounds_u32 hm).1
    have hmk : mk < 4294967296 := by have := (bounds_u32 hm).2; omega
    clear hm
    by_cases hany : mm mk (8 * u + ff) (F.length - 1) 32 = 0
    · have HA : Hid (decide (mm mk (8 * u + ff) (F.length - 1) 32 ≠ 0) = false) := decide_eq_false (fun h => h hany)
      clear hany
      go_wp2_with fail
      refine (turned_at _ F _ _ (8 * u + ff) mk (F.length - 1) _ hf2 (by omega) (by omega) (by omega) (by omega) hmk (by omega) (by omega) false HA.out).mono ?_
      rintro e w4 ⟨vt, rfl, ht, b4'⟩
      have b4 := andThen b2 b4'
      clear b4' b2 ht HBU
      go_wp2
      go_ret
      exact ⟨rfl, b4⟩
    · have HA : Hid (decide (mm mk (8 * u + ff) (F.length - 1) 32 ≠ 0) = true) := decide_eq_true hany
      have hb := HBU.out ff mk hany
      have HB : Hid (rf (xorL F (mm mk (8 * u + ff) (F.length - 1) 32 * 2 ^ (8 * u + ff))) 0 = ([], 0, 16)) := hb
      clear hany hb HBU
      go_wp2_with fail
      refine (turned_at _ F _ _ (8 * u + ff) mk (F.length - 1) _ hf2 (by omega) (by omega) (by omega) (by omega) hmk (by omega) (by omega) true HA.out).mono ?_
      rintro e w4 ⟨vt, rfl, ht, b4'⟩
      have b4 := andThen b2 b4'
      have hXl := xorL_length F (mm mk (8 * u + ff) (F.length - 1) 32 * 2 ^ (8 * u + ff))
      have hXl2 : (xorL F (mm mk (8 * u + ff) (F.length - 1) 32 * 2 ^ (8 * u + ff))).length ≤ 2000000 := by omega
      clear hXl
      generalize xorL F (mm mk (8 * u + ff) (F.length - 1) 32 * 2 ^ (8 * u + ff)) = X at *
      obtain ⟨aot, capt, rfl, _⟩ := ht.bs.shape
      have hT4 := hT.kept b4
      clear b4' b2 hT HA
      go_wp2_with fail
      refine (readFrame_eq _ X 0 _ hT4 ht.bs (by omega) _ _ _ HB.out).mono ?_
      rintro e w5 ⟨vn, rfl, hn5, b5'⟩
      have b5 := andThen b4 b5'
      obtain ⟨aon, capn, rfl, _⟩ := hn5.bs.shape
      clear hn5 b5' b4 ht
      go_wp2_with fail
      refine (num_any _ _ (by omega) (by omega)).mono ?_
      rintro e w6 ⟨rfl, rfl⟩
      go_wp2
      go_ret
      exact ⟨rfl, b5⟩
end Go.Proofs.YtnglcadhleefiaaDoor
