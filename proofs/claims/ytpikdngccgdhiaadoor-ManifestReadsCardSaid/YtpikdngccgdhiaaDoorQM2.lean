import Derived.Deep.MidRow
import Derived.Maps.AppendAt
import Derived.Deep.QuietTactic
import Derived.BigQuiet
import Derived.Deep.CutRange
import Derived.Test.YtpikdngccgdhiaaDoorQM1
/-
  Package manifest: Check.
-/
namespace Go.Proofs.YtpikdngccgdhiaaDoor
open Go Go.RowKit
open Wb

/-- a segment, a manifest as values -/
def sgv (s : Sg) : Value := .agg #[.int .i64 s.n, .int .i64 s.s, .int .i64 s.c]
def mfv (m : Mf) (v : Value) : Value := .agg #[.int .i64 m.g, .int .i64 m.v, .int .i64 m.x, .int .i64 m.t, v]
def sgc (s : Sg) : List Value := [.int .i64 s.n, .int .i64 s.s, .int .i64 s.c]
def Sg.fit (s : Sg) : Prop := (-9223372036854775808 ≤ s.n ∧ s.n ≤ 9223372036854775807) ∧ (-9223372036854775808 ≤ s.s ∧ s.s ≤ 9223372036854775807) ∧ (-9223372036854775808 ≤ s.c ∧ s.c ≤ 9223372036854775807)
theorem sealed_any (s : Sg) (w : World) : Calls Tryd.prog 42 #[sgv s] w fun e w' => e = .returned (.bool (decide (1 ≤ s.s) && (decide (s.s ≤ 524288) && (decide (0 ≤ s.c) && decide (s.c ≤ 524288))))) ∧ Below w.heap.size w w' := by
  obtain ⟨n, z, c⟩ := s
  unfold sgv
  by_cases h1 : 1 ≤ z
  · by_cases h2 : z ≤ 524288
    · by_cases h3 : 0 ≤ c
      · by_cases h4 : c ≤ 524288
        · rw [decide_eq_true h1, decide_eq_true h2, decide_eq_true h3, decide_eq_true h4]
          go_enter Tryd.func42, Tryd.ntmps42
          go_wp2
          go_ret
          exact ⟨rfl, up0 _ _⟩
        · rw [decide_eq_true h1, decide_eq_true h2, decide_eq_true h3, decide_eq_false h4]
          go_enter Tryd.func42, Tryd.ntmps42
          go_wp2
          go_ret
          exact ⟨rfl, up0 _ _⟩
      · rw [decide_eq_true h1, decide_eq_true h2, decide_eq_false h3]
        go_enter Tryd.func42, Tryd.ntmps42
        go_wp2
        go_ret
        exact ⟨rfl, up0 _ _⟩
    · rw [decide_eq_true h1, decide_eq_false h2]
      go_enter Tryd.func42, Tryd.ntmps42
      go_wp2
      go_ret
      exact ⟨rfl, up0 _ _⟩
  · rw [decide_eq_false h1]
    go_enter Tryd.func42, Tryd.ntmps42
    go_wp2
    go_ret
    exact ⟨rfl, up0 _ _⟩
theorem active_any (s : Sg) (w : World) : Calls Tryd.prog 43 #[sgv s] w fun e w' => e = .returned (.bool (decide (s.s = 0) && decide (s.c = 0))) ∧ Below w.heap.size w w' := by
  obtain ⟨n, z, c⟩ := s
  unfold sgv
  by_cases h1 : z = 0
  · by_cases h2 : c = 0
    · rw [decide_eq_true h1, decide_eq_true h2]
      go_enter Tryd.func43, Tryd.ntmps43
      go_wp2
      go_ret
      exact ⟨rfl, up0 _ _⟩
    · have hd : (c == 0) = false := beq_false_of_ne h2
      rw [decide_eq_true h1, decide_eq_false h2]
      go_enter Tryd.func43, Tryd.ntmps43
      go_wp2
      go_ret
      exact ⟨rfl, up0 _ _⟩
  · have hd : (z == 0) = false := beq_false_of_ne h1
    rw [decide_eq_false h1]
    go_enter Tryd.func43, Tryd.ntmps43
    go_wp2
    go_ret
    exact ⟨rfl, up0 _ _⟩
/-- a list of segments that was handed in -/
def SgsAt (w : World) (v : Value) (l : List Sg) : Prop := ∃ ao, ∃ cap : Nat, v = .slice ao l.length cap ∧ l.length ≤ cap ∧ cap ≤ maxLen ∧ ∀ (k : Nat) (s : Sg), l[k]? = some s → ∃ b off, ao = some ⟨b, off, none⟩ ∧ w.rangeAt b (off + k * 3) (sgc s)
theorem SgsAt.kept {w w' : World} {v : Value} {l : List Sg} (h : SgsAt w v l) (hb : Below w.heap.size w w') : SgsAt w' v l := by
  obtain ⟨ao, cap, e, h1, h2, hc⟩ := h
  refine ⟨ao, cap, e, h1, h2, fun k s hs => ?_⟩
  obtain ⟨b, off, e2, h3⟩ := hc k s hs
  refine ⟨b, off, e2, fun j v hv => ?_⟩
  have h4 := h3 j v hv
  rw [hb.cell (World.block_lt_of_cell? w _ h4)]
  exact h4
theorem heap1 (w : World) (o : Obj) : (w.alloc o).heap.size = w.heap.size + 1 := by
  show (w.heap.push o).size = _
  rw [Array.size_push]
theorem infoSg : (Tryd.prog.info? 46).map (·.size) = some 3 := by kernel_rfl
theorem infoMf : (Tryd.prog.info? 24).map (·.size) = some 5 := by kernel_rfl
set_option maxRecDepth 100000 in
set_option maxHeartbeats 4000000 in
theorem areSegs_any (v : Value) (l : List Sg) (next : Int) (w : World) (h : SgsAt w v l) (h1 : 1 ≤ l.length) (h128 : l.length ≤ 128) :
    Calls Tryd.prog 27 #[v, .int .i64 next] w fun e w' => e = .returned (.bool (sgsOk next 0 l)) ∧ Below w.heap.size w w' := by
  have HIS : Hid ((Tryd.prog.info? 46).map (·.size) = some 3) := infoSg
  have HSA : Hid (∀ w', Below w.heap.size w w' → SgsAt w' v l) := fun w' hb => h.kept hb
  obtain ⟨ao, cap, rfl, hc1, hc2, _⟩ := h
  unfold maxLen at hc2
  go_enter Tryd.func27, Tryd.ntmps27
  go_wp2
  obtain ⟨la, hla⟩ : ∃ la : Int, la = (l.length : Int) - 1 := ⟨_, rfl⟩
  rw [← hla]
  have HLA : Hid (la = (l.length : Int) - 1) := hla
  clear hla
  go_loopw [6, 14] (fun b i wr => ∃ (k : Nat) (bef : Int), k ≤ l.length ∧ b = .int .i64 bef ∧ i = .int .i64 (k : Int) ∧ sgsOk next bef (l.drop k) = sgsOk next 0 l ∧ Below w.heap.size w wr) (fun _ i _ => l.length - (intOf i).toNat)
  case atStart => exact ⟨0, 0, Nat.zero_le _, rfl, rfl, rfl, Below.refl _ _⟩
  case round =>
    obtain ⟨k, bef, hk, rfl, rfl, hs, hbel⟩ := hrel
    by_cases hlt : k < l.length
    · obtain ⟨s, hsk⟩ : ∃ s, l[k]? = some s := ⟨l[k], List.getElem?_eq_getElem hlt⟩
      have HD : Hid (l.drop k = s :: l.drop (k + 1)) := by
        show _ = _
        rw [List.drop_eq_getElem_cons hlt]
        congr 1
        rw [List.getElem?_eq_getElem hlt] at hsk
        exact Option.some.inj hsk
      have HEQ : Hid (sgsOk next 0 l = (sgOk next bef (l.drop (k + 1)).isEmpty s && sgsOk next s.n (l.drop (k + 1)))) := by
        show _ = _
        rw [← hs, HD.out, sgsOk]
      obtain ⟨ao', cap', e', _, _, hcr⟩ := HSA.out _ hbel
      simp only [Value.slice.injEq] at e'
      obtain ⟨rfl, _, rfl⟩ := e'
      obtain ⟨b, off, rfl, hrg⟩ := hcr k s hsk
      have HR0 : Hid (wr.rangeAt b (off + k * 3) [.int .i64 s.n, .int .i64 s.s, .int .i64 s.c]) := hrg
      have HB : Hid (∀ o, Below w.heap.size w (wr.alloc o)) := fun o => up hbel o
      have HSE : Hid (∀ w', Calls Tryd.prog 42 #[sgv s] w' fun e w'' => e = .returned (.bool (decide (1 ≤ s.s) && (decide (s.s ≤ 524288) && (decide (0 ≤ s.c) && decide (s.c ≤ 524288))))) ∧ Below w'.heap.size w' w'') := fun w' => sealed_any s w'
      have HAC : Hid (∀ w', Calls Tryd.prog 43 #[sgv s] w' fun e w'' => e = .returned (.bool (decide (s.s = 0) && decide (s.c = 0))) ∧ Below w'.heap.size w' w'') := fun w' => active_any s w'
      have HEM : Hid ((l.drop (k + 1)).isEmpty = decide (k + 1 = l.length)) := by
        show _ = _
        by_cases e : k + 1 = l.length
        · rw [List.drop_eq_nil_of_le (by omega), decide_eq_true e]; rfl
        · rw [decide_eq_false e]
          cases hd : l.drop (k + 1) with
          | nil =>
            have := congrArg List.length hd
            rw [List.length_drop, List.length_nil] at this
            omega
          | cons x y => rfl
      rw [HEM.out] at HEQ
      unfold sgOk at HEQ
      unfold sgv at HSE HAC
      clear hs hrg hsk hcr HD HEM HSA
      obtain ⟨n, z, c⟩ := s
      simp only at HR0 HEQ HSE HAC
      by_cases c1 : n ≤ bef
      · have HF : Hid (sgsOk next 0 l = false) := by
          show _ = _
          rw [HEQ.out, decide_eq_false (by omega)]; rfl
        clear HEQ HSE HAC
        go_wp2_with (refine wpList_load_mid rfl 46 _ rfl b (off + k * 3) rfl [.int .i64 n, .int .i64 z, .int .i64 c] _ HR0.out Tryd.underlying46 rfl HIS.out ?_)
        go_ret
        exact ⟨by rw [HF.out]; rfl, HB.out _⟩
      · by_cases c2 : next ≤ n
        · have HF : Hid (sgsOk next 0 l = false) := by
            show _ = _
            rw [HEQ.out, decide_eq_false (show ¬ n < next by omega), Bool.false_and, Bool.and_false]; rfl
          clear HEQ HSE HAC
          go_wp2_with (refine wpList_load_mid rfl 46 _ rfl b (off + k * 3) rfl [.int .i64 n, .int .i64 z, .int .i64 c] _ HR0.out Tryd.underlying46 rfl HIS.out ?_)
          go_ret
          exact ⟨by rw [HF.out]; rfl, HB.out _⟩
        · rw [decide_eq_true (show bef < n by omega), decide_eq_true (show n < next by omega), Bool.true_and, Bool.true_and] at HEQ
          by_cases c3 : k + 1 = l.length
          · rw [decide_eq_true c3, if_pos rfl] at HEQ
            cases hA : (decide (z = 0) && decide (c = 0)) with
            | true =>
              rw [hA] at HAC HEQ
              have HR : Hid (sgsOk next n (l.drop (k + 1)) = sgsOk next 0 l) := by
                show _ = _
                rw [HEQ.out, Bool.true_and]
              clear hA HEQ HSE
              obtain rfl : la = (k : Int) := by have := HLA.out; omega
              go_wp2_with (refine wpList_load_mid rfl 46 _ rfl b (off + k * 3) rfl [.int .i64 n, .int .i64 z, .int .i64 c] _ HR0.out Tryd.underlying46 rfl HIS.out ?_)
              refine (HAC.out _).mono ?_
              rintro e w1 ⟨rfl, b1⟩
              have B1 := andThen (HB.out _) b1
              have hl1 : w1.cell? ⟨wr.heap.size, 0, none⟩ = some (.int .i64 n) := (b1.cell (p := ⟨wr.heap.size, 0, none⟩) (by show wr.heap.size < (wr.alloc _).heap.size; rw [heap1]; omega)).trans (World.cell?_alloc_new wr _ _ 0)
              clear b1
              go_wp2
              go_roundw
              case rel =>
                first
                  | exact ⟨k + 1, n, by omega, rfl, by go_num, HR.out, B1⟩
                  | (repeat apply Exists.intro
                     exact ⟨⟨k + 1, n, by omega, rfl, by go_num, HR.out, B1⟩, rfl⟩)
              case measure => first | (simp [intOf]; done) | (simp [intOf]; omega)
            | false =>
              rw [hA] at HAC HEQ
              have HF : Hid (sgsOk next 0 l = false) := by
                show _ = _
                rw [HEQ.out, Bool.false_and]
              clear hA HEQ HSE
              obtain rfl : la = (k : Int) := by have := HLA.out; omega
              go_wp2_with (refine wpList_load_mid rfl 46 _ rfl b (off + k * 3) rfl [.int .i64 n, .int .i64 z, .int .i64 c] _ HR0.out Tryd.underlying46 rfl HIS.out ?_)
              refine (HAC.out _).mono ?_
              rintro e w1 ⟨rfl, b1⟩
              have B1 := andThen (HB.out _) b1
              clear b1
              go_wp2
              go_ret
              exact ⟨by rw [HF.out]; rfl, B1⟩
          · have q1 : (k : Int) < la := by have := HLA.out; omega
            rw [decide_eq_false c3, if_neg (by decide)] at HEQ
            cases hA : (decide (1 ≤ z) && (decide (z ≤ 524288) && (decide (0 ≤ c) && decide (c ≤ 524288)))) with
            | true =>
              rw [hA] at HSE HEQ
              have HR : Hid (sgsOk next n (l.drop (k + 1)) = sgsOk next 0 l) := by
                show _ = _
                rw [HEQ.out, Bool.true_and]
              clear hA HEQ HAC
              go_wp2_with (refine wpList_load_mid rfl 46 _ rfl b (off + k * 3) rfl [.int .i64 n, .int .i64 z, .int .i64 c] _ HR0.out Tryd.underlying46 rfl HIS.out ?_)
              refine (HSE.out _).mono ?_
              rintro e w1 ⟨rfl, b1⟩
              have B1 := andThen (HB.out _) b1
              have hl1 : w1.cell? ⟨wr.heap.size, 0, none⟩ = some (.int .i64 n) := (b1.cell (p := ⟨wr.heap.size, 0, none⟩) (by show wr.heap.size < (wr.alloc _).heap.size; rw [heap1]; omega)).trans (World.cell?_alloc_new wr _ _ 0)
              clear b1
              go_wp2
              go_roundw
              case rel =>
                first
                  | exact ⟨k + 1, n, by omega, rfl, by go_num, HR.out, B1⟩
                  | (repeat apply Exists.intro
                     exact ⟨⟨k + 1, n, by omega, rfl, by go_num, HR.out, B1⟩, rfl⟩)
              case measure => first | (simp [intOf]; done) | (simp [intOf]; omega)
            | false =>
              rw [hA] at HSE HEQ
              have HF : Hid (sgsOk next 0 l = false) := by
                show _ = _
                rw [HEQ.out, Bool.false_and]
              clear hA HEQ HAC
              go_wp2_with (refine wpList_load_mid rfl 46 _ rfl b (off + k * 3) rfl [.int .i64 n, .int .i64 z, .int .i64 c] _ HR0.out Tryd.underlying46 rfl HIS.out ?_)
              refine (HSE.out _).mono ?_
              rintro e w1 ⟨rfl, b1⟩
              have B1 := andThen (HB.out _) b1
              clear b1
              go_wp2
              go_ret
              exact ⟨by rw [HF.out]; rfl, B1⟩
    · obtain rfl : k = l.length := by omega
      rw [List.drop_length] at hs
      have HT : Hid (sgsOk next 0 l = true) := by
        show _ = _
        rw [← hs]
        rfl
      clear hs
      go_wp2
      go_ret
      exact ⟨by rw [HT.out]; rfl, hbel⟩
end Go.Proofs.YtpikdngccgdhiaaDoor

/-
  Package manifest: Check.
-/
namespace Go.Proofs.YtpikdngccgdhiaaDoor
open Go Go.RowKit
open Wb

set_option maxRecDepth 100000 in
set_option maxHeartbeats 4000000 in
theorem check_any (m : Mf) (v : Value) (w : World) (h : SgsAt w v m.l) :
    Calls Tryd.prog 8 #[mfv m v] w fun e w' => e = .returned (.int .i64 (chkM m : Int)) ∧ Below w.heap.size w w' := by
  have HSA : Hid (∀ w', Below w.heap.size w w' → SgsAt w' v m.l) := fun w' hb => h.kept hb
  obtain ⟨ao, cap, rfl, hc1, hc2, _⟩ := h
  unfold maxLen at hc2
  obtain ⟨g, vv, x, t, l⟩ := m
  unfold mfv
  simp only at *
  have HI : Hid (∀ n w', Calls Tryd.prog 26 #[.int .i64 n] w' fun e w'' => e = .returned (.bool (decide (1 ≤ n ∧ n ≤ 1099511627776))) ∧ w'' = w') := isnum_any
  by_cases h1 : 1 ≤ g ∧ g ≤ 1099511627776
  · by_cases h2 : vv < 1 ∨ 3 < vv
    · have HC : Hid (chkM ⟨g, vv, x, t, l⟩ = 3) := by
        show _ = _
        unfold chkM
        rw [if_neg (fun h => h h1), if_pos h2]
      have d1 : decide (1 ≤ g ∧ g ≤ 1099511627776) = true := decide_eq_true h1
      clear HSA h1
      rcases h2 with h2 | h2
      · go_enter Tryd.func8, Tryd.ntmps8
        go_wp2_with (go_at_call 26; refine (HI.out _ _).mono ?_; rintro e w1 ⟨rfl, rfl⟩; rw [d1])
        go_ret
        exact ⟨by rw [HC.out]; rfl, up0 _ _⟩
      · go_enter Tryd.func8, Tryd.ntmps8
        go_wp2_with (go_at_call 26; refine (HI.out _ _).mono ?_; rintro e w1 ⟨rfl, rfl⟩; rw [d1])
        go_ret
        exact ⟨by rw [HC.out]; rfl, up0 _ _⟩
    · have h2a : ¬ vv < 1 := fun h => h2 (.inl h)
      have h2b : ¬ 3 < vv := fun h => h2 (.inr h)
      have d1 : decide (1 ≤ g ∧ g ≤ 1099511627776) = true := decide_eq_true h1
      by_cases h3 : 1 ≤ x ∧ x ≤ 1099511627776
      · have d3 : decide (1 ≤ x ∧ x ≤ 1099511627776) = true := decide_eq_true h3
        by_cases h4 : t < 0
        · have HC : Hid (chkM ⟨g, vv, x, t, l⟩ = 86) := by
            show _ = _
            unfold chkM
            rw [if_neg (fun h => h h1), if_neg h2, if_neg (fun h => h h3), if_pos h4]
          clear HSA h1 h2 h3
          go_enter Tryd.func8, Tryd.ntmps8
          go_wp2_with (go_at_call 26; refine (HI.out _ _).mono ?_; rintro e w1 ⟨rfl, rfl⟩; first | rw [d1] | rw [d3])
          go_ret
          exact ⟨by rw [HC.out]; rfl, up0 _ _⟩
        · by_cases h5 : l.length = 0 ∨ 128 < l.length
          · have HC : Hid (chkM ⟨g, vv, x, t, l⟩ = 82) := by
              show _ = _
              unfold chkM
              rw [if_neg (fun h => h h1), if_neg h2, if_neg (fun h => h h3), if_neg h4, if_pos h5]
            clear HSA h1 h2 h3
            rcases h5 with h5 | h5
            · rw [h5]
              go_enter Tryd.func8, Tryd.ntmps8
              go_wp2_with (go_at_call 26; refine (HI.out _ _).mono ?_; rintro e w1 ⟨rfl, rfl⟩; first | rw [d1] | rw [d3])
              go_ret
              exact ⟨by rw [HC.out]; rfl, up0 _ _⟩
            · have h5z : ((l.length : Int) == 0) = false := by rw [beq_eq_false_iff_ne]; omega
              go_enter Tryd.func8, Tryd.ntmps8
              go_wp2_with (go_at_call 26; refine (HI.out _ _).mono ?_; rintro e w1 ⟨rfl, rfl⟩; first | rw [d1] | rw [d3])
              go_ret
              exact ⟨by rw [HC.out]; rfl, up0 _ _⟩
          · have HA : Hid (∀ w', Below w.heap.size w w' → Calls Tryd.prog 27 #[.slice ao l.length cap, .int .i64 x] w' fun e w'' => e = .returned (.bool (sgsOk x 0 l)) ∧ Below w'.heap.size w' w'') := fun w' hb => areSegs_any _ l x w' (HSA.out w' hb) (by omega) (by omega)
            have h5a : ¬ l.length = 0 := fun h => h5 (.inl h)
            have h5b : ¬ 128 < l.length := fun h => h5 (.inr h)
            have h5z : ((l.length : Int) == 0) = false := by rw [beq_eq_false_iff_ne]; omega
            have HC : Hid (chkM ⟨g, vv, x, t, l⟩ = if sgsOk x 0 l = true then 0 else 83) := by
              show _ = _
              unfold chkM
              rw [if_neg (fun h => h h1), if_neg h2, if_neg (fun h => h h3), if_neg h4, if_neg h5]
            clear HSA h1 h2 h3 h5
            cases hs : sgsOk x 0 l with
            | true =>
              rw [hs] at HA HC
              clear hs
              go_enter Tryd.func8, Tryd.ntmps8
              go_wp2_with (first
                | (go_at_call 26; refine (HI.out _ _).mono ?_; rintro e w1 ⟨rfl, rfl⟩; first | rw [d1] | rw [d3])
                | (go_at_call 27; refine (HA.out _ (up0 _ _)).mono ?_; rintro e w1 ⟨rfl, b1⟩; have B1 := andThen (up0 w _) b1))
              go_ret
              exact ⟨by rw [HC.out]; rfl, B1⟩
            | false =>
              rw [hs] at HA HC
              clear hs
              go_enter Tryd.func8, Tryd.ntmps8
              go_wp2_with (first
                | (go_at_call 26; refine (HI.out _ _).mono ?_; rintro e w1 ⟨rfl, rfl⟩; first | rw [d1] | rw [d3])
                | (go_at_call 27; refine (HA.out _ (up0 _ _)).mono ?_; rintro e w1 ⟨rfl, b1⟩; have B1 := andThen (up0 w _) b1))
              go_ret
              exact ⟨by rw [HC.out]; rfl, B1⟩
      · have d3 : decide (1 ≤ x ∧ x ≤ 1099511627776) = false := decide_eq_false h3
        have HC : Hid (chkM ⟨g, vv, x, t, l⟩ = 81) := by
          show _ = _
          unfold chkM
          rw [if_neg (fun h => h h1), if_neg h2, if_pos h3]
        clear HSA h1 h2 h3
        go_enter Tryd.func8, Tryd.ntmps8
        go_wp2_with (go_at_call 26; refine (HI.out _ _).mono ?_; rintro e w1 ⟨rfl, rfl⟩; first | rw [d1] | rw [d3])
        go_ret
        exact ⟨by rw [HC.out]; rfl, up0 _ _⟩
  · have HC : Hid (chkM ⟨g, vv, x, t, l⟩ = 80) := by
      show _ = _
      unfold chkM
      rw [if_pos h1]
    have d1 : decide (1 ≤ g ∧ g ≤ 1099511627776) = false := decide_eq_false h1
    clear HSA h1
    go_enter Tryd.func8, Tryd.ntmps8
    go_wp2_with (go_at_call 26; refine (HI.out _ _).mono ?_; rintro e w1 ⟨rfl, rfl⟩; rw [d1])
    go_ret
    exact ⟨by rw [HC.out]; rfl, up0 _ _⟩
end Go.Proofs.YtpikdngccgdhiaaDoor

/-
  Package manifest: put, Encode.
-/
namespace Go.Proofs.YtpikdngccgdhiaaDoor
open Go Go.RowKit
open Wb

/-- append(v, x...) of bytes onto a row of the call's own, and where it lies -/
theorem wpList_append_at {P : Program} (w : World) {ops : Array Oper} {rest : List Oper} {o : Oper} {a : Act} {Q : Exit → Act → World → Prop} (hgd : o.guard = none) (s x : Operand) (t : TypeId)
    (ho : o.op = .call { callee := .builtin .append, args := #[s, x], argTypes := #[t, t] })
    (B : Nat) (hinfo : (P.info? 5).map (fun i => (i.zero, i.size, i.bytes)) = some (some (.int .u8 0), 1, 1)) (ht : P.underlying t = some (.slice 5))
    (v : Value) (l : List Nat) (hv : a.eval s = v) (h : Own B w v l) (xv : Value) (m : List Nat) (hx : a.eval x = xv) (hm : Bs w xv m)
    (hmax : l.length + m.length ≤ 140737488355328) (hB : B ≤ w.heap.size)
    (hK : ∀ v' w', Own B w' v' (l ++ m) → w.grownBy w' v.ownBlock → (v'.ownBlock = v.ownBlock ∨ v'.ownBlock = some w.heap.size) → wpList P ops Q rest (a.put o.dst v') w') : wpList P ops Q (o :: rest) a w := by
  obtain ⟨i0, hi, hz0, hz1, hz2⟩ := info_parts hinfo
  obtain ⟨ao, cap, rfl, hl, hmx, hn, hc⟩ := hm.shape
  cases ao with
  | none =>
    obtain rfl := hn rfl
    have h0 : m = [] := List.eq_nil_of_length_eq_zero (by omega)
    subst h0
    refine wpList_append_own_none hgd s x t ho B 5 i0 1 ht hi v l.length (bv l) hv h.row hx ?_
    exact hK v w (by simpa using h) (World.grownBy.refl _ _) (.inl rfl)
  | some ad =>
    refine wpList_append_own_at w hgd s x t ho B 5 i0 (.int .u8 0) 1 1 ht hi hz0 hz1 hz2 rfl (by decide) v l.length (bv l) hv h.row ad m.length cap (bv m) hx (by rw [bv_length, Nat.mul_one]) ?_ (bv_one m) (by unfold maxLen; omega) (by omega) hB ?_
    · intro j u hj
      have hjl : j < m.length := by have := (List.getElem?_eq_some_iff.1 hj).1; rwa [bv_length] at this
      obtain ⟨b, off, e, hcell⟩ := hc (List.ne_nil_of_length_pos (by omega))
      obtain rfl := Option.some.inj e
      rw [bv_get m j hjl] at hj
      rw [Addr.add_lit, hcell j hjl]
      exact hj
    · intro v' w' h1 h2 _ h4
      refine hK v' w' ⟨?_, ok_append h.good hm.good⟩ h2 h4
      rw [List.length_append, bv_append]
      exact h1
theorem own_slice {B : Nat} {w : World} {v : Value} {l : List Nat} (h : Own B w v l) : ∃ a, ∃ n c : Nat, v = .slice a n c := by
  obtain ⟨a, c, e, _⟩ := h.bs.shape
  exact ⟨a, _, c, e⟩
/-- numbers in a slice that was handed in -/
def IntsAt (w : World) (v : Value) (ns : List Int) : Prop := ∃ ao, ∃ cap : Nat, v = .slice ao ns.length cap ∧ ns.length ≤ cap ∧ cap ≤ maxLen ∧ ∀ (k : Nat) (n : Int), ns[k]? = some n → ∃ b off, ao = some ⟨b, off, none⟩ ∧ b < w.heap.size ∧ w.cell? ⟨b, off + k, none⟩ = some (.int .i64 n)
theorem putL_snoc (ns : List Int) (k : Nat) (n : Int) (h : ns[k]? = some n) : putL (ns.take (k + 1)) = putL (ns.take k) ++ Wn.uint n.toNat := by
  rw [List.take_add_one, h]
  simp [putL]
/-- blocks that another row's writing leaves alone -/
theorem grown_then {w w1 w2 : World} {row v : Value} (h : w.grownBy w1 row.ownBlock) (hv : v.ownBlock = row.ownBlock ∨ ∀ g, v.ownBlock = some g → w.heap.size ≤ g) (k : w1.grownBy w2 v.ownBlock) : w.grownBy w2 row.ownBlock :=
  ⟨k.os.trans h.os, k.tape.trans h.tape, k.output.trans h.output, Nat.le_trans h.size k.size, fun g hg hne => by
    rw [k.block g (Nat.lt_of_lt_of_le hg h.size) (fun e => ?_)]
    · exact h.block g hg hne
    · rcases hv with hv | hv
      · exact hne (e.trans hv)
      · have := hv g e.symm
        omega⟩
theorem grown_below2 {w w1 w2 : World} {row : Value} (h : w.grownBy w1 row.ownBlock) (k : Below w1.heap.size w1 w2) : w.grownBy w2 row.ownBlock :=
  ⟨k.os.trans h.os, k.tape.trans h.tape, k.output.trans h.output, Nat.le_trans h.size k.size, fun g hg hne => (k.block g (Nat.lt_of_lt_of_le hg h.size)).trans (h.block g hg hne)⟩
/-- where a row lies that began as row -/
def Hereby (w : World) (row v : Value) : Prop := v.ownBlock = row.ownBlock ∨ ∀ g, v.ownBlock = some g → w.heap.size ≤ g
set_option maxRecDepth 100000 in
set_option maxHeartbeats 4000000 in
theorem put_any (B : Nat) (bw : Value) (l : List Nat) (nv : Value) (ns : List Int) (w : World) (hO : Own B w bw l) (hB : B ≤ w.heap.size) (hN : IntsAt w nv ns) (hap : ∀ ao n cap b off, nv = .slice ao n cap → ao = some ⟨b, off, none⟩ → bw.ownBlock ≠ some b)
    (hpos : ∀ n ∈ ns, 0 ≤ n ∧ n ≤ 9223372036854775807) (hlen : l.length + 10 * ns.length ≤ 100000) :
    Calls Tryd.prog 28 #[bw, nv] w fun e w' => ∃ v', e = .returned v' ∧ Own B w' v' (l ++ putL ns) ∧ w.grownBy w' bw.ownBlock ∧ Hereby w bw v' := by
  have hin := info5
  obtain ⟨ao, cap, rfl, hc1, hc2, hcell⟩ := hN
  unfold maxLen at hc2
  have HCE : Hid (∀ (k : Nat) (n : Int), ns[k]? = some n → ∃ b off, ao = some ⟨b, off, none⟩ ∧ ∀ w', w.grownBy w' bw.ownBlock → w'.cell? ⟨b, off + k, none⟩ = some (.int .i64 n)) := fun k n hn => by
    obtain ⟨b, off, e, hb, hcl⟩ := hcell k n hn
    refine ⟨b, off, e, fun w' hg => ?_⟩
    have := hg.block b hb (fun e2 => hap _ _ _ b off rfl e e2.symm)
    rw [World.cell?_of_block (a := ⟨b, off + k, none⟩) this]
    exact hcl
  have HPO : Hid (∀ n ∈ ns, 0 ≤ n ∧ n ≤ 9223372036854775807) := hpos
  have HPL : Hid (∀ k, (putL (ns.take k)).length ≤ 10 * ns.length) := fun k => by
    have h1 := putL_len (ns.take k) (fun n hn => (hpos n (List.mem_of_mem_take hn)).2)
    have h2 : (ns.take k).length ≤ ns.length := List.length_take_le' k ns
    omega
  have HB : Hid (Own B w bw l ∧ B ≤ w.heap.size) := ⟨hO, hB⟩
  obtain ⟨ab, nb, cb, eb⟩ := own_slice hO
  subst eb
  clear hcell hap hpos hO hB
  go_enter Tryd.func28, Tryd.ntmps28
  go_wp2
  go_loopw [0, 9] (fun b i wr => ∃ (k : Nat), k ≤ ns.length ∧ i = .int .i64 (k : Int) ∧ Own B wr b (l ++ putL (ns.take k)) ∧ w.grownBy wr (Value.slice ab nb cb).ownBlock ∧ Hereby w (.slice ab nb cb) b) (fun _ i _ => ns.length - (intOf i).toNat)
  case atStart => exact ⟨0, Nat.zero_le _, rfl, by simpa [putL] using HB.out.1, World.grownBy.refl _ _, .inl rfl⟩
  case round =>
    obtain ⟨k, hk, rfl, ho, hg, hh⟩ := hrel
    by_cases hlt : k < ns.length
    · obtain ⟨n, hn⟩ : ∃ n, ns[k]? = some n := ⟨ns[k], List.getElem?_eq_getElem hlt⟩
      obtain ⟨hn0, hn1⟩ := HPO.out n (List.mem_of_getElem? hn)
      obtain ⟨u, rfl⟩ : ∃ u : Nat, n = (u : Int) := ⟨n.toNat, by omega⟩
      obtain ⟨b, off, rfl, hcl⟩ := HCE.out k _ hn
      have q0 := hcl wr hg
      have HM : Hid (putL (ns.take (k + 1)) = putL (ns.take k) ++ Wn.uint u) := by
        show _ = _
        rw [putL_snoc ns k _ hn]
        simp
      have HU : Hid (∀ w', Calls Tryd.prog 44 #[.int .u64 (u : Int)] w' fun e w'' => ∃ v', e = .returned v' ∧ Own w'.heap.size w'' v' (Wn.uint u) ∧ Below w'.heap.size w' w'') := fun w' => uint_any u w' (by omega)
      have hul := Wn.uint_len10 u (by omega)
      have hpl := HPL.out k
      have HX : Hid (Own B wr u0 (l ++ putL (ns.take k)) ∧ w.grownBy wr (Value.slice ab nb cb).ownBlock ∧ Hereby w (.slice ab nb cb) u0 ∧ B ≤ wr.heap.size) := ⟨ho, hg, hh, Nat.le_trans HB.out.2 hg.size⟩
      obtain ⟨a0, m0, c0, e0⟩ := own_slice ho
      subst e0
      clear hcl hn ho hg hh HPO HCE HPL HB
      generalize putL (ns.take k) = m at *
      generalize Wn.uint u = f at *
      go_wp2_with fail
      refine (HU.out _).mono ?_
      rintro e w4 ⟨v4, rfl, ho4, b4⟩
      obtain ⟨a4, n4, c4, e4⟩ := own_slice ho4
      subst e4
      have HO : Hid (Own B w4 (.slice a0 m0 c0) (l ++ m) ∧ Bs w4 (.slice a4 n4 c4) f ∧ B ≤ w4.heap.size ∧ wr.heap.size ≤ w4.heap.size) := ⟨HX.out.1.kept b4, ho4.bs, Nat.le_trans HX.out.2.2.2 b4.size, b4.size⟩
      have HG4 : Hid (w.grownBy w4 (Value.slice ab nb cb).ownBlock) := grown_below2 HX.out.2.1 b4
      have hml : (l ++ m).length + f.length ≤ 140737488355328 := by rw [List.length_append]; omega
      clear ho4 b4 q0 HU
      go_wp2_with (at_builtin; refine wpList_append_at _ rfl (.tmp 13) (.tmp 16) 25 rfl B hin Tryd.underlying25 _ (l ++ m) rfl HO.out.1 _ f rfl HO.out.2.1 hml HO.out.2.2.1 ?_)
      intro v5 w5 ho5 g5 hat5
      have R : Hid (Own B w5 v5 (l ++ putL (ns.take (k + 1))) ∧ w.grownBy w5 (Value.slice ab nb cb).ownBlock ∧ Hereby w (.slice ab nb cb) v5) := ⟨by rw [HM.out]; exact ho5, grown_then HG4.out HX.out.2.2.1 g5, by
        rcases hat5 with e | e
        · rcases HX.out.2.2.1 with h | h
          · exact .inl (e.trans h)
          · exact .inr fun g hg => h g (e ▸ hg)
        · refine .inr fun g hg => ?_
          rw [e] at hg
          have h1 := Option.some.inj hg
          have h2 := HG4.out.size
          omega⟩
      clear ho5 g5 hat5 HO HG4 HX
      go_wp2
      go_roundw
      case rel => exact ⟨k + 1, by omega, by go_num, R.out.1, R.out.2.1, R.out.2.2⟩
      case measure => simp [intOf]; omega
    · obtain rfl : k = ns.length := by omega
      rw [List.take_length] at ho
      clear HPO HCE HPL HB
      go_wp2
      go_ret
      exact ⟨_, rfl, ho, hg, hh⟩
end Go.Proofs.YtpikdngccgdhiaaDoor

/-
  Package manifest: Encode.
-/
namespace Go.Proofs.YtpikdngccgdhiaaDoor
open Go Go.RowKit
open Wb

theorem own_weakM {B B2 : Nat} {w : World} {d : Value} {l : List Nat} (h : Own B2 w d l) (hB : B ≤ B2) : Own B w d l := by
  refine ⟨⟨h.row.1, ?_⟩, h.good⟩
  rcases h.row.2 with h1 | ⟨g, cap, cur, e, hb, rest⟩
  · exact .inl h1
  · exact .inr ⟨g, cap, cur, e, Nat.le_trans hB hb, rest⟩
theorem fits_cons {b : Int} {s : Sg} {r : List Sg} (h : Fits b (s :: r)) : b ≤ s.n ∧ s.n ≤ 1099511627776 ∧ 0 ≤ s.s ∧ s.s ≤ 524288 ∧ 0 ≤ s.c ∧ s.c ≤ 524288 ∧ Fits s.n r := h
theorem ints_new (w : World) (ns : List Int) (cs : Array Value) (t : TypeId) (hcs : cs = (ns.map fun n => Value.int .i64 n).toArray) (h : ns.length ≤ 100) : IntsAt (w.alloc (.cells cs t)) (.slice (some ⟨w.heap.size, 0, none⟩) ns.length ns.length) ns := by
  subst hcs
  refine ⟨_, ns.length, rfl, Nat.le_refl _, by unfold maxLen; omega, fun k n hn => ⟨w.heap.size, 0, rfl, by rw [heap1]; omega, ?_⟩⟩
  rw [Nat.zero_add]
  have := World.cell?_alloc_new w (ns.map fun n => Value.int .i64 n).toArray t k
  rw [this]
  simp [hn]
set_option maxRecDepth 100000 in
set_option maxHeartbeats 4000000 in
theorem encode_bad (m : Mf) (v : Value) (w : World) (h : SgsAt w v m.l) (hc : chkM m ≠ 0) :
    Calls Tryd.prog 10 #[mfv m v] w fun e w' => e = .returned (.tuple #[.slice none 0 0, .int .i64 (chkM m : Int)]) ∧ Below w.heap.size w w' := by
  have HCK : Hid (∀ w', Below w.heap.size w w' → Calls Tryd.prog 8 #[mfv m v] w' fun e w'' => e = .returned (.int .i64 (chkM m : Int)) ∧ Below w'.heap.size w' w'') := fun w' hb => check_any m v w' (h.kept hb)
  obtain ⟨ao, cap, rfl, _, _, _⟩ := h
  obtain ⟨z, hz⟩ : ∃ z : Int, z = (chkM m : Int) := ⟨_, rfl⟩
  have hz0 : ¬ z = 0 := by omega
  rw [← hz] at HCK ⊢
  obtain ⟨g, vv, x, t, l⟩ := m
  unfold mfv at *
  clear hz hc
  simp only at *
  go_enter Tryd.func10, Tryd.ntmps10
  go_wp2_with (go_at_call 8; refine (HCK.out _ (up0 _ _)).mono ?_; rintro e w1 ⟨rfl, b1⟩; have B1 := andThen (up0 w _) b1)
  go_ret2
  exact ⟨rfl, B1⟩
set_option maxRecDepth 100000 in
set_option maxHeartbeats 4000000 in
theorem encode_good (m : Mf) (v : Value) (w : World) (hT : Tab w) (h : SgsAt w v m.l) (hc : chkM m = 0) (ht : m.t ≤ 9223372036854775807) :
    Calls Tryd.prog 10 #[mfv m v] w fun e w' => ∃ v', e = .returned (.tuple #[v', .int .i64 0]) ∧ Own w.heap.size w' v' (encM m) ∧ Below w.heap.size w w' := by
  have hin := info5
  have HIS : Hid ((Tryd.prog.info? 46).map (·.size) = some 3) := infoSg
  have HCK : Hid (∀ w', Below w.heap.size w w' → Calls Tryd.prog 8 #[mfv m v] w' fun e w'' => e = .returned (.int .i64 0) ∧ Below w'.heap.size w' w'') := fun w' hb => by
    have h9 := check_any m v w' (h.kept hb)
    rw [hc] at h9
    exact h9
  have HTB : Hid (∀ w', Below w.heap.size w w' → Tab w') := fun w' hb => hT.kept hb
  have HSA : Hid (∀ w', Below w.heap.size w w' → SgsAt w' v m.l) := fun w' hb => h.kept hb
  obtain ⟨p1, p2, p3, p4, p5, p6, p7, p8, p9, p10⟩ := chk_parts hc
  have HFT : Hid (Fits 0 m.l) := fits_of m.x p6 m.l 0 p10
  have HNM : Hid (∀ n ∈ numsM m, 0 ≤ n ∧ n ≤ 9223372036854775807) := numsM_le hc ht
  have HBL : Hid ((bodyM m).length ≤ 4000) := bodyM_len hc ht
  have HEN : Hid (encM m = fr (bodyM m)) := rfl
  have HBO : Hid ([77] ++ putL [m.g, m.v, m.x, m.t, (m.l.length : Int)] ++ putL (sgNums 0 m.l) = bodyM m) := by
    show _ = _
    unfold bodyM numsM
    simp [putL]
  obtain ⟨ao, cap, rfl, hc1, hc2, _⟩ := h
  unfold maxLen at hc2
  obtain ⟨E, hE⟩ : ∃ E, E = encM m := ⟨_, rfl⟩
  obtain ⟨bd, hbd⟩ : ∃ bd, bd = bodyM m := ⟨_, rfl⟩
  rw [← hE] at HEN ⊢
  rw [← hbd] at HEN HBO HBL
  obtain ⟨g, vv, x, t, l⟩ := m
  unfold mfv at *
  simp only [numsM] at *
  clear hc hE hbd p10
  have HN5 : Hid (∀ n ∈ [g, vv, x, t, (l.length : Int)], 0 ≤ n ∧ n ≤ 9223372036854775807) := fun n hn => HNM.out n (by
    simp only [List.mem_cons, List.not_mem_nil, or_false] at hn ⊢
    rcases hn with h | h | h | h | h <;> simp [h])
  have HMB : Hid (∀ w', Below (w.alloc (.cells #[.int .i64 g, .int .i64 vv, .int .i64 x, .int .i64 t, .slice ao l.length cap] 24)).heap.size (w.alloc (.cells #[.int .i64 g, .int .i64 vv, .int .i64 x, .int .i64 t, .slice ao l.length cap] 24)) w' → w'.cell? ⟨w.heap.size, 0, none⟩ = some (.int .i64 g) ∧ w'.cell? ⟨w.heap.size, 1, none⟩ = some (.int .i64 vv) ∧ w'.cell? ⟨w.heap.size, 2, none⟩ = some (.int .i64 x) ∧ w'.cell? ⟨w.heap.size, 3, none⟩ = some (.int .i64 t) ∧ w'.cell? ⟨w.heap.size, 4, none⟩ = some (.slice ao l.length cap)) := fun w' hb => by
    have hl : w.heap.size < (w.alloc (.cells #[.int .i64 g, .int .i64 vv, .int .i64 x, .int .i64 t, .slice ao l.length cap] 24)).heap.size := by rw [heap1]; omega
    refine ⟨?_, ?_, ?_, ?_, ?_⟩
    · exact (hb.cell (p := ⟨w.heap.size, 0, none⟩) hl).trans (World.cell?_alloc_new w _ _ 0)
    · exact (hb.cell (p := ⟨w.heap.size, 1, none⟩) hl).trans (World.cell?_alloc_new w _ _ 1)
    · exact (hb.cell (p := ⟨w.heap.size, 2, none⟩) hl).trans (World.cell?_alloc_new w _ _ 2)
    · exact (hb.cell (p := ⟨w.heap.size, 3, none⟩) hl).trans (World.cell?_alloc_new w _ _ 3)
    · exact (hb.cell (p := ⟨w.heap.size, 4, none⟩) hl).trans (World.cell?_alloc_new w _ _ 4)
  go_enter Tryd.func10, Tryd.ntmps10
  go_wp2_with fail
  refine (HCK.out _ (up0 _ _)).mono ?_
  rintro e w1 ⟨rfl, b1⟩
  have q0 := fun o => (HMB.out _ (up b1 o)).1
  have q1 := fun o => (HMB.out _ (up b1 o)).2.1
  have q2 := fun o => (HMB.out _ (up b1 o)).2.2.1
  have q3 := fun o => (HMB.out _ (up b1 o)).2.2.2.1
  have q4 := fun o => (HMB.out _ (up b1 o)).2.2.2.2
  have HW0 : Hid (∀ w', Below (w.alloc (.cells #[.int .i64 g, .int .i64 vv, .int .i64 x, .int .i64 t, .slice ao l.length cap] 24)).heap.size (w.alloc (.cells #[.int .i64 g, .int .i64 vv, .int .i64 x, .int .i64 t, .slice ao l.length cap] 24)) w' → Below w.heap.size w w') := fun w' hb => andThen (up0 w _) hb
  have HB1 : Hid (Below (w.alloc (.cells #[.int .i64 g, .int .i64 vv, .int .i64 x, .int .i64 t, .slice ao l.length cap] 24)).heap.size (w.alloc (.cells #[.int .i64 g, .int .i64 vv, .int .i64 x, .int .i64 t, .slice ao l.length cap] 24)) w1) := b1
  clear b1
  have HP1 : Hid (∀ o2, Calls Tryd.prog 28 #[.slice (some ⟨w1.heap.size, 0, none⟩) 1 1, .slice (some ⟨w1.heap.size + 1, 0, none⟩) 5 5] ((w1.alloc (.cells #[.int .u8 77] 5)).alloc (.cells #[.int .i64 g, .int .i64 vv, .int .i64 x, .int .i64 t, .int .i64 (l.length : Int)] o2)) fun e w' => ∃ v', e = .returned v' ∧ Own w1.heap.size w' v' ([77] ++ putL [g, vv, x, t, (l.length : Int)]) ∧ Below w1.heap.size w1 w') := fun o2 => by
    have hO := (Own.lit (B := w1.heap.size) w1 [77] (by intro q hq; simp at hq; omega) (Nat.le_refl _) (by simp [maxLen]) #[.int .u8 77] rfl).kept (up0 _ (.cells #[.int .i64 g, .int .i64 vv, .int .i64 x, .int .i64 t, .int .i64 (l.length : Int)] o2))
    have hN := ints_new (w1.alloc (.cells #[.int .u8 77] 5)) [g, vv, x, t, (l.length : Int)] #[.int .i64 g, .int .i64 vv, .int .i64 x, .int .i64 t, .int .i64 (l.length : Int)] o2 rfl (by simp)
    rw [heap1] at hN
    refine (put_any w1.heap.size _ [77] _ _ _ hO (by rw [heap1, heap1]; omega) hN (fun ao n cap b off e1 e2 e3 => ?_) HN5.out (by simp)).mono ?_
    · simp only [Value.slice.injEq] at e1
      rw [← e1.1] at e2
      simp only [Option.some.injEq, Addr.mk.injEq] at e2
      simp only [Value.ownBlock, Option.some.injEq] at e3
      omega
    · rintro e w' ⟨v', rfl, h1, h2, _⟩
      refine ⟨v', rfl, h1, ?_⟩
      exact (((Below.refl _ w1).alloc (Nat.le_refl _) _).alloc (by rw [heap1]; omega) _).grown h2 (by rw [heap1, heap1]; omega) (fun k hk => by
        simp only [Value.ownBlock, Option.some.injEq] at hk
        omega)
  go_wp2_with fail
  refine (HP1.out _).mono ?_
  rintro e w2 ⟨v2, rfl, ho2, b2⟩
  obtain ⟨a2, n2, c2, e2⟩ := own_slice ho2
  subst e2
  have HB2 : Hid (Below (w.alloc (.cells #[.int .i64 g, .int .i64 vv, .int .i64 x, .int .i64 t, .slice ao l.length cap] 24)).heap.size (w.alloc (.cells #[.int .i64 g, .int .i64 vv, .int .i64 x, .int .i64 t, .slice ao l.length cap] 24)) w2) := HB1.out.trans (b2.mono HB1.out.size)
  have q5 := (HMB.out _ HB2.out).2.2.2.2
  have HO2 : Hid (Own w1.heap.size w2 (.slice a2 n2 c2) ([77] ++ putL [g, vv, x, t, (l.length : Int)]) ∧ Below w1.heap.size w1 w2) := ⟨ho2, b2⟩
  clear ho2 b2 q0 q1 q2 q3 q4 HP1 HCK HN5
  go_wp2
  go_loopw [5, 6, 33] (fun b bf i wr => ∃ (k : Nat) (bef : Int) (cb : List Nat), k ≤ l.length ∧ i = .int .i64 (k : Int) ∧ bf = .int .i64 bef ∧ 0 ≤ bef ∧ Fits bef (l.drop k) ∧ cb ++ putL (sgNums bef (l.drop k)) = bd ∧ Own w1.heap.size wr b cb ∧ Below w1.heap.size w1 wr) (fun _ _ i _ => l.length - (intOf i).toNat)
  case atStart => exact ⟨0, 0, _, Nat.zero_le _, rfl, rfl, by omega, HFT.out, HBO.out, HO2.out.1, HO2.out.2⟩
  case round =>
    obtain ⟨k, bef, cb, hk, rfl, rfl, hb0, hft, hcb, ho, hbel⟩ := hrel
    clear HO2 q5
    by_cases hlt : k < l.length
    · obtain ⟨s, hsk⟩ : ∃ s, l[k]? = some s := ⟨l[k], List.getElem?_eq_getElem hlt⟩
      have HD : Hid (l.drop k = s :: l.drop (k + 1)) := by
        show _ = _
        rw [List.drop_eq_getElem_cons hlt]
        congr 1
        rw [List.getElem?_eq_getElem hlt] at hsk
        exact Option.some.inj hsk
      rw [HD.out] at hft hcb
      obtain ⟨f1, f2, f3, f4, f5, f6, f7⟩ := fits_cons hft
      have HBW : Hid (Below w.heap.size w wr) := HW0.out _ (HB1.out.trans (hbel.mono HB1.out.size))
      obtain ⟨ao', cap', e', _, _, hcr⟩ := HSA.out _ HBW.out
      simp only [Value.slice.injEq] at e'
      obtain ⟨rfl, _, rfl⟩ := e'
      obtain ⟨b, off, rfl, hrg⟩ := hcr k s hsk
      obtain ⟨n, z, c⟩ := s
      simp only [sgNums] at f1 f2 f3 f4 f5 f6 f7 hcb
      have HR0 : Hid (wr.rangeAt b (off + k * 3) [.int .i64 n, .int .i64 z, .int .i64 c]) := hrg
      have HOX : Hid (Own w1.heap.size wr u5 cb ∧ Below w1.heap.size w1 wr) := ⟨ho, hbel⟩
      have HCB : Hid (cb ++ putL [n - bef, z, c] ++ putL (sgNums n (l.drop (k + 1))) = bd) := by
        show _ = _
        rw [← hcb]
        simp [putL]
      have hcl : cb.length ≤ 4000 := by
        have h8 := HBL.out
        rw [← hcb, List.length_append] at h8
        omega
      have HPU : Hid (∀ o1 o2, Calls Tryd.prog 28 #[u5, .slice (some ⟨wr.heap.size + 1, 0, none⟩) 3 3] ((wr.alloc o1).alloc (.cells #[.int .i64 (n - bef), .int .i64 z, .int .i64 c] o2)) fun e w' => ∃ v', e = .returned v' ∧ Own w1.heap.size w' v' (cb ++ putL [n - bef, z, c]) ∧ ((wr.alloc o1).alloc (.cells #[.int .i64 (n - bef), .int .i64 z, .int .i64 c] o2)).grownBy w' u5.ownBlock) := fun o1 o2 => by
        have hlt5 : ∀ g, u5.ownBlock = some g → w1.heap.size ≤ g ∧ g < wr.heap.size := fun g hg => World.ownsRow.lt HOX.out.1.row g hg
        have hO := (HOX.out.1.kept (up0 _ o1)).kept (up0 _ (.cells #[.int .i64 (n - bef), .int .i64 z, .int .i64 c] o2))
        have hN := ints_new (wr.alloc o1) [n - bef, z, c] #[.int .i64 (n - bef), .int .i64 z, .int .i64 c] o2 rfl (by simp)
        rw [heap1] at hN
        have hs := HOX.out.2.size
        refine (put_any w1.heap.size _ cb _ _ _ hO (by rw [heap1, heap1]; omega) hN (fun ao n cap b off e1 e2 e3 => ?_) (fun q hq => ?_) (by simp; omega)).mono ?_
        · simp only [Value.slice.injEq] at e1
          rw [← e1.1] at e2
          simp only [Option.some.injEq, Addr.mk.injEq] at e2
          have := (hlt5 _ e3).2
          omega
        · simp only [List.mem_cons, List.not_mem_nil, or_false] at hq
          rcases hq with rfl | rfl | rfl <;> omega
        · rintro e w' ⟨v', rfl, h1, h2, _⟩
          exact ⟨v', rfl, h1, h2⟩
      have HU5 : Hid (∀ g, u5.ownBlock = some g → w1.heap.size ≤ g ∧ g < wr.heap.size) := fun g hg => World.ownsRow.lt ho.row g hg
      have HSI : Hid (w1.heap.size ≤ wr.heap.size) := hbel.size
      obtain ⟨a5, m5, c5, e5⟩ := own_slice ho
      subst e5
      have hbn : bef ≤ 1099511627776 := by omega
      clear hcr hsk hrg ho hbel hft hcb HD HSA
      go_wp2_with (refine wpList_load_mid rfl 46 _ rfl b (off + k * 3) rfl [.int .i64 n, .int .i64 z, .int .i64 c] _ HR0.out Tryd.underlying46 rfl HIS.out ?_)
      refine (HPU.out _ _).mono ?_
      rintro e w3 ⟨v3, rfl, ho3, g3⟩
      obtain ⟨a3, n3, c3, e3⟩ := own_slice ho3
      subst e3
      have hl3 : w3.cell? ⟨wr.heap.size, 0, none⟩ = some (.int .i64 n) := by
        have h1 := g3.block wr.heap.size (by rw [heap1, heap1]; omega) (fun e => by have := (HU5.out _ e.symm).2; omega)
        rw [World.cell?_of_block (a := ⟨wr.heap.size, 0, none⟩) h1]
        exact ((up0 (wr.alloc _) _).cell (p := ⟨wr.heap.size, 0, none⟩) (by show wr.heap.size < (wr.alloc _).heap.size; rw [heap1]; omega)).trans (World.cell?_alloc_new wr _ _ 0)
      have R : Hid (Own w1.heap.size w3 (.slice a3 n3 c3) (cb ++ putL [n - bef, z, c]) ∧ Below w1.heap.size w1 w3) := ⟨ho3, by
        have hs := HSI.out
        exact ((HOX.out.2.alloc hs _).alloc (by rw [heap1]; omega) _).grown g3 (by rw [heap1, heap1]; omega) (fun k hk => (HU5.out k hk).1)⟩
      clear ho3 g3 HPU HOX HR0 HU5
      go_wp2
      go_roundw
      case rel => exact ⟨k + 1, n, _, by omega, by go_num, rfl, by omega, f7, HCB.out, R.out.1, R.out.2⟩
      case measure => simp [intOf]; omega
    · obtain rfl : k = l.length := by omega
      rw [List.drop_length] at hcb
      simp only [sgNums] at hcb
      have hcb2 : cb = bd := by rw [← hcb]; simp [putL]
      subst hcb2
      have HBW : Hid (Below w.heap.size w wr) := HW0.out _ (HB1.out.trans (hbel.mono HB1.out.size))
      have HFR : Hid (∀ o2, Calls Tryd.prog 29 #[.slice (some ⟨wr.heap.size, 0, none⟩) 1 1] (wr.alloc (.cells #[u5] o2)) fun e w' => ∃ v', e = .returned (.tuple #[v', .int .i64 0]) ∧ Own w.heap.size w' v' E ∧ Below w.heap.size w w') := fun o2 => by
        have h1 := frame_ok (.slice (some ⟨wr.heap.size, 0, none⟩) 1 1) [cb] (wr.alloc (.cells #[u5] o2)) (HTB.out _ (up HBW.out _)) (ps1 wr _ rfl o2 ho.bs) (by simp; have := HBL.out; omega) (by
          have h9 := HBO.out
          rw [← h9]
          simp)
        refine h1.mono ?_
        rintro e w' ⟨v', rfl, h2, h3⟩
        refine ⟨v', rfl, ?_, andThen (up HBW.out _) h3⟩
        rw [HEN.out]
        simp only [List.flatten_cons, List.flatten_nil, List.append_nil] at h2
        refine own_weakM h2 ?_
        rw [heap1]
        have := HBW.out.size
        omega
      obtain ⟨a5, m5, c5, e5⟩ := own_slice ho
      subst e5
      clear ho hbel hcb hft HSA HBO HEN
      go_wp2_with fail
      refine (HFR.out _).mono ?_
      rintro e w3 ⟨v3, rfl, ho3, b3⟩
      obtain ⟨a3, n3, c3, e3⟩ := own_slice ho3
      subst e3
      go_wp2
      go_ret2
      exact ⟨_, rfl, ho3, b3⟩
end Go.Proofs.YtpikdngccgdhiaaDoor

/-
  Package manifest: the reader's next number.
-/
namespace Go.Proofs.YtpikdngccgdhiaaDoor
open Go Go.RowKit
open Wb

/-- a reader in a block -/
def Rd (w : World) (R : Nat) (v : Value) (at0 : Int) (f : Nat) : Prop := ∃ t, w.heap[R]? = some (.cells #[v, .int .i64 at0, .int .i64 (f : Int)] t)
theorem Rd.c0 {w : World} {R : Nat} {v : Value} {a : Int} {f : Nat} (h : Rd w R v a f) : w.cell? ⟨R, 0, none⟩ = some v := by
  obtain ⟨t, h⟩ := h
  unfold World.cell?
  rw [h]
  rfl
theorem Rd.c1 {w : World} {R : Nat} {v : Value} {a : Int} {f : Nat} (h : Rd w R v a f) : w.cell? ⟨R, 1, none⟩ = some (.int .i64 a) := by
  obtain ⟨t, h⟩ := h
  unfold World.cell?
  rw [h]
  rfl
theorem Rd.c2 {w : World} {R : Nat} {v : Value} {a : Int} {f : Nat} (h : Rd w R v a f) : w.cell? ⟨R, 2, none⟩ = some (.int .i64 (f : Int)) := by
  obtain ⟨t, h⟩ := h
  unfold World.cell?
  rw [h]
  rfl
theorem Rd.frozen {w : World} {R : Nat} {v : Value} {a : Int} {f : Nat} (h : Rd w R v a f) (j : Nat) : w.frozen? ⟨R, j, none⟩ = false := by
  obtain ⟨t, h⟩ := h
  unfold World.frozen?
  rw [h]
  simp
/-- only block R is another -/
structure Only (R : Nat) (w w' : World) : Prop where
  os : w'.os = w.os
  tape : w'.tape = w.tape
  output : w'.output = w.output
  size : w'.heap.size = w.heap.size
  block : ∀ g, g ≠ R → w'.heap[g]? = w.heap[g]?
theorem Only.refl (R : Nat) (w : World) : Only R w w := ⟨rfl, rfl, rfl, rfl, fun _ _ => rfl⟩
theorem Only.set (R : Nat) (w : World) (j : Nat) (u : Value) : Only R w (w.setCell ⟨R, j, none⟩ u) := ⟨rfl, rfl, rfl, by simp [World.setCell], fun g hg => by
  simp only [World.setCell]
  rw [Array.getElem?_modify]
  rw [if_neg (Ne.symm hg)]⟩
theorem Rd.put1 {w : World} {R : Nat} {v : Value} {a : Int} {f : Nat} (h : Rd w R v a f) (a' : Int) : Rd (w.setCell ⟨R, 1, none⟩ (.int .i64 a')) R v a' f := by
  obtain ⟨t, h⟩ := h
  refine ⟨t, ?_⟩
  simp only [World.setCell]
  rw [Array.getElem?_modify, if_pos rfl, h]
  rfl
theorem Rd.put2 {w : World} {R : Nat} {v : Value} {a : Int} {f : Nat} (h : Rd w R v a f) (f' : Nat) : Rd (w.setCell ⟨R, 2, none⟩ (.int .i64 (f' : Int))) R v a f' := by
  obtain ⟨t, h⟩ := h
  refine ⟨t, ?_⟩
  simp only [World.setCell]
  rw [Array.getElem?_modify, if_pos rfl, h]
  rfl
theorem bdrewM (w : World) (n : Nat) : Below w.heap.size w (w.drewN n) := ⟨rfl, rfl, rfl, Nat.le_refl _, fun _ _ => rfl⟩
theorem ru_lt (body : List Nat) (hok : ok body) (p : Int) : (Wn.ru body p).1 < 18446744073709551616 := by
  rcases Wn.ru_cases body p with ⟨e, _, _, hr⟩ | ⟨a, x, n, _, _, _, hrd, hr⟩
  · rw [hr]; show (0 : Nat) < _; decide
  · rw [hr]
    exact (ru_there body a x n hok hrd).2.2
theorem rd_drew {w : World} {R : Nat} {v : Value} {a : Int} {f : Nat} (h : Rd w R v a f) (n : Nat) : Rd (w.drewN n) R v a f := h
theorem only_drew {R : Nat} {w w' : World} (h : Only R w w') (n : Nat) : Only R w (w'.drewN n) := ⟨h.os, h.tape, h.output, h.size, h.block⟩
/-- what next leaves -/
def NxPost (R : Nat) (v : Value) (w : World) (r : Int × (Int × Nat)) (e : Ending) (w' : World) : Prop := e = .returned (.int .i64 r.1) ∧ Rd w' R v r.2.1 r.2.2 ∧ Only R w w'
set_option maxRecDepth 100000 in
set_option maxHeartbeats 4000000 in
theorem next_fault (R : Nat) (v : Value) (body : List Nat) (a : Int) (f : Nat) (base : Int) (w : World) (hR : Rd w R v a f) (hf : f ≠ 0) :
    Calls Tryd.prog 51 #[.pointer (some ⟨R, 0, none⟩), .int .i64 base] w fun e w' => NxPost R v w (nx body (a, f) base) e w' := by
  have HN : Hid (nx body (a, f) base = (0, (a, f))) := by
    show _ = _
    unfold nx
    rw [if_pos hf]
  have c2 := hR.c2
  have hz : ¬ (f : Int) = 0 := by omega
  rw [HN.out]
  go_enter Tryd.func51, Tryd.ntmps51
  go_wp2
  go_ret
  exact ⟨rfl, hR, Only.refl _ _⟩
set_option maxRecDepth 100000 in
set_option maxHeartbeats 4000000 in
theorem next_ok (R : Nat) (v : Value) (body : List Nat) (a : Int) (base : Int) (w : World) (hR : Rd w R v a 0) (hb : Bs w v body) (hl : body.length ≤ 140737488355328) (h0 : 0 ≤ base) (h1 : base ≤ 9223372036854775807) :
    Calls Tryd.prog 51 #[.pointer (some ⟨R, 0, none⟩), .int .i64 base] w fun e w' => NxPost R v w (nx body (a, 0) base) e w' := by
  have c0 := hR.c0
  have c1 := hR.c1
  have c2 := hR.c2
  have f1 := hR.frozen 1
  have f2 := hR.frozen 2
  have HRU : Hid (∀ n, Calls Tryd.prog 48 #[v, .int .i64 a] (w.drewN n) fun e w' => e = .returned (tup3 (Wn.ru body a).1 (Wn.ru body a).2.1 (Wn.ru body a).2.2) ∧ ∃ m, w' = (w.drewN n).drewN m) := fun n => (readUint_any v body a (w.drewN n) (hb.kept (bdrewM w n)) hl).mono fun e w' ⟨he, hw⟩ => ⟨he, 0, hw.symm⟩
  obtain ⟨ab, cb, rfl, _⟩ := hb.shape
  unfold tup3 at HRU
  rcases hru : Wn.ru body a with ⟨x, q, e⟩
  rw [hru] at HRU
  simp only at HRU
  have HD : Hid (Rd w R (.slice ab body.length cb) a 0) := hR
  have hx := ru_lt body hb.good a
  rw [hru] at hx
  simp only at hx
  clear hR hb
  rw [show ((0 : Nat) : Int) = 0 from rfl] at c2
  by_cases he : e = 0
  · subst he
    rw [show ((0 : Nat) : Int) = 0 from rfl] at HRU
    by_cases hg : 9223372036854775807 - base < (x : Int)
    · have HN : Hid (nx body (a, 0) base = (0, (a, 85))) := by
        show _ = _
        unfold nx
        rw [if_neg (by simp), hru, if_neg (by simp), if_pos hg]
      clear hru
      rw [HN.out]
      go_enter Tryd.func51, Tryd.ntmps51
      go_upto_region 3 with fail
      go_quiet (first | (go_at_call 48; refine Calls.quiet_of (HRU.out _)))
      go_wp2
      go_ret
      exact ⟨rfl, rd_drew (HD.out.put2 85) _, only_drew (Only.set _ _ _ _) _⟩
    · have HN : Hid (nx body (a, 0) base = (base + (x : Int), (q, 0))) := by
        show _ = _
        unfold nx
        rw [if_neg (by simp), hru, if_neg (by simp), if_neg hg]
      clear hru
      rw [HN.out]
      go_enter Tryd.func51, Tryd.ntmps51
      go_upto_region 3 with fail
      go_quiet (first | (go_at_call 48; refine Calls.quiet_of (HRU.out _)))
      go_wp2
      go_ret
      exact ⟨rfl, rd_drew (HD.out.put1 q) _, only_drew (Only.set _ _ _ _) _⟩
  · have HN : Hid (nx body (a, 0) base = (0, (a, e))) := by
      show _ = _
      unfold nx
      rw [if_neg (by simp), hru, if_pos he]
    have hz : ¬ (e : Int) = 0 := by omega
    clear hru he
    rw [HN.out]
    go_enter Tryd.func51, Tryd.ntmps51
    go_upto_region 3 with fail
    go_quiet (first | (go_at_call 48; refine Calls.quiet_of (HRU.out _)))
    go_wp2
    go_ret
    exact ⟨rfl, rd_drew (HD.out.put2 e) _, only_drew (Only.set _ _ _ _) _⟩
theorem next_any (R : Nat) (v : Value) (body : List Nat) (st : Int × Nat) (base : Int) (w : World) (hR : Rd w R v st.1 st.2) (hb : Bs w v body) (hl : body.length ≤ 140737488355328) (h0 : 0 ≤ base) (h1 : base ≤ 9223372036854775807) :
    Calls Tryd.prog 51 #[.pointer (some ⟨R, 0, none⟩), .int .i64 base] w fun e w' => NxPost R v w (nx body st base) e w' := by
  obtain ⟨a, f⟩ := st
  by_cases hf : f = 0
  · subst hf
    exact next_ok R v body a base w hR hb hl h0 h1
  · exact next_fault R v body a f base w hR hf
theorem nx_val (body : List Nat) (st : Int × Nat) (base : Int) (h0 : 0 ≤ base) (h1 : base ≤ 9223372036854775807) : 0 ≤ (nx body st base).1 ∧ (nx body st base).1 ≤ 9223372036854775807 := by
  unfold nx
  split
  · exact ⟨by show (0 : Int) ≤ 0; omega, by show (0 : Int) ≤ _; omega⟩
  · split
    · exact ⟨by show (0 : Int) ≤ 0; omega, by show (0 : Int) ≤ _; omega⟩
    · split
      · exact ⟨by show (0 : Int) ≤ 0; omega, by show (0 : Int) ≤ _; omega⟩
      · exact ⟨by show (0 : Int) ≤ base + _; omega, by show base + _ ≤ (9223372036854775807 : Int); omega⟩
theorem nx_step (body : List Nat) (st : Int × Nat) (base : Int) (h : (nx body st base).2.2 = 0) : st.1 < (nx body st base).2.1 ∧ (nx body st base).2.1 ≤ (body.length : Int) ∧ 0 < (nx body st base).2.1 := by
  have hf := nx_fault body st base h
  unfold nx at h ⊢
  rw [if_neg (by omega)] at h ⊢
  rcases Wn.ru_cases body st.1 with ⟨e, he, _, hr⟩ | ⟨a, x, n, ha, hle, hn, hrd, hr⟩
  · rw [hr] at h
    rw [if_pos he] at h
    exact absurd h he
  · rw [hr] at h ⊢
    rw [if_neg (by simp)] at h ⊢
    split at h
    · simp at h
    · rw [if_neg (by assumption)]
      exact ⟨by show st.1 < ((a + n : Nat) : Int); omega, by show ((a + n : Nat) : Int) ≤ _; omega, by show (0 : Int) < ((a + n : Nat) : Int); omega⟩
end Go.Proofs.YtpikdngccgdhiaaDoor

/-
  Package manifest: parse.
-/
namespace Go.Proofs.YtpikdngccgdhiaaDoor
open Go Go.RowKit
open Wb

/-- segments in a row of the call's own -/
def SgR (B : Nat) (w : World) (v : Value) (l : List Sg) : Prop := w.ownsRow B 46 3 v l.length (l.flatMap sgc)
theorem infoSg3 : (Tryd.prog.info? 46).map (fun i => (i.zero, i.size, i.bytes)) = some (some (.agg #[.int .i64 0, .int .i64 0, .int .i64 0]), 3, 24) := by kernel_rfl
theorem info_partsM {P : Program} {t : TypeId} {z : Value} {s b : Nat} (h : (P.info? t).map (fun i => (i.zero, i.size, i.bytes)) = some (some z, s, b)) : ∃ i, P.info? t = some i ∧ i.zero = some z ∧ i.size = s ∧ i.bytes = b := by
  cases hi : P.info? t with
  | none => rw [hi] at h; simp at h
  | some i =>
    rw [hi] at h
    simp only [Option.map_some, Option.some.injEq, Prod.mk.injEq] at h
    exact ⟨i, rfl, h.1, h.2.1, h.2.2⟩
theorem SgR.nil (B : Nat) (w : World) : SgR B w (.slice none 0 0) [] := World.ownsRow_nil _ _ _ _
theorem SgR.block {B : Nat} {w w' : World} {v : Value} {l : List Sg} (h : SgR B w v l) (hg : ∀ g, v.ownBlock = some g → w'.heap[g]? = w.heap[g]?) : SgR B w' v l := by
  unfold SgR at h ⊢
  refine ⟨h.1, ?_⟩
  rcases h.2 with h1 | ⟨g, cap, cur, e, hb, hh, rest⟩
  · exact .inl h1
  · exact .inr ⟨g, cap, cur, e, hb, (hg g (by rw [e]; rfl)).trans hh, rest⟩
theorem SgR.kept {B : Nat} {w w' : World} {v : Value} {l : List Sg} (h : SgR B w v l) (hb : Below w.heap.size w w') : SgR B w' v l := h.block fun g hg => hb.block g (World.ownsRow.lt h g hg).2
theorem SgR.weak {B B2 : Nat} {w : World} {v : Value} {l : List Sg} (h : SgR B2 w v l) (hB : B ≤ B2) : SgR B w v l := by
  unfold SgR at h ⊢
  refine ⟨h.1, ?_⟩
  rcases h.2 with h1 | ⟨g, cap, cur, e, hb, rest⟩
  · exact .inl h1
  · exact .inr ⟨g, cap, cur, e, Nat.le_trans hB hb, rest⟩
theorem flat_sgc_get : ∀ (l : List Sg) (k : Nat) (s : Sg) (j : Nat) (u : Value), l[k]? = some s → (sgc s)[j]? = some u → (l.flatMap sgc)[k * 3 + j]? = some u
  | [], k, s, j, u, h, _ => by simp at h
  | x :: r, 0, s, j, u, h, hj => by
    simp at h
    subst h
    rw [List.flatMap_cons, Nat.zero_mul, Nat.zero_add, List.getElem?_append_left (List.getElem?_eq_some_iff.1 hj).1]
    exact hj
  | x :: r, k + 1, s, j, u, h, hj => by
    rw [List.flatMap_cons, List.getElem?_append_right (by show 3 ≤ _; omega)]
    show (r.flatMap sgc)[(k + 1) * 3 + j - 3]? = _
    rw [show (k + 1) * 3 + j - 3 = k * 3 + j by omega]
    exact flat_sgc_get r k s j u (by simpa using h) hj
theorem flat_sgc_len (l : List Sg) : (l.flatMap sgc).length = l.length * 3 := by
  induction l with
  | nil => rfl
  | cons s r ih => rw [List.flatMap_cons, List.length_append, ih]; simp [sgc]; omega
theorem SgR.at {B : Nat} {w : World} {v : Value} {l : List Sg} (h : SgR B w v l) : SgsAt w v l := by
  have h0 := h
  unfold SgR at h
  rcases h.2 with ⟨rfl, h1⟩ | ⟨g, cap, cur, rfl, _, hh, h1, h2, h3, h4⟩
  · obtain rfl : l = [] := List.eq_nil_of_length_eq_zero h1
    exact ⟨none, 0, rfl, Nat.le_refl _, Nat.zero_le _, fun k s hs => by simp at hs⟩
  · refine ⟨some ⟨g, 0, none⟩, cap, rfl, h1, h2, fun k s hs => ⟨g, 0, rfl, fun j u hj => ?_⟩⟩
    have hk := (List.getElem?_eq_some_iff.1 hs).1
    have hj3 : j < 3 := by have := (List.getElem?_eq_some_iff.1 hj).1; simpa [sgc] using this
    have := World.ownsRow.cellAt h0 (k * 3 + j) (by omega)
    rw [Nat.zero_add]
    rw [this]
    exact flat_sgc_get l k s j u hs hj
theorem wpList_append_seg {P : Program} (w : World) {ops : Array Oper} {rest : List Oper} {o : Oper} {a : Act} {Q : Exit → Act → World → Prop} (hgd : o.guard = none) (s x : Operand) (t : TypeId)
    (ho : o.op = .call { callee := .builtin .append, args := #[s, x], argTypes := #[t, t] })
    (B : Nat) (hinfo : (P.info? 46).map (fun i => (i.zero, i.size, i.bytes)) = some (some (.agg #[.int .i64 0, .int .i64 0, .int .i64 0]), 3, 24)) (ht : P.underlying t = some (.slice 46))
    (v : Value) (l : List Sg) (q : Sg) (hv : a.eval s = v) (h : SgR B w v l) (g : Nat) (hx : a.eval x = .slice (some ⟨g, 0, none⟩) 1 1)
    (hc : w.rangeAt g 0 (sgc q)) (hmax : (l.length + 1) * 24 ≤ 140737488355328) (hB : B ≤ w.heap.size)
    (hK : ∀ v' w', SgR B w' v' (l ++ [q]) → w.grownBy w' v.ownBlock → (v'.ownBlock = v.ownBlock ∨ v'.ownBlock = some w.heap.size) → wpList P ops Q rest (a.put o.dst v') w') : wpList P ops Q (o :: rest) a w := by
  obtain ⟨i0, hi, hz0, hz1, hz2⟩ := info_partsM hinfo
  refine wpList_append_own_at w hgd s x t ho B 46 i0 _ 3 24 ht hi hz0 hz1 hz2 rfl (by decide) v l.length (l.flatMap sgc) hv h ⟨g, 0, none⟩ 1 1 (sgc q) hx rfl ?_ ?_ (by unfold maxLen; omega) (by omega) hB ?_
  · intro j u hj
    have := hc j u hj
    rw [Addr.add_lit]
    exact this
  · intro u hu
    simp only [sgc, List.mem_cons, List.not_mem_nil, or_false] at hu
    rcases hu with rfl | rfl | rfl <;> rfl
  · intro v' w' h2 h3 _ h5
    refine hK v' w' ?_ h3 h5
    unfold SgR
    rw [List.length_append, List.flatMap_append]
    simpa using h2
/-- a manifest in a block -/
def Mb (w : World) (A : Nat) (m : Mf) (v : Value) : Prop := ∃ t, w.heap[A]? = some (.cells #[.int .i64 m.g, .int .i64 m.v, .int .i64 m.x, .int .i64 m.t, v] t)
theorem Mb.cells {w : World} {A : Nat} {m : Mf} {v : Value} (h : Mb w A m v) : w.cell? ⟨A, 0, none⟩ = some (.int .i64 m.g) ∧ w.cell? ⟨A, 1, none⟩ = some (.int .i64 m.v) ∧ w.cell? ⟨A, 2, none⟩ = some (.int .i64 m.x) ∧ w.cell? ⟨A, 3, none⟩ = some (.int .i64 m.t) ∧ w.cell? ⟨A, 4, none⟩ = some v := by
  obtain ⟨t, h⟩ := h
  unfold World.cell?
  rw [h]
  exact ⟨rfl, rfl, rfl, rfl, rfl⟩
theorem Mb.frozen {w : World} {A : Nat} {m : Mf} {v : Value} (h : Mb w A m v) (j : Nat) : w.frozen? ⟨A, j, none⟩ = false := by
  obtain ⟨t, h⟩ := h
  unfold World.frozen?
  rw [h]
  simp
theorem Mb.put4 {w : World} {A : Nat} {m : Mf} {v : Value} (h : Mb w A m v) (u : Value) : Mb (w.setCell ⟨A, 4, none⟩ u) A m u := by
  obtain ⟨t, h⟩ := h
  refine ⟨t, ?_⟩
  simp only [World.setCell]
  rw [Array.getElem?_modify, if_pos rfl, h]
  rfl
theorem Mb.block {w w' : World} {A : Nat} {m : Mf} {v : Value} (h : Mb w A m v) (e : w'.heap[A]? = w.heap[A]?) : Mb w' A m v := by
  obtain ⟨t, h⟩ := h
  exact ⟨t, e.trans h⟩
theorem Rd.block {w w' : World} {R : Nat} {v : Value} {a : Int} {f : Nat} (h : Rd w R v a f) (e : w'.heap[R]? = w.heap[R]?) : Rd w' R v a f := by
  obtain ⟨t, h⟩ := h
  exact ⟨t, e.trans h⟩
theorem Only.below {R B : Nat} {w w' : World} (h : Only R w w') (hB : B ≤ R) : Below B w w' := ⟨h.os, h.tape, h.output, Nat.le_of_eq h.size.symm, fun g hg => h.block g (by omega)⟩
end Go.Proofs.YtpikdngccgdhiaaDoor
