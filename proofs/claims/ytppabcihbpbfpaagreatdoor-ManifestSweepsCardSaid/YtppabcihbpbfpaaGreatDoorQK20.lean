import Derived.Deep.MidRow
import Derived.Test.YtppabcihbpbfpaaGreatDoorQK1
import Derived.Test.YtppabcihbpbfpaaGreatDoorQK19
/-
  Package manifest: what a manifest may hold, no program.
-/
namespace Go.Proofs.YtppabcihbpbfpaaGreatDoor
open Go Go.RowKit
structure Sg where
  n : Int
  s : Int
  c : Int
structure Mf where
  g : Int
  v : Int
  x : Int
  t : Int
  l : List Sg
def zeroM : Mf := ⟨0, 0, 0, 0, []⟩
/-- may a segment stand behind b? -/
def sgOk (next b : Int) (last : Bool) (s : Sg) : Bool := decide (b < s.n) && (decide (s.n < next) && (if last then decide (s.s = 0) && decide (s.c = 0) else decide (1 ≤ s.s) && (decide (s.s ≤ 524288) && (decide (0 ≤ s.c) && decide (s.c ≤ 524288)))))
def sgsOk (next : Int) : Int → List Sg → Bool
  | _, [] => true
  | b, s :: r => sgOk next b r.isEmpty s && sgsOk next s.n r
/-- what Check answers -/
def chkM (m : Mf) : Nat :=
  if ¬ (1 ≤ m.g ∧ m.g ≤ 1099511627776) then 80
  else if m.v < 1 ∨ 3 < m.v then 3
  else if ¬ (1 ≤ m.x ∧ m.x ≤ 1099511627776) then 81
  else if m.t < 0 then 86
  else if m.l.length = 0 ∨ 128 < m.l.length then 82
  else if sgsOk m.x 0 m.l = true then 0 else 83
end Go.Proofs.YtppabcihbpbfpaaGreatDoor

/-
  Package manifest: Check.
-/
namespace Go.Proofs.YtppabcihbpbfpaaGreatDoor
open Go Go.RowKit
open Wb

/-- a segment, a manifest as values -/
def sgv (s : Sg) : Value := .agg #[.int .i64 s.n, .int .i64 s.s, .int .i64 s.c]
def mfv (m : Mf) (v : Value) : Value := .agg #[.int .i64 m.g, .int .i64 m.v, .int .i64 m.x, .int .i64 m.t, v]
def sgc (s : Sg) : List Value := [.int .i64 s.n, .int .i64 s.s, .int .i64 s.c]
def Sg.fit (s : Sg) : Prop := (-9223372036854775808 ≤ s.n ∧ s.n ≤ 9223372036854775807) ∧ (-9223372036854775808 ≤ s.s ∧ s.s ≤ 9223372036854775807) ∧ (-9223372036854775808 ≤ s.c ∧ s.c ≤ 9223372036854775807)
theorem sealed_any (s : Sg) (w : World) : Calls Tryz.prog 37 #[sgv s] w fun e w' => e = .returned (.bool (decide (1 ≤ s.s) && (decide (s.s ≤ 524288) && (decide (0 ≤ s.c) && decide (s.c ≤ 524288))))) ∧ Below w.heap.size w w' := by
  obtain ⟨n, z, c⟩ := s
  unfold sgv
  by_cases h1 : 1 ≤ z
  · by_cases h2 : z ≤ 524288
    · by_cases h3 : 0 ≤ c
      · by_cases h4 : c ≤ 524288
        · rw [decide_eq_true h1, decide_eq_true h2, decide_eq_true h3, decide_eq_true h4]
          go_enter Tryz.func37, Tryz.ntmps37
          go_wp2
          go_ret
          exact ⟨rfl, up0 _ _⟩
        · rw [decide_eq_true h1, decide_eq_true h2, decide_eq_true h3, decide_eq_false h4]
          go_enter Tryz.func37, Tryz.ntmps37
          go_wp2
          go_ret
          exact ⟨rfl, up0 _ _⟩
      · rw [decide_eq_true h1, decide_eq_true h2, decide_eq_false h3]
        go_enter Tryz.func37, Tryz.ntmps37
        go_wp2
        go_ret
        exact ⟨rfl, up0 _ _⟩
    · rw [decide_eq_true h1, decide_eq_false h2]
      go_enter Tryz.func37, Tryz.ntmps37
      go_wp2
      go_ret
      exact ⟨rfl, up0 _ _⟩
  · rw [decide_eq_false h1]
    go_enter Tryz.func37, Tryz.ntmps37
    go_wp2
    go_ret
    exact ⟨rfl, up0 _ _⟩
theorem active_any (s : Sg) (w : World) : Calls Tryz.prog 38 #[sgv s] w fun e w' => e = .returned (.bool (decide (s.s = 0) && decide (s.c = 0))) ∧ Below w.heap.size w w' := by
  obtain ⟨n, z, c⟩ := s
  unfold sgv
  by_cases h1 : z = 0
  · by_cases h2 : c = 0
    · rw [decide_eq_true h1, decide_eq_true h2]
      go_enter Tryz.func38, Tryz.ntmps38
      go_wp2
      go_ret
      exact ⟨rfl, up0 _ _⟩
    · have hd : (c == 0) = false := beq_false_of_ne h2
      rw [decide_eq_true h1, decide_eq_false h2]
      go_enter Tryz.func38, Tryz.ntmps38
      go_wp2
      go_ret
      exact ⟨rfl, up0 _ _⟩
  · have hd : (z == 0) = false := beq_false_of_ne h1
    rw [decide_eq_false h1]
    go_enter Tryz.func38, Tryz.ntmps38
    go_wp2
    go_ret
    exact ⟨rfl, up0 _ _⟩
/-- a list of segments that was handed in -/
def SgsAt (w : World) (v : Value) (l : List Sg) : Prop := ∃ ao, ∃ cap : Nat, v = .slice ao l.length cap ∧ l.length ≤ cap ∧ cap ≤ maxLen ∧ ∀ (k : Nat) (s : Sg), l[k]? = some s → ∃ b off, ao = some ⟨b, off, none⟩ ∧ w.rangeAt b (off + k * 3) (sgc s)
theorem SgsAt.kept {w w' : World} {v : Value} {l : List Sg} (h : SgsAt w v l) (hb : Below w.heap.size w w') : SgsAt w' v l := by
  obtain ⟨ao, cap, e, h1, h2, hc⟩ := h
  refine ⟨ao, cap, e, h1, h2, fun k s hs => ?_⟩
  obtain ⟨b, off, e2, h3⟩ := hc k s hs
  refine ⟨b, off, e2, fun j v hv => ?_⟩
  have h4 := h3 j v hv
  rw [hb.cell (World.block_lt_of_cell? w _ h4)]
  exact h4
theorem heap1 (w : World) (o : Obj) : (w.alloc o).heap.size = w.heap.size + 1 := by
  show (w.heap.push o).size = _
  rw [Array.size_push]
theorem infoSg : (Tryz.prog.info? 56).map (·.size) = some 3 := by kernel_rfl
theorem infoMf : (Tryz.prog.info? 24).map (·.size) = some 5 := by kernel_rfl
set_option maxRecDepth 100000 in
set_option maxHeartbeats 4000000 in
theorem areSegs_any (v : Value) (l : List Sg) (next : Int) (w : World) (h : SgsAt w v l) (h1 : 1 ≤ l.length) (h128 : l.length ≤ 128) :
    Calls Tryz.prog 20 #[v, .int .i64 next] w fun e w' => e = .returned (.bool (sgsOk next 0 l)) ∧ Below w.heap.size w w' := by
  have HIS : Hid ((Tryz.prog.info? 56).map (·.size) = some 3) := infoSg
  have HSA : Hid (∀ w', Below w.heap.size w w' → SgsAt w' v l) := fun w' hb => h.kept hb
  obtain ⟨ao, cap, rfl, hc1, hc2, _⟩ := h
  unfold maxLen at hc2
  go_enter Tryz.func20, Tryz.ntmps20
  go_wp2
  obtain ⟨la, hla⟩ : ∃ la : Int, la = (l.length : Int) - 1 := ⟨_, rfl⟩
  rw [← hla]
  have HLA : Hid (la = (l.length : Int) - 1) := hla
  clear hla
  go_loopw [6, 14] (fun b i wr => ∃ (k : Nat) (bef : Int), k ≤ l.length ∧ b = .int .i64 bef ∧ i = .int .i64 (k : Int) ∧ sgsOk next bef (l.drop k) = sgsOk next 0 l ∧ Below w.heap.size w wr) (fun _ i _ => l.length - (intOf i).toNat)
  case atStart => exact ⟨0, 0, Nat.zero_le _, rfl, rfl, rfl, Below.refl _ _⟩
  case round =>
    obtain ⟨k, bef, hk, rfl, rfl, hs, hbel⟩ := hrel
    by_cases hlt : k < l.length
    · obtain ⟨s, hsk⟩ : ∃ s, l[k]? = some s := ⟨l[k], List.getElem?_eq_getElem hlt⟩
      have HD : Hid (l.drop k = s :: l.drop (k + 1)) := by
        show _ = _
        rw [List.drop_eq_getElem_cons hlt]
        congr 1
        rw [List.getElem?_eq_getElem hlt] at hsk
        exact Option.some.inj hsk
      have HEQ : Hid (sgsOk next 0 l = (sgOk next bef (l.drop (k + 1)).isEmpty s && sgsOk next s.n (l.drop (k + 1)))) := by
        show _ = _
        rw [← hs, HD.out, sgsOk]
      obtain ⟨ao', cap', e', _, _, hcr⟩ := HSA.out _ hbel
      simp only [Value.slice.injEq] at e'
      obtain ⟨rfl, _, rfl⟩ := e'
      obtain ⟨b, off, rfl, hrg⟩ := hcr k s hsk
      have HR0 : Hid (wr.rangeAt b (off + k * 3) [.int .i64 s.n, .int .i64 s.s, .int .i64 s.c]) := hrg
      have HB : Hid (∀ o, Below w.heap.size w (wr.alloc o)) := fun o => up hbel o
      have HSE : Hid (∀ w', Calls Tryz.prog 37 #[sgv s] w' fun e w'' => e = .returned (.bool (decide (1 ≤ s.s) && (decide (s.s ≤ 524288) && (decide (0 ≤ s.c) && decide (s.c ≤ 524288))))) ∧ Below w'.heap.size w' w'') := fun w' => sealed_any s w'
      have HAC : Hid (∀ w', Calls Tryz.prog 38 #[sgv s] w' fun e w'' => e = .returned (.bool (decide (s.s = 0) && decide (s.c = 0))) ∧ Below w'.heap.size w' w'') := fun w' => active_any s w'
      have HEM : Hid ((l.drop (k + 1)).isEmpty = decide (k + 1 = l.length)) := by
        show _ = _
        by_cases e : k + 1 = l.length
        · rw [List.drop_eq_nil_of_le (by omega), decide_eq_true e]; rfl
        · rw [decide_eq_false e]
          cases hd : l.drop (k + 1) with
          | nil =>
            have := congrArg List.length hd
            rw [List.length_drop, List.length_nil] at this
            omega
          | cons x y => rfl
      rw [HEM.out] at HEQ
      unfold sgOk at HEQ
      unfold sgv at HSE HAC
      clear hs hrg hsk hcr HD HEM HSA
      obtain ⟨n, z, c⟩ := s
      simp only at HR0 HEQ HSE HAC
      by_cases c1 : n ≤ bef
      · have HF : Hid (sgsOk next 0 l = false) := by
          show _ = _
          rw [HEQ.out, decide_eq_false (by omega)]; rfl
        clear HEQ HSE HAC
        go_wp2_with (refine wpList_load_mid rfl 56 _ rfl b (off + k * 3) rfl [.int .i64 n, .int .i64 z, .int .i64 c] _ HR0.out Tryz.underlying56 rfl HIS.out ?_)
        go_ret
        exact ⟨by rw [HF.out]; rfl, HB.out _⟩
      · by_cases c2 : next ≤ n
        · have HF : Hid (sgsOk next 0 l = false) := by
            show _ = _
            rw [HEQ.out, decide_eq_false (show ¬ n < next by omega), Bool.false_and, Bool.and_false]; rfl
          clear HEQ HSE HAC
          go_wp2_with (refine wpList_load_mid rfl 56 _ rfl b (off + k * 3) rfl [.int .i64 n, .int .i64 z, .int .i64 c] _ HR0.out Tryz.underlying56 rfl HIS.out ?_)
          go_ret
          exact ⟨by rw [HF.out]; rfl, HB.out _⟩
        · rw [decide_eq_true (show bef < n by omega), decide_eq_true (show n < next by omega), Bool.true_and, Bool.true_and] at HEQ
          by_cases c3 : k + 1 = l.length
          · rw [decide_eq_true c3, if_pos rfl] at HEQ
            cases hA : (decide (z = 0) && decide (c = 0)) with
            | true =>
              rw [hA] at HAC HEQ
              have HR : Hid (sgsOk next n (l.drop (k + 1)) = sgsOk next 0 l) := by
                show _ = _
                rw [HEQ.out, Bool.true_and]
              clear hA HEQ HSE
              obtain rfl : la = (k : Int) := by have := HLA.out; omega
              go_wp2_with (refine wpList_load_mid rfl 56 _ rfl b (off + k * 3) rfl [.int .i64 n, .int .i64 z, .int .i64 c] _ HR0.out Tryz.underlying56 rfl HIS.out ?_)
              refine (HAC.out _).mono ?_
              rintro e w1 ⟨rfl, b1⟩
              have B1 := andThen (HB.out _) b1
              have hl1 : w1.cell? ⟨wr.heap.size, 0, none⟩ = some (.int .i64 n) := (b1.cell (p := ⟨wr.heap.size, 0, none⟩) (by show wr.heap.size < (wr.alloc _).heap.size; rw [heap1]; omega)).trans (World.cell?_alloc_new wr _ _ 0)
              clear b1
              go_wp2
              go_roundw
              case rel =>
                first
                  | exact ⟨k + 1, n, by omega, rfl, by go_num, HR.out, B1⟩
                  | (repeat apply Exists.intro
                     exact ⟨⟨k + 1, n, by omega, rfl, by go_num, HR.out, B1⟩, rfl⟩)
              case measure => first | (simp [intOf]; done) | (simp [intOf]; omega)
            | false =>
              rw [hA] at HAC HEQ
              have HF : Hid (sgsOk next 0 l = false) := by
                show _ = _
                rw [HEQ.out, Bool.false_and]
              clear hA HEQ HSE
              obtain rfl : la = (k : Int) := by have := HLA.out; omega
              go_wp2_with (refine wpList_load_mid rfl 56 _ rfl b (off + k * 3) rfl [.int .i64 n, .int .i64 z, .int .i64 c] _ HR0.out Tryz.underlying56 rfl HIS.out ?_)
              refine (HAC.out _).mono ?_
              rintro e w1 ⟨rfl, b1⟩
              have B1 := andThen (HB.out _) b1
              clear b1
              go_wp2
              go_ret
              exact ⟨by rw [HF.out]; rfl, B1⟩
          · have q1 : (k : Int) < la := by have := HLA.out; omega
            rw [decide_eq_false c3, if_neg (by decide)] at HEQ
            cases hA : (decide (1 ≤ z) && (decide (z ≤ 524288) && (decide (0 ≤ c) && decide (c ≤ 524288)))) with
            | true =>
              rw [hA] at HSE HEQ
              have HR : Hid (sgsOk next n (l.drop (k + 1)) = sgsOk next 0 l) := by
                show _ = _
                rw [HEQ.out, Bool.true_and]
              clear hA HEQ HAC
              go_wp2_with (refine wpList_load_mid rfl 56 _ rfl b (off + k * 3) rfl [.int .i64 n, .int .i64 z, .int .i64 c] _ HR0.out Tryz.underlying56 rfl HIS.out ?_)
              refine (HSE.out _).mono ?_
              rintro e w1 ⟨rfl, b1⟩
              have B1 := andThen (HB.out _) b1
              have hl1 : w1.cell? ⟨wr.heap.size, 0, none⟩ = some (.int .i64 n) := (b1.cell (p := ⟨wr.heap.size, 0, none⟩) (by show wr.heap.size < (wr.alloc _).heap.size; rw [heap1]; omega)).trans (World.cell?_alloc_new wr _ _ 0)
              clear b1
              go_wp2
              go_roundw
              case rel =>
                first
                  | exact ⟨k + 1, n, by omega, rfl, by go_num, HR.out, B1⟩
                  | (repeat apply Exists.intro
                     exact ⟨⟨k + 1, n, by omega, rfl, by go_num, HR.out, B1⟩, rfl⟩)
              case measure => first | (simp [intOf]; done) | (simp [intOf]; omega)
            | false =>
              rw [hA] at HSE HEQ
              have HF : Hid (sgsOk next 0 l = false) := by
                show _ = _
                rw [HEQ.out, Bool.false_and]
              clear hA HEQ HAC
              go_wp2_with (refine wpList_load_mid rfl 56 _ rfl b (off + k * 3) rfl [.int .i64 n, .int .i64 z, .int .i64 c] _ HR0.out Tryz.underlying56 rfl HIS.out ?_)
              refine (HSE.out _).mono ?_
              rintro e w1 ⟨rfl, b1⟩
              have B1 := andThen (HB.out _) b1
              clear b1
              go_wp2
              go_ret
              exact ⟨by rw [HF.out]; rfl, B1⟩
    · obtain rfl : k = l.length := by omega
      rw [List.drop_length] at hs
      have HT : Hid (sgsOk next 0 l = true) := by
        show _ = _
        rw [← hs]
        rfl
      clear hs
      go_wp2
      go_ret
      exact ⟨by rw [HT.out]; rfl, hbel⟩
end Go.Proofs.YtppabcihbpbfpaaGreatDoor

/-
  Package manifest: Check.
-/
namespace Go.Proofs.YtppabcihbpbfpaaGreatDoor
open Go Go.RowKit
open Wb

set_option maxRecDepth 100000 in
set_option maxHeartbeats 4000000 in
theorem check_any (m : Mf) (v : Value) (w : World) (h : SgsAt w v m.l) :
    Calls Tryz.prog 5 #[mfv m v] w fun e w' => e = .returned (.int .i64 (chkM m : Int)) ∧ Below w.heap.size w w' := by
  have HSA : Hid (∀ w', Below w.heap.size w w' → SgsAt w' v m.l) := fun w' hb => h.kept hb
  obtain ⟨ao, cap, rfl, hc1, hc2, _⟩ := h
  unfold maxLen at hc2
  obtain ⟨g, vv, x, t, l⟩ := m
  unfold mfv
  simp only at *
  have HI : Hid (∀ n w', Calls Tryz.prog 19 #[.int .i64 n] w' fun e w'' => e = .returned (.bool (decide (1 ≤ n ∧ n ≤ 1099511627776))) ∧ w'' = w') := isnum_any
  by_cases h1 : 1 ≤ g ∧ g ≤ 1099511627776
  · by_cases h2 : vv < 1 ∨ 3 < vv
    · have HC : Hid (chkM ⟨g, vv, x, t, l⟩ = 3) := by
        show _ = _
        unfold chkM
        rw [if_neg (fun h => h h1), if_pos h2]
      have d1 : decide (1 ≤ g ∧ g ≤ 1099511627776) = true := decide_eq_true h1
      clear HSA h1
      rcases h2 with h2 | h2
      · go_enter Tryz.func5, Tryz.ntmps5
        go_wp2_with (go_at_call 19; refine (HI.out _ _).mono ?_; rintro e w1 ⟨rfl, rfl⟩; rw [d1])
        go_ret
        exact ⟨by rw [HC.out]; rfl, up0 _ _⟩
      · go_enter Tryz.func5, Tryz.ntmps5
        go_wp2_with (go_at_call 19; refine (HI.out _ _).mono ?_; rintro e w1 ⟨rfl, rfl⟩; rw [d1])
        go_ret
        exact ⟨by rw [HC.out]; rfl, up0 _ _⟩
    · have h2a : ¬ vv < 1 := fun h => h2 (.inl h)
      have h2b : ¬ 3 < vv := fun h => h2 (.inr h)
      have d1 : decide (1 ≤ g ∧ g ≤ 1099511627776) = true := decide_eq_true h1
      by_cases h3 : 1 ≤ x ∧ x ≤ 1099511627776
      · have d3 : decide (1 ≤ x ∧ x ≤ 1099511627776) = true := decide_eq_true h3
        by_cases h4 : t < 0
        · have HC : Hid (chkM ⟨g, vv, x, t, l⟩ = 86) := by
            show _ = _
            unfold chkM
            rw [if_neg (fun h => h h1), if_neg h2, if_neg (fun h => h h3), if_pos h4]
          clear HSA h1 h2 h3
          go_enter Tryz.func5, Tryz.ntmps5
          go_wp2_with (go_at_call 19; refine (HI.out _ _).mono ?_; rintro e w1 ⟨rfl, rfl⟩; first | rw [d1] | rw [d3])
          go_ret
          exact ⟨by rw [HC.out]; rfl, up0 _ _⟩
        · by_cases h5 : l.length = 0 ∨ 128 < l.length
          · have HC : Hid (chkM ⟨g, vv, x, t, l⟩ = 82) := by
              show _ = _
              unfold chkM
              rw [if_neg (fun h => h h1), if_neg h2, if_neg (fun h => h h3), if_neg h4, if_pos h5]
            clear HSA h1 h2 h3
            rcases h5 with h5 | h5
            · rw [h5]
              go_enter Tryz.func5, Tryz.ntmps5
              go_wp2_with (go_at_call 19; refine (HI.out _ _).mono ?_; rintro e w1 ⟨rfl, rfl⟩; first | rw [d1] | rw [d3])
              go_ret
              exact ⟨by rw [HC.out]; rfl, up0 _ _⟩
            · have h5z : ((l.length : Int) == 0) = false := by rw [beq_eq_false_iff_ne]; omega
              go_enter Tryz.func5, Tryz.ntmps5
              go_wp2_with (go_at_call 19; refine (HI.out _ _).mono ?_; rintro e w1 ⟨rfl, rfl⟩; first | rw [d1] | rw [d3])
              go_ret
              exact ⟨by rw [HC.out]; rfl, up0 _ _⟩
          · have HA : Hid (∀ w', Below w.heap.size w w' → Calls Tryz.prog 20 #[.slice ao l.length cap, .int .i64 x] w' fun e w'' => e = .returned (.bool (sgsOk x 0 l)) ∧ Below w'.heap.size w' w'') := fun w' hb => areSegs_any _ l x w' (HSA.out w' hb) (by omega) (by omega)
            have h5a : ¬ l.length = 0 := fun h => h5 (.inl h)
            have h5b : ¬ 128 < l.length := fun h => h5 (.inr h)
            have h5z : ((l.length : Int) == 0) = false := by rw [beq_eq_false_iff_ne]; omega
            have HC : Hid (chkM ⟨g, vv, x, t, l⟩ = if sgsOk x 0 l = true then 0 else 83) := by
              show _ = _
              unfold chkM
              rw [if_neg (fun h => h h1), if_neg h2, if_neg (fun h => h h3), if_neg h4, if_neg h5]
            clear HSA h1 h2 h3 h5
            cases hs : sgsOk x 0 l with
            | true =>
              rw [hs] at HA HC
              clear hs
              go_enter Tryz.func5, Tryz.ntmps5
              go_wp2_with (first
                | (go_at_call 19; refine (HI.out _ _).mono ?_; rintro e w1 ⟨rfl, rfl⟩; first | rw [d1] | rw [d3])
                | (go_at_call 20; refine (HA.out _ (up0 _ _)).mono ?_; rintro e w1 ⟨rfl, b1⟩; have B1 := andThen (up0 w _) b1))
              go_ret
              exact ⟨by rw [HC.out]; rfl, B1⟩
            | false =>
              rw [hs] at HA HC
              clear hs
              go_enter Tryz.func5, Tryz.ntmps5
              go_wp2_with (first
                | (go_at_call 19; refine (HI.out _ _).mono ?_; rintro e w1 ⟨rfl, rfl⟩; first | rw [d1] | rw [d3])
                | (go_at_call 20; refine (HA.out _ (up0 _ _)).mono ?_; rintro e w1 ⟨rfl, b1⟩; have B1 := andThen (up0 w _) b1))
              go_ret
              exact ⟨by rw [HC.out]; rfl, B1⟩
      · have d3 : decide (1 ≤ x ∧ x ≤ 1099511627776) = false := decide_eq_false h3
        have HC : Hid (chkM ⟨g, vv, x, t, l⟩ = 81) := by
          show _ = _
          unfold chkM
          rw [if_neg (fun h => h h1), if_neg h2, if_pos h3]
        clear HSA h1 h2 h3
        go_enter Tryz.func5, Tryz.ntmps5
        go_wp2_with (go_at_call 19; refine (HI.out _ _).mono ?_; rintro e w1 ⟨rfl, rfl⟩; first | rw [d1] | rw [d3])
        go_ret
        exact ⟨by rw [HC.out]; rfl, up0 _ _⟩
  · have HC : Hid (chkM ⟨g, vv, x, t, l⟩ = 80) := by
      show _ = _
      unfold chkM
      rw [if_pos h1]
    have d1 : decide (1 ≤ g ∧ g ≤ 1099511627776) = false := decide_eq_false h1
    clear HSA h1
    go_enter Tryz.func5, Tryz.ntmps5
    go_wp2_with (go_at_call 19; refine (HI.out _ _).mono ?_; rintro e w1 ⟨rfl, rfl⟩; rw [d1])
    go_ret
    exact ⟨by rw [HC.out]; rfl, up0 _ _⟩
end Go.Proofs.YtppabcihbpbfpaaGreatDoor
