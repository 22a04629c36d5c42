import Derived.Deep.RegionHeld3
import Derived.Deep.MidRow
import Derived.BigQuiet
import Derived.Test.YtfnfdbmckpklmaaDoorQV1
import Derived.Test.YtfnfdbmckpklmaaDoorQM1
import Derived.Test.YtfnfdbmckpklmaaDoorQV2
import Derived.Test.YtfnfdbmckpklmaaDoorQV3
/-
  LiftLent: the law.
-/
namespace Go.Proofs.YtfnfdbmckpklmaaDoor
open Go Go.RowKit
open Wb Mg

theorem infoTSS : (Tryd.prog.info? 53).map (fun i => (i.zero, i.size, i.bytes)) = some (some (.slice none 0 0), 1, 24) := by kernel_rfl
theorem infoTRS : (Tryd.prog.info? 28).map (fun i => (i.zero, i.size, i.bytes)) = some (some (.slice none 0 0), 1, 24) := by kernel_rfl
theorem infoTST : (Tryd.prog.info? 9).map (fun i => (i.zero, i.size, i.bytes)) = some (some (.string ⟨#[]⟩), 1, 16) := by kernel_rfl
/-- which way the k-th is asked -/
def wy (k : Nat) : Nat := if k = 2 ∨ k = 3 ∨ k = 5 then 1 else 0
theorem wy_lt (k : Nat) : wy k < 2 := by
  unfold wy
  split <;> omega
theorem wayN_len (b : Nat) : (wayN b).length = 2 := by
  unfold wayN
  split <;> rfl
/-- the lists of words, the first k written over -/
def xw (k : Nat) : Nat → List Value := fun j => if j < k then pat [.string (wrd j)] 2 else Lft.tc (wayN (wy j))
theorem xw_zero : xw 0 = fun j => Lft.tc (wayN (wy j)) := by
  funext j
  unfold xw
  rw [if_neg (by omega)]
/-- the mark of the i-th list of records -/
def recM (i : Nat) : List Value := [.int .i64 (-7 - (i : Int)), .int .i64 0, .int .i64 0, .int .i64 0, .int .i64 0, .int .i64 0, .int .i64 0, .int .i64 0, .int .i64 0, .int .i64 0, .string ⟨#[]⟩, .slice none 0 0]
/-- the lists of records, the first k written over -/
def xa {N : Nat} (X : Nat → List Value) (k : Nat) : Nat → List Value := fun j => if j < k then pat (recM j) N else X j
theorem xa_zero {N : Nat} (X : Nat → List Value) : xa (N := N) X 0 = X := by
  funext j
  unfold xa
  rw [if_neg (by omega)]
theorem strs_new (w : World) (a b : ByteArray) (t : TypeId) (w' : World) (hb : Below (w.alloc (.cells #[.string a, .string b] t)).heap.size (w.alloc (.cells #[.string a, .string b] t)) w') : StrsAt w' (.slice (some ⟨w.heap.size, 0, none⟩) 2 2) [a, b] := by
  refine ⟨_, 2, rfl, by show (2 : Nat) ≤ 4; decide, fun k s hs => ⟨w.heap.size, 0, rfl, ?_⟩⟩
  have hc : ∀ j u, (#[.string a, .string b] : Array Value)[j]? = some u → w'.cell? ⟨w.heap.size, j, none⟩ = some u := fun j u hj => by
    rw [hb.cell (p := ⟨w.heap.size, j, none⟩) (by show w.heap.size < (w.heap.push _).size; rw [Array.size_push]; omega), World.cell?_alloc_new]
    exact hj
  rw [Nat.zero_add]
  match k, hs with
  | 0, hs =>
    obtain rfl : a = s := by simpa using hs
    exact hc 0 _ rfl
  | 1, hs =>
    obtain rfl : b = s := by simpa using hs
    exact hc 1 _ rfl
/-- what stands ready: the two lists of names, the ways -/
def llW (w : World) : World := ((w.alloc (.cells #[.string ⟨#[49, 116, 111, 50]⟩, .string ⟨#[50, 116, 111, 51]⟩] 9)).alloc (.cells #[.string ⟨#[51, 116, 111, 50]⟩, .string ⟨#[50, 116, 111, 49]⟩] 9)).alloc (.cells #[.int .i64 0, .int .i64 0, .int .i64 1, .int .i64 1, .int .i64 0, .int .i64 1] 54)
theorem ll_static (w w' : World) (hb : Below (llW w).heap.size (llW w) w') : StrsAt w' (.slice (some ⟨w.heap.size, 0, none⟩) 2 2) upN ∧ StrsAt w' (.slice (some ⟨w.heap.size + 1, 0, none⟩) 2 2) downN ∧ (∀ k, k < 6 → w'.cell? ⟨w.heap.size + 1 + 1, k, none⟩ = some (.int .i64 (wy k : Int))) ∧ Below w.heap.size w w' := by
  unfold llW at hb
  generalize h1 : w.alloc (.cells #[.string ⟨#[49, 116, 111, 50]⟩, .string ⟨#[50, 116, 111, 51]⟩] 9) = A at hb
  generalize h2 : A.alloc (.cells #[.string ⟨#[51, 116, 111, 50]⟩, .string ⟨#[50, 116, 111, 49]⟩] 9) = C at hb
  have s1 : A.heap.size = w.heap.size + 1 := by rw [← h1]; exact Array.size_push _
  have s2 : C.heap.size = w.heap.size + 1 + 1 := by rw [← h2, ← s1]; exact Array.size_push _
  have bC : Below C.heap.size C w' := andThen (up0 _ _) hb
  have bA : Below A.heap.size A w' := andThen (by rw [← h2]; exact up0 _ _) bC
  have bw : Below w.heap.size w w' := andThen (by rw [← h1]; exact up0 _ _) bA
  refine ⟨?_, ?_, fun k hk => ?_, bw⟩
  · rw [← h1] at bA
    exact strs_new w _ _ _ w' bA
  · rw [← s1]
    rw [← h2] at bC
    exact strs_new A _ _ _ w' bC
  · rw [← s2, hb.cell (p := ⟨C.heap.size, k, none⟩) (by show C.heap.size < (C.heap.push _).size; rw [Array.size_push]; omega), World.cell?_alloc_new]
    rcases (show k = 0 ∨ k = 1 ∨ k = 2 ∨ k = 3 ∨ k = 4 ∨ k = 5 by omega) with rfl | rfl | rfl | rfl | rfl | rfl <;> rfl
set_option maxRecDepth 100000 in
set_option maxHeartbeats 40000000 in
theorem llent_any (to : Int) (v : Value) (rs : List Rec) (w : World) (h : RecsAt w v rs) (hg : LGood rs) (hT : LTabs w) :
    Calls Tryd.prog 4 #[.int .i64 to, v] w fun e w' => e = .returned (.bool true) ∧ Below w.heap.size w w' := by
  have HST0 : Hid (∀ w', Below w.heap.size w w' → LTabs w' ∧ RecsAt w' v rs) := fun w' hb => ⟨hT.kept hb, h.kept hb⟩
  have HGD : Hid (LGood rs) := hg
  obtain ⟨ao, cap, rfl, hm, -⟩ := id h
  clear h hg hT
  go_enter Tryd.func4, Tryd.ntmps4
  go_upto_region 4 with fail
  have HST : Hid (∀ w', Below (llW w).heap.size (llW w) w' → StrsAt w' (.slice (some ⟨w.heap.size, 0, none⟩) 2 2) upN ∧ StrsAt w' (.slice (some ⟨w.heap.size + 1, 0, none⟩) 2 2) downN ∧ (∀ k, k < 6 → w'.cell? ⟨w.heap.size + 1 + 1, k, none⟩ = some (.int .i64 (wy k : Int))) ∧ Below w.heap.size w w' ∧ LTabs w' ∧ RecsAt w' (.slice ao rs.length cap) rs) := fun w' hb => by
    obtain ⟨h1, h2, h3, h4⟩ := ll_static w w' hb
    exact ⟨h1, h2, h3, h4, (HST0.out w' h4).1, (HST0.out w' h4).2⟩
  have HWE : Hid (llW w = ((w.alloc (.cells #[.string ⟨#[49, 116, 111, 50]⟩, .string ⟨#[50, 116, 111, 51]⟩] 9)).alloc (.cells #[.string ⟨#[51, 116, 111, 50]⟩, .string ⟨#[50, 116, 111, 49]⟩] 9)).alloc (.cells #[.int .i64 0, .int .i64 0, .int .i64 1, .int .i64 1, .int .i64 0, .int .i64 1] 54)) := rfl
  rw [← HWE.out]
  clear HWE HST0
  generalize llW w = W at *
  obtain ⟨gY, hgY⟩ : ∃ g, g = w.heap.size + 1 + 1 := ⟨_, rfl⟩
  rw [← hgY] at HST ⊢
  clear hgY
  generalize (Value.slice (some ⟨w.heap.size, 0, none⟩) 2 2) = vU at HST ⊢
  generalize (Value.slice (some ⟨w.heap.size + 1, 0, none⟩) 2 2) = vD at HST ⊢
  have HG1 : Hid (Gth W.heap.size W 53 9 1 (fun _ => 2) (fun j => Lft.tc (wayN (wy j))) W (.slice none 0 0) []) := Gth.start _ _ _ _ _ _ _ (Nat.le_refl _) _ (Below.refl _ _)
  go_wp2
  go_loopw [8, 9] (fun vW i wr => ∃ (k : Nat) (L : List Value), k ≤ 6 ∧ i = .int .i64 (k : Int) ∧ L.length = k ∧ Gth W.heap.size W 53 9 1 (fun _ => 2) (fun j => Lft.tc (wayN (wy j))) wr vW L) (fun _ i _ => 6 - (intOf i).toNat)
  case atStart => exact ⟨0, [], Nat.zero_le _, rfl, rfl, HG1.out⟩
  case round =>
    obtain ⟨k, L, hk, rfl, hLk, hgt⟩ := hrel
    clear HG1
    have HG : Hid (Gth W.heap.size W 53 9 1 (fun _ => 2) (fun j => Lft.tc (wayN (wy j))) wr u8 L ∧ L.length = k) := ⟨hgt, hLk⟩
    obtain ⟨aW, cW, eW, hW1, hW2⟩ := row_shape hgt.row
    rw [hLk] at eW hW1
    subst eW
    unfold maxLen at hW2
    clear hgt hLk
    by_cases hlt : k < 6
    · have hwl := wy_lt k
      have HY : Hid (∀ w', Below wr.heap.size wr w' → w'.cell? ⟨gY, k, none⟩ = some (.int .i64 (wy k : Int))) := fun w' hb => (HST.out _ (HG.out.1.kept hb).bel).2.2.1 k hlt
      have HSP : Hid (∀ w', Below wr.heap.size wr w' → Calls Tryd.prog 25 #[.int .i64 (1 + 2 * (wy k : Int)), .int .i64 (3 - 2 * (wy k : Int))] w' fun e w'' => ∃ o, e = .returned o ∧ Lft.RoT w'.heap.size w'' o (wayN (wy k)) ∧ Below w'.heap.size w' w'') := fun w' hb => steps_way (wy k) hwl w' (HST.out _ (HG.out.1.kept hb).bel).2.2.2.2.1.ways
      have hbel : Below wr.heap.size wr wr := Below.refl _ _
      have y0 := HY.out _ hbel
      have HYG : Hid (∀ w', Below W.heap.size W w' → w'.cell? ⟨gY, k, none⟩ = some (.int .i64 (wy k : Int))) := fun w' hb => (HST.out _ hb).2.2.1 k hlt
      have HNX : Hid (∀ (w2 w3 : World) (o v3 : Value), Below wr.heap.size wr w2 → w2.ownsRow wr.heap.size 9 1 o 2 (Lft.tc (wayN (wy k))) → w2.grownBy w3 (Value.slice aW k cW).ownBlock → w3.ownsRow W.heap.size 53 1 v3 (k + 1) (L ++ [o]) → Gth W.heap.size W 53 9 1 (fun _ => 2) (fun j => Lft.tc (wayN (wy j))) w3 v3 (L ++ [o])) := fun w2 w3 o v3 h1 h2 h3 h4 => by
        have hl := HG.out.2
        refine HG.out.1.next (by decide) h1 _ h2 h3 (by rw [hl]; exact h4) _ (fun j _ => rfl) (by rw [hl])
      have HRR : Hid (∀ w', Below wr.heap.size wr w' → w'.ownsRow W.heap.size 53 1 (.slice aW k cW) k L ∧ W.heap.size ≤ w'.heap.size) := fun w' hb => by
        have h9 := (HG.out.1.kept hb).row
        rw [HG.out.2] at h9
        exact ⟨h9, (HG.out.1.kept hb).size⟩
      have HLL : Hid (L.length = k) := HG.out.2
      clear HG
      generalize wy k = b at *
      rcases (show b = 0 ∨ b = 1 by omega) with rfl | rfl
      · have HS1 : Hid (∀ w', Below wr.heap.size wr w' → Calls Tryd.prog 25 #[.int .i64 1, .int .i64 3] w' fun e w'' => ∃ o, e = .returned o ∧ Lft.RoT w'.heap.size w'' o (wayN 0) ∧ Below w'.heap.size w' w'') := HSP.out
        have y1 : wr.cell? ⟨gY, k, none⟩ = some (.int .i64 0) := y0
        have HY1 : Hid (∀ w', Below wr.heap.size wr w' → w'.cell? ⟨gY, k, none⟩ = some (.int .i64 0)) := HY.out
        have HYH : Hid (∀ w', Below W.heap.size W w' → w'.cell? ⟨gY, k, none⟩ = some (.int .i64 0)) := HYG.out
        clear HSP y0 HY HYG
        go_upto_region 8 with fail
        go_region_held3 (fun w' => w'.cell? ⟨gY, k, none⟩ = some (.int .i64 0)) (first | (exact HYH.out _ HN.bel) | (exact HY1.out _ (andThen B2 (up0 _ _))) | (exact HY1.out _ B2) | (exact HY1.out _ (Below.drew hbel)) | (exact HY1.out _ (Below.drew (andThen B2 (up0 _ _)))) | (exact HY1.out _ (andThen (Below.drew B2) (up0 _ _))) | go_keep)
          (first
            | (go_at_call 25; refine (HS1.out _ (Below.drew hbel)).mono ?_; rintro e w2 ⟨o, rfl, ho0, b2⟩; have B2 := andThen (Below.drew hbel) b2; obtain ⟨ao2, co2, eo2⟩ := ho0.shape; have ho : w2.ownsRow wr.heap.size 9 1 o 2 (Lft.tc (wayN 0)) := (by have h9 := ho0; unfold Lft.RoT at h9; rw [wayN_len] at h9; exact h9); rw [wayN_len] at eo2; subst eo2; clear ho0 b2)
            | (have hB2 := B2
               refine step_append_row rfl (some 58) rfl (.tmp 45) (.tmp 57) 53 55 rfl W.heap.size (.slice none 0 0) 24 infoTSS rfl (by decide) Tryd.underlying55 (.slice aW k cW) k L (by simp [Act.eval]) (HRR.out _ (by first | exact (andThen B2 (up0 _ _)) | exact Below.drew (andThen B2 (up0 _ _)) | exact B2)).1 _ (.slice ao2 2 co2) (by simp [Act.eval]) (World.cell?_alloc_new _ _ _ 0) rfl (by omega) (HRR.out _ (by first | exact (andThen B2 (up0 _ _)) | exact Below.drew (andThen B2 (up0 _ _)) | exact B2)).2 ?_
               intro v3 w3 hr3 hg3
               have HN := HNX.out _ _ _ _ (by first | exact (andThen B2 (up0 _ _)) | exact Below.drew (andThen B2 (up0 _ _)) | exact B2) (by first | exact row_kept ho (up0 _ _) | exact row_kept ho (Below.drew (up0 _ _)) | exact ho) hg3 hr3))
        have HN9 : Hid (Gth W.heap.size W 53 9 1 (fun _ => 2) (fun j => Lft.tc (wayN (wy j))) w3 v3 (L ++ [.slice ao2 2 co2])) := HN
        clear HN hr3 hg3 ho B2 hbel y1 HY1 HYH HS1 HNX HRR
        have HL9 : Hid ((L ++ [Value.slice ao2 2 co2]).length = k + 1) := by show _ = _; rw [List.length_append, HLL.out]; rfl
        go_wp2
        go_roundw
        case rel => exact ⟨k + 1, _, by omega, by go_num, HL9.out, HN9.out⟩
        case measure => simp [intOf]; omega
      · have HS1 : Hid (∀ w', Below wr.heap.size wr w' → Calls Tryd.prog 25 #[.int .i64 3, .int .i64 1] w' fun e w'' => ∃ o, e = .returned o ∧ Lft.RoT w'.heap.size w'' o (wayN 1) ∧ Below w'.heap.size w' w'') := HSP.out
        have y1 : wr.cell? ⟨gY, k, none⟩ = some (.int .i64 1) := y0
        have HY1 : Hid (∀ w', Below wr.heap.size wr w' → w'.cell? ⟨gY, k, none⟩ = some (.int .i64 1)) := HY.out
        have HYH : Hid (∀ w', Below W.heap.size W w' → w'.cell? ⟨gY, k, none⟩ = some (.int .i64 1)) := HYG.out
        clear HSP y0 HY HYG
        go_upto_region 8 with fail
        go_region_held3 (fun w' => w'.cell? ⟨gY, k, none⟩ = some (.int .i64 1)) (first | (exact HYH.out _ HN.bel) | (exact HY1.out _ (andThen B2 (up0 _ _))) | (exact HY1.out _ B2) | (exact HY1.out _ (Below.drew hbel)) | (exact HY1.out _ (Below.drew (andThen B2 (up0 _ _)))) | (exact HY1.out _ (andThen (Below.drew B2) (up0 _ _))) | go_keep)
          (first
            | (go_at_call 25; refine (HS1.out _ (Below.drew hbel)).mono ?_; rintro e w2 ⟨o, rfl, ho0, b2⟩; have B2 := andThen (Below.drew hbel) b2; obtain ⟨ao2, co2, eo2⟩ := ho0.shape; have ho : w2.ownsRow wr.heap.size 9 1 o 2 (Lft.tc (wayN 1)) := (by have h9 := ho0; unfold Lft.RoT at h9; rw [wayN_len] at h9; exact h9); rw [wayN_len] at eo2; subst eo2; clear ho0 b2)
            | (have hB2 := B2
               refine step_append_row rfl (some 58) rfl (.tmp 45) (.tmp 57) 53 55 rfl W.heap.size (.slice none 0 0) 24 infoTSS rfl (by decide) Tryd.underlying55 (.slice aW k cW) k L (by simp [Act.eval]) (HRR.out _ (by first | exact (andThen B2 (up0 _ _)) | exact Below.drew (andThen B2 (up0 _ _)) | exact B2)).1 _ (.slice ao2 2 co2) (by simp [Act.eval]) (World.cell?_alloc_new _ _ _ 0) rfl (by omega) (HRR.out _ (by first | exact (andThen B2 (up0 _ _)) | exact Below.drew (andThen B2 (up0 _ _)) | exact B2)).2 ?_
               intro v3 w3 hr3 hg3
               have HN := HNX.out _ _ _ _ (by first | exact (andThen B2 (up0 _ _)) | exact Below.drew (andThen B2 (up0 _ _)) | exact B2) (by first | exact row_kept ho (up0 _ _) | exact row_kept ho (Below.drew (up0 _ _)) | exact ho) hg3 hr3))
        have HN9 : Hid (Gth W.heap.size W 53 9 1 (fun _ => 2) (fun j => Lft.tc (wayN (wy j))) w3 v3 (L ++ [.slice ao2 2 co2])) := HN
        clear HN hr3 hg3 ho B2 hbel y1 HY1 HYH HS1 HNX HRR
        have HL9 : Hid ((L ++ [Value.slice ao2 2 co2]).length = k + 1) := by show _ = _; rw [List.length_append, HLL.out]; rfl
        go_wp2
        go_roundw
        case rel => exact ⟨k + 1, _, by omega, by go_num, HL9.out, HN9.out⟩
        case measure => simp [intOf]; omega
    · obtain rfl : k = 6 := by omega
      clear hlt hk
      rw [show ((6 : Nat) : Int) = 6 from rfl]
      have HGW : Hid (∀ w', Below wr.heap.size wr w' → Gth W.heap.size W 53 9 1 (fun _ => 2) (fun j => Lft.tc (wayN (wy j))) w' (.slice aW 6 cW) L ∧ L.length = 6) := fun w' hb => ⟨HG.out.1.kept hb, HG.out.2⟩
      obtain ⟨w1, hw1⟩ : ∃ x, x = wr := ⟨_, rfl⟩
      subst hw1
      have HU1 : Hid (∀ w', Below W.heap.size W w' → Calls Tryd.prog 26 #[.int .i64 to, .slice ao rs.length cap] w' fun e w'' => ∃ vl ps i z, e = .returned (.tuple #[vl, .int .i64 i, .int .i64 z]) ∧ Outs w'.heap.size w'' vl ps ∧ (∀ p ∈ ps, ∀ g, g < w'.heap.size → Off g p.2 p.1.l) ∧ UaAns to rs (ps.map Prod.fst) i z ∧ Below w'.heap.size w' w'') := fun w' hb => r4upall_own to _ rs w' (HST.out _ hb).2.2.2.2.2 HGD.out.rgood (HST.out _ hb).2.2.2.2.1.tabs
      have HU2 : Hid (∀ w', Below W.heap.size W w' → Calls Tryd.prog 27 #[.int .i64 to, .slice ao rs.length cap] w' fun e w'' => ∃ vl ps i z, e = .returned (.tuple #[vl, .int .i64 i, .int .i64 z]) ∧ Rws w'.heap.size w'' vl ps ∧ UaAns to rs (ps.map Prod.fst) i z ∧ Below w'.heap.size w' w'') := fun w' hb => upall_own to _ rs w' (HST.out _ hb).2.2.2.2.2 HGD.out (HST.out _ hb).2.2.2.2.1
      have hb0 : Below W.heap.size W w1 := HG.out.1.bel
      have HOL : Hid (∀ v ∈ L, ∀ g, v.ownBlock = some g → g < w1.heap.size) := fun v hv g hg => (HG.out.1.fam.lt v hv g hg).2
      clear HG
      go_wp2_with fail
      refine (HU1.out _ hb0).mono ?_
      rintro e w4 ⟨vN, ps4, i4, z4, rfl, hon, hof, huN, b4⟩
      obtain ⟨RN, hRE⟩ : ∃ RN, ps4.map Prod.fst = RN := ⟨_, rfl⟩
      have hpl4 : ps4.length = RN.length := by rw [← hRE, List.length_map]
      obtain ⟨aN, cN, eN, -, -⟩ := row_shape hon.1
      rw [hpl4] at eN
      subst eN
      rw [hRE] at huN
      have HWT : Hid (∀ w', (∀ g, w1.heap.size ≤ g → g < w4.heap.size → w'.heap[g]? = w4.heap[g]?) → RecsAt w' (.slice aN RN.length cN) RN) := fun w' hk => by
        have h9 := (outs_span hon hof hk).recsAt
        rw [hRE] at h9
        exact h9
      have HWN : Hid (∀ w', Below w4.heap.size w4 w' → RecsAt w' (.slice aN RN.length cN) RN ∧ Below W.heap.size W w' ∧ Below w1.heap.size w1 w') := fun w' hb => ⟨HWT.out w' fun g _ h2 => hb.block g h2, (hb0.trans (b4.mono hb0.size)).trans (hb.mono (Nat.le_trans hb0.size b4.size)), andThen b4 hb⟩
      have HUN : Hid (UaAns to rs RN i4 z4) := huN
      have hRN : RN.length ≤ 1048576 := Nat.le_trans (uaAns_len huN) HGD.out.few
      have HS4 : Hid (w1.heap.size ≤ w4.heap.size ∧ W.heap.size ≤ w4.heap.size) := ⟨b4.size, Nat.le_trans hb0.size b4.size⟩
      clear hon hof huN b4 hb0 HU1 hRE hpl4
      have HG2 : Hid (Gth w4.heap.size w4 28 24 12 (fun _ => RN.length) (fun _ => []) w4 (.slice none 0 0) []) := Gth.start _ _ _ _ _ _ _ (Nat.le_refl _) _ (Below.refl _ _)
      go_wp2
      go_loopw [13, 14] (fun vA i wq => ∃ (k : Nat) (LA : List Value) (X : Nat → List Value), k ≤ 3 ∧ i = .int .i64 (k : Int) ∧ LA.length = k ∧ Gth w4.heap.size w4 28 24 12 (fun _ => RN.length) X wq vA LA ∧ ∀ (j : Nat) (u : Value), LA[j]? = some u → ∃ (B' : Nat) (ps : List (Rec × Value)), Rws B' wq u ps ∧ ps.map Prod.fst = RN) (fun _ i _ => 3 - (intOf i).toNat)
      case atStart => exact ⟨0, [], _, Nat.zero_le _, rfl, rfl, HG2.out, fun j u hj => by simp at hj⟩
      case round =>
        obtain ⟨k, LA, X, hk, rfl, hLk, hgt, hrw⟩ := hrel
        clear HG2
        have HA : Hid (Gth w4.heap.size w4 28 24 12 (fun _ => RN.length) X wr u13 LA ∧ LA.length = k ∧ ∀ (j : Nat) (u : Value), LA[j]? = some u → ∃ (B' : Nat) (ps : List (Rec × Value)), Rws B' wr u ps ∧ ps.map Prod.fst = RN) := ⟨hgt, hLk, hrw⟩
        obtain ⟨aA, cA, eA, hA1, hA2⟩ := row_shape hgt.row
        rw [hLk] at eA hA1
        subst eA
        unfold maxLen at hA2
        clear hgt hLk hrw
        by_cases hlt : k < 3
        · have hb4 : Below w4.heap.size w4 wr := HA.out.1.bel
          go_wp2_with fail
          refine (HU2.out _ (HWN.out _ hb4).2.1).mono ?_
          rintro e w5 ⟨vl, ps, i5, z5, rfl, hrw5, hua5, b5⟩
          have hpm : ps.map Prod.fst = RN := (uaAns_one hua5 HUN.out).1
          have hpl : ps.length = RN.length := by rw [← hpm, List.length_map]
          have HR5 : Hid (∀ o, (w5.alloc o).ownsRow wr.heap.size 24 12 vl RN.length (ps.flatMap rcl) ∧ Rws wr.heap.size (w5.alloc o) vl ps) := fun o => by
            have h9 := (hrw5.kept (up0 w5 o)).recs.1
            rw [hpl] at h9
            exact ⟨h9, hrw5.kept (up0 w5 o)⟩
          obtain ⟨a5, c5, e5, -, -⟩ := row_shape (HR5.out (.cells #[] 24)).1
          subst e5
          have HK5 : Hid (∀ o, (w5.alloc o).ownsRow w4.heap.size 28 1 (.slice aA k cA) k LA ∧ w4.heap.size ≤ (w5.alloc o).heap.size ∧ Below wr.heap.size wr (w5.alloc o)) := fun o => by
            have hb := andThen b5 (up0 w5 o)
            have h9 := (HA.out.1.kept hb).row
            rw [HA.out.2.1] at h9
            exact ⟨h9, (HA.out.1.kept hb).size, hb⟩
          have HPM : Hid (ps.map Prod.fst = RN) := hpm
          clear hrw5 hua5 b5 hpm hpl hb4
          go_wp2_with (at_builtin; refine wpList_append_row _ rfl (.tmp 77) (.tmp 79) 28 59 rfl w4.heap.size (.slice none 0 0) 24 infoTRS rfl (by decide) Tryd.underlying59 _ k LA rfl (HK5.out _).1 _ _ rfl (World.cell?_alloc_new w5 _ _ 0) rfl (by omega) (HK5.out _).2.1 ?_)
          intro v6 w6 hr6 hg6
          have HN : Hid (∃ X', Gth w4.heap.size w4 28 24 12 (fun _ => RN.length) X' w6 v6 (LA ++ [.slice a5 RN.length c5]) ∧ (LA ++ [Value.slice a5 RN.length c5]).length = k + 1 ∧ ∀ (j : Nat) (u : Value), (LA ++ [Value.slice a5 RN.length c5])[j]? = some u → ∃ (B' : Nat) (ps : List (Rec × Value)), Rws B' w6 u ps ∧ ps.map Prod.fst = RN) := by
            have hl := HA.out.2.1
            refine ⟨fun j => if j = LA.length then ps.flatMap rcl else X j, HA.out.1.next (by decide) (HK5.out _).2.2 _ (HR5.out _).1 hg6 (by rw [hl]; exact hr6) _ (fun j hj => if_neg (by omega)) (if_pos rfl), by rw [List.length_append, hl]; rfl, fun j u hj => ?_⟩
            by_cases hjl : j < LA.length
            · rw [List.getElem?_append_left hjl] at hj
              obtain ⟨B', qs, h1, h2⟩ := HA.out.2.2 j u hj
              exact ⟨B', qs, (h1.kept (HK5.out _).2.2).kind (HK5.out _).1 (by decide) (by decide) hg6, h2⟩
            · rw [List.getElem?_append_right (by omega)] at hj
              have h0 : j - LA.length = 0 := by
                have := (List.getElem?_eq_some_iff.1 hj).1
                simp at this
                omega
              rw [h0] at hj
              obtain rfl : Value.slice a5 RN.length c5 = u := by simpa using hj
              exact ⟨_, ps, (HR5.out _).2.kind (HK5.out _).1 (by decide) (by decide) hg6, HPM.out⟩
          clear hr6 hg6 HK5 HR5 HPM HA
          go_wp2
          go_roundw
          case rel =>
            obtain ⟨X', h1, h2, h3⟩ := HN.out
            exact ⟨k + 1, _, X', by omega, by go_num, h2, h1, h3⟩
          case measure => simp [intOf]; omega
        · obtain rfl : k = 3 := by omega
          clear hlt hk HU2
          rw [show ((3 : Nat) : Int) = 3 from rfl]
          obtain ⟨w8, hw8⟩ : ∃ x, x = wr := ⟨_, rfl⟩
          subst hw8
          have HALL : Hid (∀ w', Below w8.heap.size w8 w' → (Gth W.heap.size W 53 9 1 (fun _ => 2) (fun j => Lft.tc (wayN (wy j))) w' (.slice aW 6 cW) L ∧ L.length = 6) ∧ (Gth w4.heap.size w4 28 24 12 (fun _ => RN.length) X w' (.slice aA 3 cA) LA ∧ LA.length = 3 ∧ ∀ (j : Nat) (u : Value), LA[j]? = some u → RecsAt w' u RN) ∧ RecsAt w' (.slice aN RN.length cN) RN ∧ Below W.heap.size W w' ∧ Below w4.heap.size w4 w') := fun w' hb => by
            have h1 := HA.out.1.kept hb
            have h2 := HWN.out _ h1.bel
            refine ⟨HGW.out _ h2.2.2, ⟨h1, HA.out.2.1, fun j u hj => ?_⟩, h2.1, h2.2.1, h1.bel⟩
            obtain ⟨B', ps, h3, h4⟩ := HA.out.2.2 j u hj
            have h5 := (h3.kept hb).recs.recsAt
            rw [h4] at h5
            exact h5
          have HYO : Hid (∀ v ∈ LA, ∀ g, v.ownBlock = some g → w4.heap.size ≤ g) := fun v hv g hg => (HA.out.1.fam.lt v hv g hg).1
          clear HA HWN HGW
          go_wp2
          go_loopw [18] (fun i wq => ∃ k : Nat, k ≤ 6 ∧ i = .int .i64 (k : Int) ∧ Below w8.heap.size w8 wq) (fun i _ => 6 - (intOf i).toNat)
          case atStart => exact ⟨0, Nat.zero_le _, rfl, Below.refl _ _⟩
          case round =>
            obtain ⟨k, hk, rfl, hbel⟩ := hrel
            by_cases hlt : k < 6
            · obtain ⟨lv, hlv⟩ : ∃ lv, L[k]? = some lv := ⟨L[k]'(by rw [(HALL.out _ hbel).1.2]; exact hlt), List.getElem?_eq_getElem _⟩
              obtain ⟨ak, ck, elv, hc1, hc2⟩ := row_shape ((HALL.out _ hbel).1.1.fam k lv hlv)
              subst elv
              have hk2 : k / 2 < 3 := by omega
              obtain ⟨av, hav⟩ : ∃ av, LA[k / 2]? = some av := ⟨LA[k / 2]'(by rw [(HALL.out _ hbel).2.1.2.1]; exact hk2), List.getElem?_eq_getElem _⟩
              obtain ⟨aj, cj, eav, hc3, hc4⟩ := row_shape ((HALL.out _ hbel).2.1.1.fam (k / 2) av hav)
              subst eav
              obtain ⟨gW, egW⟩ : ∃ g, aW = some ⟨g, 0, none⟩ := by
                obtain ⟨a9, c9, e9, -, -, h9⟩ := row_cells (HALL.out _ hbel).1.1.row
                obtain ⟨g, h8, -⟩ := h9 k _ hlv
                simp only [Value.slice.injEq] at e9
                exact ⟨g, e9.1.trans h8⟩
              obtain ⟨gA, egA⟩ : ∃ g, aA = some ⟨g, 0, none⟩ := by
                obtain ⟨a9, c9, e9, -, -, h9⟩ := row_cells (HALL.out _ hbel).2.1.1.row
                obtain ⟨g, h8, -⟩ := h9 (k / 2) _ hav
                simp only [Value.slice.injEq] at e9
                exact ⟨g, e9.1.trans h8⟩
              subst egW egA
              have HC : Hid (∀ w', Below w8.heap.size w8 w' → w'.cell? ⟨gY, k, none⟩ = some (.int .i64 (wy k : Int)) ∧ w'.cell? ⟨gW, k, none⟩ = some (.slice ak 2 ck) ∧ w'.cell? ⟨gA, k / 2, none⟩ = some (.slice aj RN.length cj)) := fun w' hb => by
                refine ⟨(HST.out _ (HALL.out _ hb).2.2.2.1).2.2.1 k hlt, ?_, ?_⟩
                · obtain ⟨a9, c9, e9, -, -, h9⟩ := row_cells (HALL.out _ hb).1.1.row
                  obtain ⟨g, h8, h7⟩ := h9 k _ hlv
                  simp only [Value.slice.injEq] at e9
                  have h6 := e9.1.trans h8
                  simp only [Option.some.injEq, Addr.mk.injEq, and_true] at h6
                  rw [h6]
                  exact h7
                · obtain ⟨a9, c9, e9, -, -, h9⟩ := row_cells (HALL.out _ hb).2.1.1.row
                  obtain ⟨g, h8, h7⟩ := h9 (k / 2) _ hav
                  simp only [Value.slice.injEq] at e9
                  have h6 := e9.1.trans h8
                  simp only [Option.some.injEq, Addr.mk.injEq, and_true] at h6
                  rw [h6]
                  exact h7
              have HWK : Hid (∀ w', Below w8.heap.size w8 w' → StrsAt w' (.slice ak 2 ck) (wayN (wy k))) := fun w' hb => by
                have h9 := (HALL.out _ hb).1.1.fam k _ hlv
                refine strsAt_row (B := W.heap.size) ?_ (by rw [wayN_len]; decide)
                unfold Lft.RoT
                rw [wayN_len]
                exact h9
              have HS2 : Hid (∀ w', Below w8.heap.size w8 w' → Calls Tryd.prog 20 #[.slice aj RN.length cj, .slice aN RN.length cN] w' fun e w'' => e = .returned (.bool true) ∧ Below w'.heap.size w' w'') := fun w' hb => sameAll3_ok _ _ RN w' ((HALL.out _ hb).2.1.2.2 (k / 2) _ hav) (HALL.out _ hb).2.2.1
              have hwl := wy_lt k
              obtain ⟨c7, c8, c9⟩ := HC.out _ hbel
              clear hlv hav
              generalize wy k = b at *
              rcases (show b = 0 ∨ b = 1 by omega) with rfl | rfl
              · have HS1 : Hid (∀ w', Below w8.heap.size w8 w' → Calls Tryd.prog 28 #[.slice ak 2 ck, vU] w' fun e w'' => e = .returned (.bool true) ∧ Below w'.heap.size w' w'') := fun w' hb => sameWords_ok _ _ upN w' (HWK.out _ hb) (HST.out _ (HALL.out _ hb).2.2.2.1).1
                clear HWK
                go_wp2_with fail
                refine (HS1.out _ hbel).mono ?_
                rintro e z1 ⟨rfl, y1⟩
                have Y1 := andThen hbel y1
                obtain ⟨d7, d8, d9⟩ := HC.out _ Y1
                clear HS1 y1 hbel c7 c8 c9
                go_wp2_with fail
                refine (HS2.out _ Y1).mono ?_
                rintro e z2 ⟨rfl, y2⟩
                have Y2 := andThen Y1 y2
                clear HS2 y2 Y1 d9 d8 d7 HC
                go_wp2
                go_roundw
                case rel => exact ⟨k + 1, by omega, by go_num, Y2⟩
                case measure => simp [intOf]; omega
              · have HS1 : Hid (∀ w', Below w8.heap.size w8 w' → Calls Tryd.prog 28 #[.slice ak 2 ck, vD] w' fun e w'' => e = .returned (.bool true) ∧ Below w'.heap.size w' w'') := fun w' hb => sameWords_ok _ _ downN w' (HWK.out _ hb) (HST.out _ (HALL.out _ hb).2.2.2.1).2.1
                clear HWK
                go_wp2_with fail
                refine (HS1.out _ hbel).mono ?_
                rintro e z1 ⟨rfl, y1⟩
                have Y1 := andThen hbel y1
                obtain ⟨d7, d8, d9⟩ := HC.out _ Y1
                clear HS1 y1 hbel c7 c8 c9
                go_wp2_with fail
                refine (HS2.out _ Y1).mono ?_
                rintro e z2 ⟨rfl, y2⟩
                have Y2 := andThen Y1 y2
                clear HS2 y2 Y1 d9 d8 d7 HC
                go_wp2
                go_roundw
                case rel => exact ⟨k + 1, by omega, by go_num, Y2⟩
                case measure => simp [intOf]; omega
            · obtain rfl : k = 6 := by omega
              clear hlt hk
              rw [show ((6 : Nat) : Int) = 6 from rfl]
              obtain ⟨gW, egW⟩ : ∃ g, aW = some ⟨g, 0, none⟩ := by
                obtain ⟨a9, c9, e9, -, -, h9⟩ := row_cells (HALL.out _ hbel).1.1.row
                obtain ⟨g, h8, -⟩ := h9 0 _ (List.getElem?_eq_getElem (by rw [(HALL.out _ hbel).1.2]; decide))
                simp only [Value.slice.injEq] at e9
                exact ⟨g, e9.1.trans h8⟩
              obtain ⟨gA, egA⟩ : ∃ g, aA = some ⟨g, 0, none⟩ := by
                obtain ⟨a9, c9, e9, -, -, h9⟩ := row_cells (HALL.out _ hbel).2.1.1.row
                obtain ⟨g, h8, -⟩ := h9 0 _ (List.getElem?_eq_getElem (by rw [(HALL.out _ hbel).2.1.2.1]; decide))
                simp only [Value.slice.injEq] at e9
                exact ⟨g, e9.1.trans h8⟩
              subst egW egA
              have HQ0 : Hid (St2 W w1 w4 53 9 28 24 1 12 2 RN.length (.slice (some ⟨gW, 0, none⟩) 6 cW) L (.slice (some ⟨gA, 0, none⟩) 3 cA) LA (xw 0) X wr ∧ L.length = 6 ∧ LA.length = 3) := by
                obtain ⟨h1, h2, h3, h4, h5⟩ := HALL.out _ hbel
                refine ⟨⟨?_, h2.1.rebase HS4.out.2 (Nat.le_refl _) h4, by decide, HOL.out, HYO.out, ⟨HS4.out.1, h5.size⟩, fun g _ hg => h5.block g hg⟩, h1.2, h2.2.1⟩
                rw [xw_zero]
                exact h1.1
              have HLN : Hid (L.length = 6 ∧ LA.length = 3) := HQ0.out.2
              clear HALL hbel HOL HYO
              go_wp2
              go_loopw [19] (fun i wq => ∃ k : Nat, k ≤ 6 ∧ i = .int .i64 (k : Int) ∧ St2 W w1 w4 53 9 28 24 1 12 2 RN.length (.slice (some ⟨gW, 0, none⟩) 6 cW) L (.slice (some ⟨gA, 0, none⟩) 3 cA) LA (xw k) X wq) (fun i _ => 6 - (intOf i).toNat)
              case atStart => exact ⟨0, Nat.zero_le _, rfl, HQ0.out.1⟩
              case round =>
                obtain ⟨k, hk, rfl, hst⟩ := hrel
                clear HQ0
                have HQ : Hid (St2 W w1 w4 53 9 28 24 1 12 2 RN.length (.slice (some ⟨gW, 0, none⟩) 6 cW) L (.slice (some ⟨gA, 0, none⟩) 3 cA) LA (xw k) X wr) := hst
                clear hst
                by_cases hlt : k < 6
                · obtain ⟨lv, hlv⟩ : ∃ lv, L[k]? = some lv := ⟨L[k]'(by rw [HLN.out.1]; exact hlt), List.getElem?_eq_getElem _⟩
                  obtain ⟨ak, ck, elv, hc1, hc2⟩ := row_shape (HQ.out.ga.fam k lv hlv)
                  obtain ⟨gk, egk⟩ : ∃ g, ak = some ⟨g, 0, none⟩ := by
                    have h9 := HQ.out.ga.fam k lv hlv
                    rw [elv] at h9
                    rcases h9.2 with ⟨_, h0⟩ | ⟨g, cap', cur, e', _⟩
                    · omega
                    · simp only [Value.slice.injEq] at e'
                      exact ⟨g, e'.1⟩
                  subst egk
                  subst elv
                  have HLV : Hid (L[k]? = some (.slice (some ⟨gk, 0, none⟩) 2 ck)) := hlv
                  have HCW : Hid (∀ (w' : World) (Y : Nat → List Value), St2 W w1 w4 53 9 28 24 1 12 2 RN.length (.slice (some ⟨gW, 0, none⟩) 6 cW) L (.slice (some ⟨gA, 0, none⟩) 3 cA) LA Y X w' → w'.cell? ⟨gW, k, none⟩ = some (.slice (some ⟨gk, 0, none⟩) 2 ck)) := fun w' Y h => by
                    obtain ⟨a9, c9, e9, -, -, h9⟩ := row_cells h.ga.row
                    obtain ⟨g, h8, h7⟩ := h9 k _ HLV.out
                    simp only [Value.slice.injEq] at e9
                    have h6 := e9.1.trans h8
                    simp only [Option.some.injEq, Addr.mk.injEq, and_true] at h6
                    rw [h6]
                    exact h7
                  have HQ1 : Hid (St2 W w1 w4 53 9 28 24 1 12 2 RN.length (.slice (some ⟨gW, 0, none⟩) 6 cW) L (.slice (some ⟨gA, 0, none⟩) 3 cA) LA (fun j => if j = k then fil [.string (wrd k)] (Lft.tc (wayN (wy k))) 0 else xw k j) X wr) := by
                    have e9 : (fun j => if j = k then fil [.string (wrd k)] (Lft.tc (wayN (wy k))) 0 else xw k j) = xw k := by
                      funext j
                      by_cases hjk : j = k
                      · rw [if_pos hjk, fil_zero, hjk]
                        unfold xw
                        rw [if_neg (by omega)]
                      · rw [if_neg hjk]
                    show St2 W w1 w4 53 9 28 24 1 12 2 RN.length (.slice (some ⟨gW, 0, none⟩) 6 cW) L (.slice (some ⟨gA, 0, none⟩) 3 cA) LA _ _ _
                    rw [e9]
                    exact HQ.out
                  have HWD : Hid (∀ w', Calls Tryd.prog 29 #[.int .i64 (k : Int)] w' fun e w'' => e = .returned (.string (wrd k)) ∧ Below w'.heap.size w' w'') := fun w' => word_any k w' hlt
                  clear HQ hlv
                  have d6 : ((k : Int) < 6) = True := eq_true (by omega)
                  have q0 := HCW.out _ _ HQ1.out
                  go_wp2
                  go_loopw [20] (fun i wq => ∃ q : Nat, q ≤ 2 ∧ i = .int .i64 (q : Int) ∧ St2 W w1 w4 53 9 28 24 1 12 2 RN.length (.slice (some ⟨gW, 0, none⟩) 6 cW) L (.slice (some ⟨gA, 0, none⟩) 3 cA) LA (fun j => if j = k then fil [.string (wrd k)] (Lft.tc (wayN (wy k))) q else xw k j) X wq) (fun i _ => 2 - (intOf i).toNat)
                  case atStart => exact ⟨0, Nat.zero_le _, rfl, HQ1.out⟩
                  case round =>
                    obtain ⟨q, hq, rfl, hst⟩ := hrel
                    clear HQ1 q0
                    have HQ2 : Hid (St2 W w1 w4 53 9 28 24 1 12 2 RN.length (.slice (some ⟨gW, 0, none⟩) 6 cW) L (.slice (some ⟨gA, 0, none⟩) 3 cA) LA (fun j => if j = k then fil [.string (wrd k)] (Lft.tc (wayN (wy k))) q else xw k j) X wr) := hst
                    clear hst
                    have q0 := HCW.out _ _ HQ2.out
                    by_cases hl2 : q < 2
                    · have HFS : Hid (∀ w', Below wr.heap.size wr w' → (∃ u, w'.cell? ⟨gk, q, none⟩ = some u) ∧ w'.frozen? ⟨gk, q, none⟩ = false ∧ St2 W w1 w4 53 9 28 24 1 12 2 RN.length (.slice (some ⟨gW, 0, none⟩) 6 cW) L (.slice (some ⟨gA, 0, none⟩) 3 cA) LA (fun j => if j = k then fil [.string (wrd k)] (Lft.tc (wayN (wy k))) (q + 1) else xw k j) X (w'.setCell ⟨gk, q, none⟩ (.string (wrd k)))) := fun w' hb => by
                        have h0 := HQ2.out.kept hb
                        have h1 := h0.ga.fam k _ HLV.out
                        simp only [if_true] at h1
                        have hx : (Lft.tc (wayN (wy k))).length = 2 * [Value.string (wrd k)].length := by
                          unfold Lft.tc
                          rw [List.length_map, wayN_len]
                          rfl
                        obtain ⟨g9, e9, ht, hr, hgr, -⟩ := fill_step (cs := [.string (wrd k)]) Nat.one_pos hx h1 hl2
                        simp only [Option.some.injEq, Addr.mk.injEq, and_true] at e9
                        subst e9
                        have hq1 : q * [Value.string (wrd k)].length = q := Nat.mul_one q
                        rw [hq1] at ht hr hgr
                        obtain ⟨t1, t2⟩ := ht 0 Nat.one_pos
                        rw [Nat.add_zero] at t1 t2
                        refine ⟨Option.isSome_iff_exists.1 t1, t2, ?_⟩
                        have h2 := h0.puta k _ HLV.out hgr _ hr
                        have e8 : (fun j => if j = k then fil [.string (wrd k)] (Lft.tc (wayN (wy k))) (q + 1) else (fun j => if j = k then fil [.string (wrd k)] (Lft.tc (wayN (wy k))) q else xw k j) j) = (fun j => if j = k then fil [.string (wrd k)] (Lft.tc (wayN (wy k))) (q + 1) else xw k j) := by
                          funext j
                          by_cases hjk : j = k
                          · rw [if_pos hjk, if_pos hjk]
                          · rw [if_neg hjk, if_neg hjk]
                            simp only [if_neg hjk]
                        rw [e8] at h2
                        exact h2
                      have HCB : Hid (∀ w', Below wr.heap.size wr w' → w'.cell? ⟨gW, k, none⟩ = some (.slice (some ⟨gk, 0, none⟩) 2 ck)) := fun w' hb => HCW.out _ _ (HQ2.out.kept hb)
                      have HCS : Hid (∀ w', Below wr.heap.size wr w' → (w'.setCell ⟨gk, q, none⟩ (.string (wrd k))).cell? ⟨gW, k, none⟩ = some (.slice (some ⟨gk, 0, none⟩) 2 ck)) := fun w' hb => HCW.out _ _ (HFS.out _ hb).2.2
                      have hbel : Below wr.heap.size wr wr := Below.refl _ _
                      have HWD1 : Hid (∀ w', Calls Tryd.prog 29 #[.int .i64 (k : Int)] w' fun e w'' => e = .returned (.string (wrd k)) ∧ Below w'.heap.size w' w'') := HWD.out
                      clear HQ2
                      go_upto_region 27 with fail
                      go_region_held3 (fun w' => w'.cell? ⟨gW, k, none⟩ = some (.slice (some ⟨gk, 0, none⟩) 2 ck)) (first | (exact HCS.out _ B5) | (exact HCB.out _ B5) | (exact HCB.out _ (Below.drew hbel)) | go_keep)
                        ((go_at_call 29; refine (HWD1.out _).mono ?_; rintro e w5 ⟨rfl, b5⟩; have B5 := andThen (Below.drew hbel) b5; obtain ⟨u5, x5⟩ := (HFS.out _ B5).1; have f5 := (HFS.out _ B5).2.1))
                      have HNX : Hid (St2 W w1 w4 53 9 28 24 1 12 2 RN.length (.slice (some ⟨gW, 0, none⟩) 6 cW) L (.slice (some ⟨gA, 0, none⟩) 3 cA) LA (fun j => if j = k then fil [.string (wrd k)] (Lft.tc (wayN (wy k))) (q + 1) else xw k j) X (w5.setCell ⟨gk, q, none⟩ (.string (wrd k)))) := (HFS.out _ B5).2.2
                      clear HFS HCB HCS hbel HWD1 B5 b5 x5 f5 q0
                      generalize w5.setCell ⟨gk, q, none⟩ (.string (wrd k)) = wN at HNX ⊢
                      go_wp2
                      go_roundw
                      case rel => exact ⟨q + 1, by omega, by go_num, HNX.out⟩
                      case measure => simp [intOf]; omega
                    · obtain rfl : q = 2 := by omega
                      have HNX : Hid (St2 W w1 w4 53 9 28 24 1 12 2 RN.length (.slice (some ⟨gW, 0, none⟩) 6 cW) L (.slice (some ⟨gA, 0, none⟩) 3 cA) LA (xw (k + 1)) X wr) := by
                        have e8 : (fun j => if j = k then fil [.string (wrd k)] (Lft.tc (wayN (wy k))) 2 else xw k j) = xw (k + 1) := by
                          funext j
                          by_cases hjk : j = k
                          · rw [if_pos hjk, fil_end _ _ 2 (by unfold Lft.tc; rw [List.length_map, wayN_len]; rfl), hjk]
                            unfold xw
                            rw [if_pos (by omega)]
                          · rw [if_neg hjk]
                            unfold xw
                            by_cases h9 : j < k
                            · rw [if_pos h9, if_pos (by omega)]
                            · rw [if_neg h9, if_neg (by omega)]
                        show St2 W w1 w4 53 9 28 24 1 12 2 RN.length (.slice (some ⟨gW, 0, none⟩) 6 cW) L (.slice (some ⟨gA, 0, none⟩) 3 cA) LA _ _ _
                        rw [← e8]
                        exact HQ2.out
                      clear HQ2 hl2 hq
                      rw [show ((2 : Nat) : Int) = 2 from rfl]
                      go_wp2
                      go_roundw
                      case rel => exact ⟨k + 1, by omega, by go_num, HNX.out⟩
                      case measure => simp [intOf]; omega
                · obtain rfl : k = 6 := by omega
                  clear hlt hk
                  rw [show ((6 : Nat) : Int) = 6 from rfl]
                  have HR0 : Hid (St2 W w1 w4 53 9 28 24 1 12 2 RN.length (.slice (some ⟨gW, 0, none⟩) 6 cW) L (.slice (some ⟨gA, 0, none⟩) 3 cA) LA (xw 6) (xa (N := RN.length) X 0) wr) := by
                    show St2 W w1 w4 53 9 28 24 1 12 2 RN.length (.slice (some ⟨gW, 0, none⟩) 6 cW) L (.slice (some ⟨gA, 0, none⟩) 3 cA) LA _ _ _
                    rw [xa_zero]
                    exact HQ.out
                  have HRZ : Hid ((Tryd.prog.info? 24).map (·.size) = some 12) := infoRec
                  clear HQ
                  go_wp2
                  go_loopw [21] (fun i wq => ∃ k : Nat, k ≤ 3 ∧ i = .int .i64 (k : Int) ∧ St2 W w1 w4 53 9 28 24 1 12 2 RN.length (.slice (some ⟨gW, 0, none⟩) 6 cW) L (.slice (some ⟨gA, 0, none⟩) 3 cA) LA (xw 6) (xa (N := RN.length) X k) wq) (fun i _ => 3 - (intOf i).toNat)
                  case atStart => exact ⟨0, Nat.zero_le _, rfl, HR0.out⟩
                  case round =>
                    obtain ⟨k, hk, rfl, hst⟩ := hrel
                    clear HR0
                    have HQ : Hid (St2 W w1 w4 53 9 28 24 1 12 2 RN.length (.slice (some ⟨gW, 0, none⟩) 6 cW) L (.slice (some ⟨gA, 0, none⟩) 3 cA) LA (xw 6) (xa (N := RN.length) X k) wr) := hst
                    clear hst
                    by_cases hlt : k < 3
                    · obtain ⟨lv, hlv⟩ : ∃ lv, LA[k]? = some lv := ⟨LA[k]'(by rw [HLN.out.2]; exact hlt), List.getElem?_eq_getElem _⟩
                      obtain ⟨ak, ck, elv, hc1, hc2⟩ := row_shape (HQ.out.gb.fam k lv hlv)
                      subst elv
                      unfold maxLen at hc2
                      have HLV : Hid (LA[k]? = some (.slice ak RN.length ck)) := hlv
                      have HCW : Hid (∀ (w' : World) (Y : Nat → List Value), St2 W w1 w4 53 9 28 24 1 12 2 RN.length (.slice (some ⟨gW, 0, none⟩) 6 cW) L (.slice (some ⟨gA, 0, none⟩) 3 cA) LA (xw 6) Y w' → w'.cell? ⟨gA, k, none⟩ = some (.slice ak RN.length ck)) := fun w' Y h => by
                        obtain ⟨a9, c9, e9, -, -, h9⟩ := row_cells h.gb.row
                        obtain ⟨g, h8, h7⟩ := h9 k _ HLV.out
                        simp only [Value.slice.injEq] at e9
                        have h6 := e9.1.trans h8
                        simp only [Option.some.injEq, Addr.mk.injEq, and_true] at h6
                        rw [h6]
                        exact h7
                      have HXL : Hid ((X k).length = RN.length * (recM k).length) := by
                        have h9 := (HQ.out.gb.fam k _ hlv).1
                        unfold xa at h9
                        rw [if_neg (by omega)] at h9
                        exact h9
                      have HQ1 : Hid (St2 W w1 w4 53 9 28 24 1 12 2 RN.length (.slice (some ⟨gW, 0, none⟩) 6 cW) L (.slice (some ⟨gA, 0, none⟩) 3 cA) LA (xw 6) (fun j => if j = k then fil (recM k) (X k) 0 else xa (N := RN.length) X k j) wr) := by
                        have e9 : (fun j => if j = k then fil (recM k) (X k) 0 else xa (N := RN.length) X k j) = xa (N := RN.length) X k := by
                          funext j
                          by_cases hjk : j = k
                          · rw [if_pos hjk, fil_zero, hjk]
                            unfold xa
                            rw [if_neg (by omega)]
                          · rw [if_neg hjk]
                        show St2 W w1 w4 53 9 28 24 1 12 2 RN.length (.slice (some ⟨gW, 0, none⟩) 6 cW) L (.slice (some ⟨gA, 0, none⟩) 3 cA) LA _ _ _
                        rw [e9]
                        exact HQ.out
                      clear HQ hlv
                      have d6 : ((k : Int) < 3) = True := eq_true (by omega)
                      have q0 := HCW.out _ _ HQ1.out
                      go_wp2
                      go_loopw [22] (fun i wq => ∃ q : Nat, q ≤ RN.length ∧ i = .int .i64 (q : Int) ∧ St2 W w1 w4 53 9 28 24 1 12 2 RN.length (.slice (some ⟨gW, 0, none⟩) 6 cW) L (.slice (some ⟨gA, 0, none⟩) 3 cA) LA (xw 6) (fun j => if j = k then fil (recM k) (X k) q else xa (N := RN.length) X k j) wq) (fun i _ => RN.length - (intOf i).toNat)
                      case atStart => exact ⟨0, Nat.zero_le _, rfl, HQ1.out⟩
                      case round =>
                        obtain ⟨q, hq, rfl, hst⟩ := hrel
                        clear HQ1 q0
                        have q0 := HCW.out _ _ hst
                        by_cases hl2 : q < RN.length
                        · have h1 := hst.gb.fam k _ HLV.out
                          simp only [if_true] at h1
                          obtain ⟨gk, e9, ht, hr, hgr, -⟩ := fill_step (cs := recM k) (show 0 < (recM k).length from Nat.succ_pos _) HXL.out h1 hl2
                          subst e9
                          have hm12 : q * (recM k).length = q * 12 := rfl
                          rw [hm12] at ht hr hgr
                          have HT : Hid (wr.there gk (q * 12) 12) := ht
                          have HNX : Hid (St2 W w1 w4 53 9 28 24 1 12 2 RN.length (.slice (some ⟨gW, 0, none⟩) 6 cW) L (.slice (some ⟨gA, 0, none⟩) 3 cA) LA (xw 6) (fun j => if j = k then fil (recM k) (X k) (q + 1) else xa (N := RN.length) X k j) (wr.setCells gk (q * 12) (recM k))) := by
                            have h2 := hst.putb k _ HLV.out hgr _ hr
                            have e8 : (fun j => if j = k then fil (recM k) (X k) (q + 1) else (fun j => if j = k then fil (recM k) (X k) q else xa (N := RN.length) X k j) j) = (fun j => if j = k then fil (recM k) (X k) (q + 1) else xa (N := RN.length) X k j) := by
                              funext j
                              by_cases hjk : j = k
                              · rw [if_pos hjk, if_pos hjk]
                              · rw [if_neg hjk, if_neg hjk]
                                simp only [if_neg hjk]
                            rw [e8] at h2
                            exact h2
                          clear hst h1 ht hr hgr hm12
                          go_wp2_with (refine wpList_store_mid rfl 24 (.tmp 165) (.tmp 164) rfl gk (q * 12) #[.int .i64 (-7 - (k : Int)), .int .i64 0, .int .i64 0, .int .i64 0, .int .i64 0, .int .i64 0, .int .i64 0, .int .i64 0, .int .i64 0, .int .i64 0, .string ⟨#[]⟩, .slice none 0 0] ?_ ?_ ?_ ?_ ?_ ?_)
                          case refine_1 => rfl
                          case refine_2 => rfl
                          case refine_3 => exact HT.out
                          case refine_4 => exact HRZ.out
                          case refine_5 =>
                            refine all_oneCell_toArray (cs := recM k) fun u hu => ?_
                            simp only [recM, List.mem_cons, List.not_mem_nil, or_false] at hu
                            rcases hu with rfl | rfl | rfl | rfl | rfl | rfl | rfl | rfl | rfl | rfl | rfl | rfl <;> rfl
                          have HN2 : Hid (St2 W w1 w4 53 9 28 24 1 12 2 RN.length (.slice (some ⟨gW, 0, none⟩) 6 cW) L (.slice (some ⟨gA, 0, none⟩) 3 cA) LA (xw 6) (fun j => if j = k then fil (recM k) (X k) (q + 1) else xa (N := RN.length) X k j) (wr.setCells gk (q * 12) (#[.int .i64 (-7 - (k : Int)), .int .i64 0, .int .i64 0, .int .i64 0, .int .i64 0, .int .i64 0, .int .i64 0, .int .i64 0, .int .i64 0, .int .i64 0, .string ⟨#[]⟩, .slice none 0 0] : Array Value).toList)) := HNX.out
                          generalize wr.setCells gk (q * 12) (#[.int .i64 (-7 - (k : Int)), .int .i64 0, .int .i64 0, .int .i64 0, .int .i64 0, .int .i64 0, .int .i64 0, .int .i64 0, .int .i64 0, .int .i64 0, .string ⟨#[]⟩, .slice none 0 0] : Array Value).toList = wN at HN2 ⊢
                          clear HNX HT q0
                          go_wp2
                          go_roundw
                          case rel => exact ⟨q + 1, by omega, by go_num, HN2.out⟩
                          case measure => simp [intOf]; omega
                        · obtain rfl : q = RN.length := by omega
                          have HNX : Hid (St2 W w1 w4 53 9 28 24 1 12 2 RN.length (.slice (some ⟨gW, 0, none⟩) 6 cW) L (.slice (some ⟨gA, 0, none⟩) 3 cA) LA (xw 6) (xa (N := RN.length) X (k + 1)) wr) := by
                            have e8 : (fun j => if j = k then fil (recM k) (X k) RN.length else xa (N := RN.length) X k j) = xa (N := RN.length) X (k + 1) := by
                              funext j
                              by_cases hjk : j = k
                              · rw [if_pos hjk, fil_end _ _ RN.length HXL.out, hjk]
                                unfold xa
                                rw [if_pos (by omega)]
                              · rw [if_neg hjk]
                                unfold xa
                                by_cases h9 : j < k
                                · rw [if_pos h9, if_pos (by omega)]
                                · rw [if_neg h9, if_neg (by omega)]
                            show St2 W w1 w4 53 9 28 24 1 12 2 RN.length (.slice (some ⟨gW, 0, none⟩) 6 cW) L (.slice (some ⟨gA, 0, none⟩) 3 cA) LA _ _ _
                            rw [← e8]
                            exact hst
                          clear hst hl2 hq HCW HXL HLV
                          go_wp2
                          go_roundw
                          case rel => exact ⟨k + 1, by omega, by go_num, HNX.out⟩
                          case measure => simp [intOf]; omega
                    · obtain rfl : k = 3 := by omega
                      clear hlt hk
                      rw [show ((3 : Nat) : Int) = 3 from rfl]
                      obtain ⟨hR0, hA0, hB0⟩ := HQ.out.start wcs recM (fun _ => rfl) (fun _ => rfl) (fun j hj => by
                        rw [HLN.out.1] at hj
                        unfold xw
                        rw [if_pos hj]
                        rfl) (fun j hj => by
                        rw [HLN.out.2] at hj
                        unfold xa
                        rw [if_pos hj]) 20 20
                      have HOA : Hid (∀ v ∈ L, ∀ g, v.ownBlock = some g → g < w1.heap.size ∨ w4.heap.size ≤ g) := fun v hv g hg => .inl (HQ.out.old v hv g hg)
                      have HOB : Hid (∀ v ∈ LA, ∀ g, v.ownBlock = some g → g < w1.heap.size ∨ w4.heap.size ≤ g) := fun v hv g hg => .inr (HQ.out.young v hv g hg)
                      generalize wr.heap.size = H0 at hR0 hA0 hB0
                      have HS0 : Hid (Q8 W w1 w4 H0 (.slice (some ⟨gW, 0, none⟩) 6 cW) L (.slice (some ⟨gA, 0, none⟩) 3 cA) LA recM RN.length (.slice none 0 0) [] (.slice none 0 0) [] wr) := ⟨hR0, hA0, hB0⟩
                      clear hR0 hA0 hB0 HQ
                      go_wp2
                      go_loopw [23, 24] (fun vg i wq => ∃ (k : Nat) (Ga : List Value), k ≤ 6 ∧ i = .int .i64 (k : Int) ∧ Ga.length = k ∧ Q8 W w1 w4 H0 (.slice (some ⟨gW, 0, none⟩) 6 cW) L (.slice (some ⟨gA, 0, none⟩) 3 cA) LA recM RN.length vg Ga (.slice none 0 0) [] wq) (fun _ i _ => 6 - (intOf i).toNat)
                      case atStart => exact ⟨0, [], Nat.zero_le _, rfl, rfl, HS0.out⟩
                      case round =>
                        obtain ⟨k, Ga, hk, rfl, hGk, hq8⟩ := hrel
                        clear HS0
                        have HQ8 : Hid (Q8 W w1 w4 H0 (.slice (some ⟨gW, 0, none⟩) 6 cW) L (.slice (some ⟨gA, 0, none⟩) 3 cA) LA recM RN.length u23 Ga (.slice none 0 0) [] wr) := hq8
                        have HGK : Hid (Ga.length = k) := hGk
                        clear hq8 hGk
                        by_cases hlt : k < 6
                        · obtain ⟨lv, hlv⟩ : ∃ lv, L[k]? = some lv := ⟨L[k]'(by rw [HLN.out.1]; exact hlt), List.getElem?_eq_getElem _⟩
                          obtain ⟨gk, ck, elv, hc1, hc2, -⟩ := mk_word (HQ8.out.2.1.l k lv hlv) (show 0 < 2 by decide)
                          subst elv
                          have HU0 : Hid (Q9 W w1 w4 H0 wr.heap.size (.slice (some ⟨gW, 0, none⟩) 6 cW) L (.slice (some ⟨gA, 0, none⟩) 3 cA) LA recM RN.length u23 Ga (.slice none 0 0) [] k (.slice (some ⟨gk, 0, none⟩) 2 ck) (.slice (some ⟨gk, 0, none⟩) 2 ck) 0 wr) := by
                            have h9 := HQ8.out.opena (.slice (some ⟨gk, 0, none⟩) 2 ck) (by rw [HGK.out]; exact hlv)
                            rw [HGK.out] at h9
                            exact h9
                          have HWD : Hid (∀ w', Calls Tryd.prog 29 #[.int .i64 (k : Int)] w' fun e w'' => e = .returned (.string (wrd k)) ∧ Below w'.heap.size w' w'') := fun w' => word_any k w' hlt
                          have q0 : wr.cell? ⟨gW, k, none⟩ = some (.slice (some ⟨gk, 0, none⟩) 2 ck) := own_at HQ8.out.1.ra hlv
                          generalize wr.heap.size = H1 at HU0
                          clear HQ8 hlv
                          unfold maxLen at hc2
                          have d6 : ((k : Int) < 6) = True := eq_true (by omega)
                          go_wp2
                          go_loopw [25, 26] (fun c i wq => ∃ q : Nat, q ≤ 20 ∧ i = .int .i64 (q : Int) ∧ Q9 W w1 w4 H0 H1 (.slice (some ⟨gW, 0, none⟩) 6 cW) L (.slice (some ⟨gA, 0, none⟩) 3 cA) LA recM RN.length u23 Ga (.slice none 0 0) [] k (.slice (some ⟨gk, 0, none⟩) 2 ck) c q wq) (fun _ i _ => 20 - (intOf i).toNat)
                          case atStart => exact ⟨0, Nat.zero_le _, rfl, HU0.out⟩
                          case round =>
                            obtain ⟨q, hq, rfl, hst⟩ := hrel
                            clear HU0 q0
                            have HQ9 : Hid (Q9 W w1 w4 H0 H1 (.slice (some ⟨gW, 0, none⟩) 6 cW) L (.slice (some ⟨gA, 0, none⟩) 3 cA) LA recM RN.length u23 Ga (.slice none 0 0) [] k (.slice (some ⟨gk, 0, none⟩) 2 ck) u25 q wr) := hst
                            clear hst
                            by_cases hl2 : q < 20
                            · obtain ⟨gc, cc, e9, hd1, hd2, -⟩ := mk_word HQ9.out.2.1.cur (show 0 < 2 + q by omega)
                              subst e9
                              unfold maxLen at hd2
                              go_wp2_with fail
                              refine (HWD.out _).mono ?_
                              rintro e w5 ⟨rfl, b5⟩
                              have HN : Hid (∀ o, Q9 W w1 w4 H0 H1 (.slice (some ⟨gW, 0, none⟩) 6 cW) L (.slice (some ⟨gA, 0, none⟩) 3 cA) LA recM RN.length u23 Ga (.slice none 0 0) [] k (.slice (some ⟨gk, 0, none⟩) 2 ck) (.slice (some ⟨gc, 0, none⟩) (2 + q) cc) q (w5.alloc o)) := fun o => HQ9.out.kept (andThen b5 (up0 _ _))
                              clear b5 HQ9
                              go_wp2_with (at_builtin; refine wpList_append_mk _ rfl (.tmp 178) (.tmp 181) 9 53 rfl W.heap.size (wcs k) (.string ⟨#[]⟩) 16 Nat.one_pos (fun u hu => by simp only [wcs, List.mem_singleton] at hu; subst hu; rfl) infoTST rfl Tryd.underlying53 _ (2 + q) 1 rfl (HN.out _).2.1.cur w5.heap.size 1 rfl ?hx (by omega) (by omega) (by have := (HN.out (.cells #[.string (wrd k)] 9)).1.sz; omega) ?_)
                              case hx =>
                                intro j u hj
                                rw [World.cell?_alloc_new]
                                have e8 : pat (wcs k) 1 = [.string (wrd k)] := rfl
                                rw [e8] at hj
                                show ([Value.string (wrd k)].toArray)[j]? = some u
                                rw [List.getElem?_toArray]
                                exact hj
                              intro c6 w6 hm6 hg6 ha6 hk6
                              have HNX : Hid (Q9 W w1 w4 H0 H1 (.slice (some ⟨gW, 0, none⟩) 6 cW) L (.slice (some ⟨gA, 0, none⟩) 3 cA) LA recM RN.length u23 Ga (.slice none 0 0) [] k (.slice (some ⟨gk, 0, none⟩) 2 ck) c6 (q + 1) w6) := (HN.out _).more HOA.out (by rw [HGK.out, HLN.out.1]; omega) hg6 hm6 (by rw [heap_one]; exact ha6) hk6
                              clear HN hm6 hg6 ha6 hk6
                              go_wp2
                              go_roundw
                              case rel => exact ⟨q + 1, by omega, by go_num, HNX.out⟩
                              case measure => simp [intOf]; omega
                            · obtain rfl : q = 20 := by omega
                              obtain ⟨gc, cc, e9, hd1, hd2, -⟩ := mk_word HQ9.out.2.1.cur (show 0 < 2 + 20 by omega)
                              rw [show 2 + 20 = 22 from rfl] at e9
                              subst e9
                              have HN : Hid (∀ o, Q9 W w1 w4 H0 H1 (.slice (some ⟨gW, 0, none⟩) 6 cW) L (.slice (some ⟨gA, 0, none⟩) 3 cA) LA recM RN.length u23 Ga (.slice none 0 0) [] k (.slice (some ⟨gk, 0, none⟩) 2 ck) (.slice (some ⟨gc, 0, none⟩) 22 cc) 20 (wr.alloc o) ∧ (wr.alloc o).ownsRow H0 53 1 u23 k Ga) := fun o => by
                                have h9 := HQ9.out.kept (up0 _ o)
                                have h8 := h9.1.rg
                                rw [HGK.out] at h8
                                exact ⟨h9, h8⟩
                              clear HQ9 hl2 hq HWD hd1 hd2
                              rw [show ((20 : Nat) : Int) = 20 from rfl]
                              go_wp2_with (at_builtin; refine wpList_append_row _ rfl (.tmp 183) (.tmp 185) 53 55 rfl H0 (.slice none 0 0) 24 infoTSS rfl (by decide) Tryd.underlying55 _ k Ga rfl (HN.out _).2 _ _ rfl (World.cell?_alloc_new wr _ _ 0) rfl (by omega) (by have := (HN.out (.cells #[.slice (some ⟨gc, 0, none⟩) 22 cc] 53)).1.1.sz; omega) ?_)
                              intro v6 w6 hr6 hg6
                              have HNX : Hid (Q8 W w1 w4 H0 (.slice (some ⟨gW, 0, none⟩) 6 cW) L (.slice (some ⟨gA, 0, none⟩) 3 cA) LA recM RN.length v6 (Ga ++ [.slice (some ⟨gc, 0, none⟩) 22 cc]) (.slice none 0 0) [] w6) := (HN.out _).1.shut hg6 (by rw [HGK.out]; exact hr6)
                              have HG2 : Hid ((Ga ++ [Value.slice (some ⟨gc, 0, none⟩) 22 cc]).length = k + 1) := by show _ = _; rw [List.length_append, HGK.out]; rfl
                              clear hr6 hg6 HN HGK
                              go_wp2
                              go_roundw
                              case rel => exact ⟨k + 1, _, by omega, by go_num, HG2.out, HNX.out⟩
                              case measure => simp [intOf]; omega
                        · obtain rfl : k = 6 := by omega
                          clear hlt hk HOA
                          rw [show ((6 : Nat) : Int) = 6 from rfl]
                          have HRI : Hid ((Tryd.prog.info? 24).map (fun i => (i.zero, i.size, i.bytes)) = some (some (.agg #[.int .i64 0, .int .i64 0, .int .i64 0, .int .i64 0, .int .i64 0, .int .i64 0, .int .i64 0, .int .i64 0, .int .i64 0, .int .i64 0, .string ⟨#[]⟩, .slice none 0 0]), 12, 120)) := by show _ = _; kernel_rfl
                          go_wp2
                          go_loopw [27, 28] (fun vh i wq => ∃ (k : Nat) (Gb : List Value), k ≤ 3 ∧ i = .int .i64 (k : Int) ∧ Gb.length = k ∧ Q8 W w1 w4 H0 (.slice (some ⟨gW, 0, none⟩) 6 cW) L (.slice (some ⟨gA, 0, none⟩) 3 cA) LA recM RN.length u23 Ga vh Gb wq) (fun _ i _ => 3 - (intOf i).toNat)
                          case atStart => exact ⟨0, [], Nat.zero_le _, rfl, rfl, HQ8.out⟩
                          case round =>
                            obtain ⟨k, Gb, hk, rfl, hGk, hq8⟩ := hrel
                            clear HQ8
                            have HQ8 : Hid (Q8 W w1 w4 H0 (.slice (some ⟨gW, 0, none⟩) 6 cW) L (.slice (some ⟨gA, 0, none⟩) 3 cA) LA recM RN.length u23 Ga u27 Gb wr) := hq8
                            have HBK : Hid (Gb.length = k) := hGk
                            clear hq8 hGk
                            by_cases hlt : k < 3
                            · obtain ⟨lv, hlv⟩ : ∃ lv, LA[k]? = some lv := ⟨LA[k]'(by rw [HLN.out.2]; exact hlt), List.getElem?_eq_getElem _⟩
                              obtain ⟨ak, ck, elv, hc1, hc2⟩ := row_shape (HQ8.out.2.2.l k lv hlv)
                              subst elv
                              have HU0 : Hid (Q11 W w1 w4 H0 wr.heap.size (.slice (some ⟨gW, 0, none⟩) 6 cW) L (.slice (some ⟨gA, 0, none⟩) 3 cA) LA recM RN.length u23 Ga u27 Gb k (.slice ak RN.length ck) (.slice ak RN.length ck) 0 wr) := by
                                have h9 := HQ8.out.openb (.slice ak RN.length ck) (by rw [HBK.out]; exact hlv)
                                rw [HBK.out] at h9
                                exact h9
                              have q0 : wr.cell? ⟨gA, k, none⟩ = some (.slice ak RN.length ck) := own_at HQ8.out.1.rb hlv
                              generalize wr.heap.size = H1 at HU0
                              clear HQ8 hlv
                              unfold maxLen at hc2
                              have d6 : ((k : Int) < 3) = True := eq_true (by omega)
                              go_wp2
                              go_loopw [29, 30] (fun c i wq => ∃ q : Nat, q ≤ 20 ∧ i = .int .i64 (q : Int) ∧ Q11 W w1 w4 H0 H1 (.slice (some ⟨gW, 0, none⟩) 6 cW) L (.slice (some ⟨gA, 0, none⟩) 3 cA) LA recM RN.length u23 Ga u27 Gb k (.slice ak RN.length ck) c q wq) (fun _ i _ => 20 - (intOf i).toNat)
                              case atStart => exact ⟨0, Nat.zero_le _, rfl, HU0.out⟩
                              case round =>
                                obtain ⟨q, hq, rfl, hst⟩ := hrel
                                clear HU0 q0
                                have HQ9 : Hid (Q11 W w1 w4 H0 H1 (.slice (some ⟨gW, 0, none⟩) 6 cW) L (.slice (some ⟨gA, 0, none⟩) 3 cA) LA recM RN.length u23 Ga u27 Gb k (.slice ak RN.length ck) u29 q wr) := hst
                                obtain ⟨gc, cc, e9, hd1, hd2⟩ := row_shape hst.2.1.cur
                                subst e9
                                unfold maxLen at hd2
                                clear hst
                                by_cases hl2 : q < 20
                                · have HN : Hid (∀ o, Q11 W w1 w4 H0 H1 (.slice (some ⟨gW, 0, none⟩) 6 cW) L (.slice (some ⟨gA, 0, none⟩) 3 cA) LA recM RN.length u23 Ga u27 Gb k (.slice ak RN.length ck) (.slice gc (RN.length + q) cc) q (wr.alloc o)) := fun o => HQ9.out.kept (up0 _ _)
                                  clear HQ9
                                  go_wp2_with (at_builtin; refine wpList_append_mk _ rfl (.tmp 199) (.tmp 203) 24 28 rfl W.heap.size (recM k) _ 120 (show 0 < (recM k).length from Nat.succ_pos _) ?hone HRI.out rfl Tryd.underlying28 _ (RN.length + q) 1 rfl (HN.out _).2.1.cur wr.heap.size 1 rfl ?hx (by omega) (by omega) ?hsz ?_)
                                  case hone =>
                                    intro u hu
                                    simp only [recM, List.mem_cons, List.not_mem_nil, or_false] at hu
                                    rcases hu with rfl | rfl | rfl | rfl | rfl | rfl | rfl | rfl | rfl | rfl | rfl | rfl <;> rfl
                                  case hx =>
                                    intro j u hj
                                    rw [World.cell?_alloc_new]
                                    have e8 : pat (recM k) 1 = recM k := rfl
                                    rw [e8] at hj
                                    show ((recM k).toArray)[j]? = some u
                                    rw [List.getElem?_toArray]
                                    exact hj
                                  case hsz =>
                                    have := (HN.out (.cells #[] 24)).1.sz
                                    rw [heap_one] at this ⊢
                                    omega
                                  intro c6 w6 hm6 hg6 ha6 hk6
                                  have HNX : Hid (Q11 W w1 w4 H0 H1 (.slice (some ⟨gW, 0, none⟩) 6 cW) L (.slice (some ⟨gA, 0, none⟩) 3 cA) LA recM RN.length u23 Ga u27 Gb k (.slice ak RN.length ck) c6 (q + 1) w6) := (HN.out _).more HOB.out (by rw [HBK.out, HLN.out.2]; omega) hg6 hm6 (by rw [heap_one]; exact ha6) hk6
                                  clear HN hm6 hg6 ha6 hk6
                                  go_wp2
                                  go_roundw
                                  case rel => exact ⟨q + 1, by omega, by go_num, HNX.out⟩
                                  case measure => simp [intOf]; omega
                                · obtain rfl : q = 20 := by omega
                                  have HN : Hid (∀ o, Q11 W w1 w4 H0 H1 (.slice (some ⟨gW, 0, none⟩) 6 cW) L (.slice (some ⟨gA, 0, none⟩) 3 cA) LA recM RN.length u23 Ga u27 Gb k (.slice ak RN.length ck) (.slice gc (RN.length + 20) cc) 20 (wr.alloc o) ∧ (wr.alloc o).ownsRow H0 28 1 u27 k Gb) := fun o => by
                                    have h9 := HQ9.out.kept (up0 _ o)
                                    have h8 := h9.1.rh
                                    rw [HBK.out] at h8
                                    exact ⟨h9, h8⟩
                                  clear HQ9 hl2 hq hd1 hd2
                                  rw [show ((20 : Nat) : Int) = 20 from rfl]
                                  go_wp2_with (at_builtin; refine wpList_append_row _ rfl (.tmp 205) (.tmp 207) 28 59 rfl H0 (.slice none 0 0) 24 infoTRS rfl (by decide) Tryd.underlying59 _ k Gb rfl (HN.out _).2 _ _ rfl (World.cell?_alloc_new wr _ _ 0) rfl (by omega) (by have := (HN.out (.cells #[.slice gc (RN.length + 20) cc] 28)).1.1.sz; omega) ?_)
                                  intro v6 w6 hr6 hg6
                                  have HNX : Hid (Q8 W w1 w4 H0 (.slice (some ⟨gW, 0, none⟩) 6 cW) L (.slice (some ⟨gA, 0, none⟩) 3 cA) LA recM RN.length u23 Ga v6 (Gb ++ [.slice gc (RN.length + 20) cc]) w6) := (HN.out _).1.shut hg6 (by rw [HBK.out]; exact hr6)
                                  have HG2 : Hid ((Gb ++ [Value.slice gc (RN.length + 20) cc]).length = k + 1) := by show _ = _; rw [List.length_append, HBK.out]; rfl
                                  clear hr6 hg6 HN HBK
                                  go_wp2
                                  go_roundw
                                  case rel => exact ⟨k + 1, _, by omega, by go_num, HG2.out, HNX.out⟩
                                  case measure => simp [intOf]; omega
                            · obtain rfl : k = 3 := by omega
                              clear hlt hk HOB HRI
                              rw [show ((3 : Nat) : Int) = 3 from rfl]
                              have HLS : Hid (∀ w', Below W.heap.size W w' → Calls Tryd.prog 30 #[.int .i64 to, .slice ao rs.length cap] w' fun e w'' => ∃ (o1 o2 vl : Value) (ps : List (Rec × Value)) (i z : Int), e = .returned (.tuple #[o1, o2, vl]) ∧ StrsAt w'' o1 upN ∧ StrsAt w'' o2 downN ∧ Rws w'.heap.size w'' vl ps ∧ UaAns to rs (ps.map Prod.fst) i z ∧ Below w'.heap.size w' w'') := fun w' hb => lists_any to _ rs w' (HST.out _ hb).2.2.2.2.2 HGD.out (HST.out _ hb).2.2.2.2.1
                              go_wp2_with fail
                              refine (HLS.out _ HQ8.out.1.bel).mono ?_
                              rintro e w9 ⟨o1, o2, vl, ps, i9, z9, rfl, s1, s2, hr9, hu9, b9⟩
                              have hpm : ps.map Prod.fst = RN := (uaAns_one hu9 HUN.out).1
                              have HALL : Hid (∀ w', Below w9.heap.size w9 w' → StrsAt w' o1 upN ∧ StrsAt w' o2 downN ∧ StrsAt w' vU upN ∧ StrsAt w' vD downN ∧ RecsAt w' vl RN ∧ RecsAt w' (.slice aN RN.length cN) RN ∧ Q8 W w1 w4 H0 (.slice (some ⟨gW, 0, none⟩) 6 cW) L (.slice (some ⟨gA, 0, none⟩) 3 cA) LA recM RN.length u23 Ga u27 Gb w') := fun w' hb => by
                                have h9 := HQ8.out.kept (andThen b9 hb)
                                have h8 := HST.out _ h9.1.bel
                                have h7 := (hr9.kept hb).recs.recsAt
                                rw [hpm] at h7
                                exact ⟨s1.kept hb, s2.kept hb, h8.1, h8.2.1, h7, HWT.out w' h9.1.keep, h9⟩
                              have HS1 : Hid (∀ w', Below w9.heap.size w9 w' → Calls Tryd.prog 28 #[o1, vU] w' fun e w'' => e = .returned (.bool true) ∧ Below w'.heap.size w' w'') := fun w' hb => sameWords_ok _ _ upN w' (HALL.out _ hb).1 (HALL.out _ hb).2.2.1
                              have HS2 : Hid (∀ w', Below w9.heap.size w9 w' → Calls Tryd.prog 28 #[o2, vD] w' fun e w'' => e = .returned (.bool true) ∧ Below w'.heap.size w' w'') := fun w' hb => sameWords_ok _ _ downN w' (HALL.out _ hb).2.1 (HALL.out _ hb).2.2.2.1
                              have HS3 : Hid (∀ w', Below w9.heap.size w9 w' → Calls Tryd.prog 20 #[vl, .slice aN RN.length cN] w' fun e w'' => e = .returned (.bool true) ∧ Below w'.heap.size w' w'') := fun w' hb => sameAll3_ok _ _ RN w' (HALL.out _ hb).2.2.2.2.1 (HALL.out _ hb).2.2.2.2.2.1
                              clear hpm s1 s2 hr9 hu9 b9 HQ8 HLS
                              go_wp2_with fail
                              refine (HS1.out _ (Below.refl _ _)).mono ?_
                              rintro e wa ⟨rfl, ba⟩
                              have HBA : Hid (Below w9.heap.size w9 wa) := ba
                              clear ba HS1
                              go_wp2_with fail
                              refine (HS2.out _ HBA.out).mono ?_
                              rintro e wb ⟨rfl, bb⟩
                              have HBB : Hid (Below w9.heap.size w9 wb) := andThen HBA.out bb
                              clear bb HS2 HBA
                              go_wp2_with fail
                              refine (HS3.out _ HBB.out).mono ?_
                              rintro e wc ⟨rfl, bc⟩
                              have HQ : Hid (Q8 W w1 w4 H0 (.slice (some ⟨gW, 0, none⟩) 6 cW) L (.slice (some ⟨gA, 0, none⟩) 3 cA) LA recM RN.length u23 Ga u27 Gb wc) := (HALL.out _ (andThen HBB.out bc)).2.2.2.2.2.2
                              clear bc HS3 HBB HALL
                              obtain ⟨gG, cG, eG, hG1, hG2⟩ := row_head HQ.out.1.rg (by rw [HGK.out]; decide)
                              rw [HGK.out] at eG hG1
                              subst eG
                              unfold maxLen at hG2
                              obtain ⟨gH, cH, eH, hJ1, hJ2⟩ := row_head HQ.out.1.rh (by rw [HBK.out]; decide)
                              rw [HBK.out] at eH hJ1
                              subst eH
                              unfold maxLen at hJ2
                              go_wp2
                              go_loopw [34] (fun i wq => ∃ k : Nat, k ≤ 6 ∧ i = .int .i64 (k : Int) ∧ Q8 W w1 w4 H0 (.slice (some ⟨gW, 0, none⟩) 6 cW) L (.slice (some ⟨gA, 0, none⟩) 3 cA) LA recM RN.length (.slice (some ⟨gG, 0, none⟩) 6 cG) Ga (.slice (some ⟨gH, 0, none⟩) 3 cH) Gb wq) (fun i _ => 6 - (intOf i).toNat)
                              case atStart => exact ⟨0, Nat.zero_le _, rfl, HQ.out⟩
                              case round =>
                                obtain ⟨k, hk, rfl, hq8⟩ := hrel
                                clear HQ
                                have HQ : Hid (Q8 W w1 w4 H0 (.slice (some ⟨gW, 0, none⟩) 6 cW) L (.slice (some ⟨gA, 0, none⟩) 3 cA) LA recM RN.length (.slice (some ⟨gG, 0, none⟩) 6 cG) Ga (.slice (some ⟨gH, 0, none⟩) 3 cH) Gb wr) := hq8
                                clear hq8
                                by_cases hlt : k < 6
                                · obtain ⟨lv, hlv⟩ : ∃ lv, L[k]? = some lv := ⟨L[k]'(by rw [HLN.out.1]; exact hlt), List.getElem?_eq_getElem _⟩
                                  obtain ⟨gv, hgv⟩ : ∃ gv, Ga[k]? = some gv := ⟨Ga[k]'(by rw [HGK.out]; exact hlt), List.getElem?_eq_getElem _⟩
                                  obtain ⟨gk, ck, e9, hc1, hc2, -⟩ := mk_word (HQ.out.2.1.l k lv hlv) (show 0 < 2 by decide)
                                  subst e9
                                  obtain ⟨gg, cg, e9, hd1, hd2, -⟩ := mk_word (HQ.out.2.1.g k gv hgv) (show 0 < 2 + 20 by decide)
                                  rw [show 2 + 20 = 22 from rfl] at e9 hd1
                                  subst e9
                                  unfold maxLen at hc2 hd2
                                  have HC : Hid (∀ w', Q8 W w1 w4 H0 (.slice (some ⟨gW, 0, none⟩) 6 cW) L (.slice (some ⟨gA, 0, none⟩) 3 cA) LA recM RN.length (.slice (some ⟨gG, 0, none⟩) 6 cG) Ga (.slice (some ⟨gH, 0, none⟩) 3 cH) Gb w' → w'.cell? ⟨gG, k, none⟩ = some (.slice (some ⟨gg, 0, none⟩) 22 cg) ∧ w'.cell? ⟨gW, k, none⟩ = some (.slice (some ⟨gk, 0, none⟩) 2 ck) ∧ (∀ q, q < 22 → w'.cell? ⟨gg, q, none⟩ = some (.string (wrd k))) ∧ ∀ q, q < 2 → w'.cell? ⟨gk, q, none⟩ = some (.string (wrd k))) := fun w' h => by
                                    refine ⟨own_at h.1.rg hgv, own_at h.1.ra hlv, fun q hq => ?_, fun q hq => ?_⟩
                                    · obtain ⟨g9, c9, e9, -, -, h9⟩ := mk_word (h.2.1.g k _ hgv) (show q < 2 + 20 from hq)
                                      simp only [Value.slice.injEq, Option.some.injEq, Addr.mk.injEq, and_true] at e9
                                      rw [e9.1]
                                      exact h9
                                    · obtain ⟨g9, c9, e9, -, -, h9⟩ := mk_word (h.2.1.l k _ hlv) hq
                                      simp only [Value.slice.injEq, Option.some.injEq, Addr.mk.injEq, and_true, true_and] at e9
                                      rw [e9.1]
                                      exact h9
                                  have HWD : Hid (∀ w', Calls Tryd.prog 29 #[.int .i64 (k : Int)] w' fun e w'' => e = .returned (.string (wrd k)) ∧ Below w'.heap.size w' w'') := fun w' => word_any k w' hlt
                                  clear hlv hgv
                                  have d6 : ((k : Int) < 6) = True := eq_true (by omega)
                                  have q0 := (HC.out _ HQ.out).1
                                  go_wp2
                                  go_loopw [35] (fun i wq => ∃ q : Nat, q ≤ 22 ∧ i = .int .i64 (q : Int) ∧ Q8 W w1 w4 H0 (.slice (some ⟨gW, 0, none⟩) 6 cW) L (.slice (some ⟨gA, 0, none⟩) 3 cA) LA recM RN.length (.slice (some ⟨gG, 0, none⟩) 6 cG) Ga (.slice (some ⟨gH, 0, none⟩) 3 cH) Gb wq) (fun i _ => 22 - (intOf i).toNat)
                                  case atStart => exact ⟨0, Nat.zero_le _, rfl, HQ.out⟩
                                  case round =>
                                    obtain ⟨q, hq, rfl, hst⟩ := hrel
                                    clear HQ q0
                                    have HQ : Hid (Q8 W w1 w4 H0 (.slice (some ⟨gW, 0, none⟩) 6 cW) L (.slice (some ⟨gA, 0, none⟩) 3 cA) LA recM RN.length (.slice (some ⟨gG, 0, none⟩) 6 cG) Ga (.slice (some ⟨gH, 0, none⟩) 3 cH) Gb wr) := hst
                                    clear hst
                                    have q0 := (HC.out _ HQ.out).1
                                    by_cases hl2 : q < 22
                                    · have HD : Hid (∀ w', Below wr.heap.size wr w' → w'.cell? ⟨gG, k, none⟩ = some (.slice (some ⟨gg, 0, none⟩) 22 cg) ∧ w'.cell? ⟨gg, q, none⟩ = some (.string (wrd k)) ∧ w'.cell? ⟨gW, k, none⟩ = some (.slice (some ⟨gk, 0, none⟩) 2 ck)) := fun w' hb => ⟨(HC.out _ (HQ.out.kept hb)).1, (HC.out _ (HQ.out.kept hb)).2.2.1 q hl2, (HC.out _ (HQ.out.kept hb)).2.1⟩
                                      have HD2 : Hid (q < 2 → ∀ w', Below wr.heap.size wr w' → w'.cell? ⟨gk, q, none⟩ = some (.string (wrd k))) := fun h2 w' hb => (HC.out _ (HQ.out.kept hb)).2.2.2 q h2
                                      have HKQ : Hid (∀ w', Below wr.heap.size wr w' → Q8 W w1 w4 H0 (.slice (some ⟨gW, 0, none⟩) 6 cW) L (.slice (some ⟨gA, 0, none⟩) 3 cA) LA recM RN.length (.slice (some ⟨gG, 0, none⟩) 6 cG) Ga (.slice (some ⟨gH, 0, none⟩) 3 cH) Gb w') := fun w' hb => HQ.out.kept hb
                                      have ds : ((wrd k).toList != (wrd k).toList) = false := by simp
                                      clear HQ
                                      go_upto_region 64 with fail
                                      clear q0
                                      have HB0 : Hid (Below wr.heap.size wr wr.drew) := Below.drew (Below.refl _ _)
                                      by_cases h2 : q < 2
                                      · have hd1 : ((q : Int) < 2) = True := eq_true (by omega)
                                        have HD3 : Hid _ := HD2.out h2
                                        refine wp_region_held_drew (S := fun w' : World => w'.cell? ⟨gG, k, none⟩ = some (.slice (some ⟨gg, 0, none⟩) 22 cg) ∧ w'.cell? ⟨gg, q, none⟩ = some (.string (wrd k)) ∧ w'.cell? ⟨gW, k, none⟩ = some (.slice (some ⟨gk, 0, none⟩) 2 ck) ∧ w'.cell? ⟨gk, q, none⟩ = some (.string (wrd k))) (by kernel_rfl) ?_ (fun hH => ?_)
                                        · exact ⟨(HD.out _ HB0.out).1, (HD.out _ HB0.out).2.1, (HD.out _ HB0.out).2.2, HD3.out _ HB0.out⟩
                                        generalize wr.drew = V1 at *
                                        refine wpAnyH_take (i := 0) (v := ?v901) rfl (by kernel_rfl) (by kernel_rfl) (by kernel_rfl) (fun _ _ _ h => h) (Or.inl ⟨by rfl, ?hy901⟩) hH ?rest901
                                        case hy901 => intro w' hSw; (try dsimp only at hSw); go_simp; all_goals rfl
                                        simp only [Act.put, List.setIfInBounds_toArray, List.set_cons_zero, List.set_cons_succ, List.getElem_toArray, List.getElem_cons_zero]
                                        refine wpAnyH_take (i := 1) (v := ?v902) rfl (by kernel_rfl) (by kernel_rfl) (by kernel_rfl) (fun _ _ _ h => h) (Or.inl ⟨by rfl, ?hy902⟩) hH ?rest902
                                        case hy902 => intro w' hSw; (try dsimp only at hSw); go_simp; all_goals rfl
                                        simp only [Act.put, List.setIfInBounds_toArray, List.set_cons_zero, List.set_cons_succ, List.getElem_toArray, List.getElem_cons_zero, List.getElem_cons_succ]
                                        refine wpAnyH_take (i := 2) (v := ?v903) rfl (by kernel_rfl) (by kernel_rfl) (by kernel_rfl) (fun _ _ _ h => h) (Or.inl ⟨by rfl, ?hy903⟩) hH ?rest903
                                        case hy903 => intro w' hSw; (try dsimp only at hSw); go_simp; all_goals rfl
                                        simp only [Act.put, List.setIfInBounds_toArray, List.set_cons_zero, List.set_cons_succ, List.getElem_toArray, List.getElem_cons_zero, List.getElem_cons_succ]
                                        refine wpAnyH_take (i := 3) (v := ?v904) rfl (by kernel_rfl) (by kernel_rfl) (by kernel_rfl) (fun _ _ _ h => h) (Or.inl ⟨by rfl, ?hy904⟩) hH ?rest904
                                        case hy904 => intro w' hSw; (try dsimp only at hSw); go_simp; all_goals rfl
                                        simp only [Act.put, List.setIfInBounds_toArray, List.set_cons_zero, List.set_cons_succ, List.getElem_toArray, List.getElem_cons_zero, List.getElem_cons_succ]
                                        refine wpAnyH_take (i := 4) (v := ?v905) rfl (by kernel_rfl) (by kernel_rfl) (by kernel_rfl) (fun _ _ _ h => h) (Or.inl ⟨by rfl, ?hy905⟩) hH ?rest905
                                        case hy905 => intro w' hSw; (try dsimp only at hSw); go_simp; all_goals rfl
                                        simp only [Act.put, List.setIfInBounds_toArray, List.set_cons_zero, List.set_cons_succ, List.getElem_toArray, List.getElem_cons_zero, List.getElem_cons_succ]
                                        refine wpAnyH_take (i := 5) (v := ?v906) rfl (by kernel_rfl) (by kernel_rfl) (by kernel_rfl) (fun _ _ _ h => h) (Or.inl ⟨by rfl, ?hy906⟩) hH ?rest906
                                        case hy906 => intro w' hSw; (try dsimp only at hSw); go_simp; all_goals rfl
                                        simp only [Act.put, List.setIfInBounds_toArray, List.set_cons_zero, List.set_cons_succ, List.getElem_toArray, List.getElem_cons_zero, List.getElem_cons_succ]
                                        refine wpAnyH_take (i := 6) (v := ?v907) rfl (by kernel_rfl) (by kernel_rfl) (by kernel_rfl) (fun _ _ _ h => h) (Or.inl ⟨by rfl, ?hy907⟩) hH ?rest907
                                        case hy907 => intro w' hSw; (try dsimp only at hSw); go_simp; all_goals rfl
                                        simp only [Act.put, List.setIfInBounds_toArray, List.set_cons_zero, List.set_cons_succ, List.getElem_toArray, List.getElem_cons_zero, List.getElem_cons_succ]
                                        refine wpAnyH_take (i := 7) (v := ?v908) rfl (by kernel_rfl) (by kernel_rfl) (by kernel_rfl) (fun _ _ _ h => h) (Or.inl ⟨by rfl, ?hy908⟩) hH ?rest908
                                        case hy908 => intro w' hSw; (try dsimp only at hSw); go_simp; all_goals rfl
                                        simp only [Act.put, List.setIfInBounds_toArray, List.set_cons_zero, List.set_cons_succ, List.getElem_toArray, List.getElem_cons_zero, List.getElem_cons_succ]
                                        refine wpAnyH_ready (rs := [8]) (by kernel_rfl) (by simp) ?_
                                        refine AllReadyH.cons rfl (fun K hK => ?_) AllReadyH.nil
                                        go_simp
                                        refine (HWD.out _).mono ?_
                                        rintro e w5 ⟨rfl, b5⟩
                                        have HB5 : Hid (Below wr.heap.size wr w5) := andThen HB0.out b5
                                        clear b5
                                        refine hK.out _ _ ?_ (fun hH2 => ?_)
                                        · exact ⟨(HD.out _ HB5.out).1, (HD.out _ HB5.out).2.1, (HD.out _ HB5.out).2.2, HD3.out _ HB5.out⟩
                                        clear hK K hH
                                        have hH := hH2
                                        clear hH2
                                        refine wpAnyH_take (i := 9) (v := ?v909) rfl (by kernel_rfl) (by kernel_rfl) (by kernel_rfl) (fun _ _ _ h => h) (Or.inl ⟨by rfl, ?hy909⟩) hH ?rest909
                                        case hy909 => intro w' hSw; (try dsimp only at hSw); go_simp; all_goals rfl
                                        simp only [Act.put, List.setIfInBounds_toArray, List.set_cons_zero, List.set_cons_succ, List.getElem_toArray, List.getElem_cons_zero, List.getElem_cons_succ]
                                        refine wpAnyH_take (i := 10) (v := ?v910) rfl (by kernel_rfl) (by kernel_rfl) (by kernel_rfl) (fun _ _ _ h => h) (Or.inl ⟨by rfl, ?hy910⟩) hH ?rest910
                                        case hy910 => intro w' hSw; (try dsimp only at hSw); go_simp; all_goals rfl
                                        simp only [Act.put, List.setIfInBounds_toArray, List.set_cons_zero, List.set_cons_succ, List.getElem_toArray, List.getElem_cons_zero, List.getElem_cons_succ]
                                        refine wpAnyH_take (i := 11) (v := ?v911) rfl (by kernel_rfl) (by kernel_rfl) (by kernel_rfl) (fun _ _ _ h => h) (Or.inl ⟨by rfl, ?hy911⟩) hH ?rest911
                                        case hy911 => intro w' hSw; (try dsimp only at hSw); go_simp; all_goals rfl
                                        simp only [Act.put, List.setIfInBounds_toArray, List.set_cons_zero, List.set_cons_succ, List.getElem_toArray, List.getElem_cons_zero, List.getElem_cons_succ]
                                        refine wpAnyH_take (i := 12) (v := ?v912) rfl (by kernel_rfl) (by kernel_rfl) (by kernel_rfl) (fun _ _ _ h => h) (Or.inl ⟨by rfl, ?hy912⟩) hH ?rest912
                                        case hy912 => intro w' hSw; (try dsimp only at hSw); go_simp; all_goals rfl
                                        simp only [Act.put, List.setIfInBounds_toArray, List.set_cons_zero, List.set_cons_succ, List.getElem_toArray, List.getElem_cons_zero, List.getElem_cons_succ]
                                        refine wpAnyH_take (i := 13) (v := ?v913) rfl (by kernel_rfl) (by kernel_rfl) (by kernel_rfl) (fun _ _ _ h => h) (Or.inl ⟨by rfl, ?hy913⟩) hH ?rest913
                                        case hy913 => intro w' hSw; (try dsimp only at hSw); go_simp; all_goals rfl
                                        simp only [Act.put, List.setIfInBounds_toArray, List.set_cons_zero, List.set_cons_succ, List.getElem_toArray, List.getElem_cons_zero, List.getElem_cons_succ]
                                        refine wpAnyH_take (i := 14) (v := ?v914) rfl (by kernel_rfl) (by kernel_rfl) (by kernel_rfl) (fun _ _ _ h => h) (Or.inl ⟨by rfl, ?hy914⟩) hH ?rest914
                                        case hy914 => intro w' hSw; (try dsimp only at hSw); go_simp; all_goals rfl
                                        simp only [Act.put, List.setIfInBounds_toArray, List.set_cons_zero, List.set_cons_succ, List.getElem_toArray, List.getElem_cons_zero, List.getElem_cons_succ]
                                        refine wpAnyH_take (i := 15) (v := ?v915) rfl (by kernel_rfl) (by kernel_rfl) (by kernel_rfl) (fun _ _ _ h => h) (Or.inl ⟨by rfl, ?hy915⟩) hH ?rest915
                                        case hy915 => intro w' hSw; (try dsimp only at hSw); go_simp; all_goals rfl
                                        simp only [Act.put, List.setIfInBounds_toArray, List.set_cons_zero, List.set_cons_succ, List.getElem_toArray, List.getElem_cons_zero, List.getElem_cons_succ]
                                        refine wpAnyH_take (i := 16) (v := ?v916) rfl (by kernel_rfl) (by kernel_rfl) (by kernel_rfl) (fun _ _ _ h => h) (Or.inl ⟨by rfl, ?hy916⟩) hH ?rest916
                                        case hy916 => intro w' hSw; (try dsimp only at hSw); go_simp; all_goals rfl
                                        simp only [Act.put, List.setIfInBounds_toArray, List.set_cons_zero, List.set_cons_succ, List.getElem_toArray, List.getElem_cons_zero, List.getElem_cons_succ]
                                        refine wpAnyH_take (i := 17) (v := ?v917) rfl (by kernel_rfl) (by kernel_rfl) (by kernel_rfl) (fun _ _ _ h => h) (Or.inl ⟨by rfl, ?hy917⟩) hH ?rest917
                                        case hy917 => intro w' hSw; (try dsimp only at hSw); go_simp; all_goals rfl
                                        simp only [Act.put, List.setIfInBounds_toArray, List.set_cons_zero, List.set_cons_succ, List.getElem_toArray, List.getElem_cons_zero, List.getElem_cons_succ]
                                        refine wpAnyH_take (i := 18) (v := ?v918) rfl (by kernel_rfl) (by kernel_rfl) (by kernel_rfl) (fun _ _ _ h => h) (Or.inl ⟨by rfl, ?hy918⟩) hH ?rest918
                                        case hy918 => intro w' hSw; (try dsimp only at hSw); go_simp; all_goals rfl
                                        simp only [Act.put, List.setIfInBounds_toArray, List.set_cons_zero, List.set_cons_succ, List.getElem_toArray, List.getElem_cons_zero, List.getElem_cons_succ]
                                        refine wpAnyH_take (i := 19) (v := ?v919) rfl (by kernel_rfl) (by kernel_rfl) (by kernel_rfl) (fun _ _ _ h => h) (Or.inl ⟨by rfl, ?hy919⟩) hH ?rest919
                                        case hy919 => intro w' hSw; (try dsimp only at hSw); go_simp; all_goals rfl
                                        simp only [Act.put, List.setIfInBounds_toArray, List.set_cons_zero, List.set_cons_succ, List.getElem_toArray, List.getElem_cons_zero, List.getElem_cons_succ]
                                        refine wpAnyH_take (i := 20) (v := ?v920) rfl (by kernel_rfl) (by kernel_rfl) (by kernel_rfl) (fun _ _ _ h => h) (Or.inl ⟨by rfl, ?hy920⟩) hH ?rest920
                                        case hy920 => intro w' hSw; (try dsimp only at hSw); go_simp; all_goals rfl
                                        simp only [Act.put, List.setIfInBounds_toArray, List.set_cons_zero, List.set_cons_succ, List.getElem_toArray, List.getElem_cons_zero, List.getElem_cons_succ]
                                        refine wpAnyH_take (i := 21) (v := ?v921) rfl (by kernel_rfl) (by kernel_rfl) (by kernel_rfl) (fun _ _ _ h => h) (Or.inl ⟨by rfl, ?hy921⟩) hH ?rest921
                                        case hy921 => intro w' hSw; (try dsimp only at hSw); go_simp; all_goals rfl
                                        simp only [Act.put, List.setIfInBounds_toArray, List.set_cons_zero, List.set_cons_succ, List.getElem_toArray, List.getElem_cons_zero, List.getElem_cons_succ]
                                        refine wpAnyH_take (i := 22) (v := ?v922) rfl (by kernel_rfl) (by kernel_rfl) (by kernel_rfl) (fun _ _ _ h => h) (Or.inl ⟨by rfl, ?hy922⟩) hH ?rest922
                                        case hy922 => intro w' hSw; (try dsimp only at hSw); go_simp; all_goals rfl
                                        simp only [Act.put, List.setIfInBounds_toArray, List.set_cons_zero, List.set_cons_succ, List.getElem_toArray, List.getElem_cons_zero, List.getElem_cons_succ]
                                        refine wpAnyH_take (i := 23) (v := ?v923) rfl (by kernel_rfl) (by kernel_rfl) (by kernel_rfl) (fun _ _ _ h => h) (Or.inl ⟨by rfl, ?hy923⟩) hH ?rest923
                                        case hy923 => intro w' hSw; (try dsimp only at hSw); go_simp; all_goals rfl
                                        simp only [Act.put, List.setIfInBounds_toArray, List.set_cons_zero, List.set_cons_succ, List.getElem_toArray, List.getElem_cons_zero, List.getElem_cons_succ]
                                        refine wpAnyH_take (i := 24) (v := ?v924) rfl (by kernel_rfl) (by kernel_rfl) (by kernel_rfl) (fun _ _ _ h => h) (Or.inl ⟨by rfl, ?hy924⟩) hH ?rest924
                                        case hy924 => intro w' hSw; (try dsimp only at hSw); go_simp; all_goals rfl
                                        simp only [Act.put, List.setIfInBounds_toArray, List.set_cons_zero, List.set_cons_succ, List.getElem_toArray, List.getElem_cons_zero, List.getElem_cons_succ]
                                        refine wpAnyH_take (i := 25) (v := ?v925) rfl (by kernel_rfl) (by kernel_rfl) (by kernel_rfl) (fun _ _ _ h => h) (Or.inl ⟨by rfl, ?hy925⟩) hH ?rest925
                                        case hy925 => intro w' hSw; (try dsimp only at hSw); go_simp; all_goals rfl
                                        simp only [Act.put, List.setIfInBounds_toArray, List.set_cons_zero, List.set_cons_succ, List.getElem_toArray, List.getElem_cons_zero, List.getElem_cons_succ]
                                        refine wpAnyH_take (i := 26) (v := ?v926) rfl (by kernel_rfl) (by kernel_rfl) (by kernel_rfl) (fun _ _ _ h => h) (Or.inl ⟨by rfl, ?hy926⟩) hH ?rest926
                                        case hy926 => intro w' hSw; (try dsimp only at hSw); go_simp; all_goals rfl
                                        simp only [Act.put, List.setIfInBounds_toArray, List.set_cons_zero, List.set_cons_succ, List.getElem_toArray, List.getElem_cons_zero, List.getElem_cons_succ]
                                        refine wpAnyH_ready (rs := [27]) (by kernel_rfl) (by simp) ?_
                                        refine AllReadyH.cons rfl (fun K hK => ?_) AllReadyH.nil
                                        go_simp
                                        refine (HWD.out _).mono ?_
                                        rintro e w6 ⟨rfl, b5⟩
                                        have HB6 : Hid (Below wr.heap.size wr w6) := andThen HB5.out b5
                                        clear b5
                                        refine hK.out _ _ ?_ (fun hH2 => ?_)
                                        · exact ⟨(HD.out _ HB6.out).1, (HD.out _ HB6.out).2.1, (HD.out _ HB6.out).2.2, HD3.out _ HB6.out⟩
                                        clear hK K hH
                                        have hH := hH2
                                        clear hH2
                                        refine wpAnyH_take (i := 28) (v := ?v927) rfl (by kernel_rfl) (by kernel_rfl) (by kernel_rfl) (fun _ _ _ h => h) (Or.inl ⟨by rfl, ?hy927⟩) hH ?rest927
                                        case hy927 => intro w' hSw; (try dsimp only at hSw); go_simp; all_goals rfl
                                        simp only [Act.put, List.setIfInBounds_toArray, List.set_cons_zero, List.set_cons_succ, List.getElem_toArray, List.getElem_cons_zero, List.getElem_cons_succ]
                                        refine wpAnyH_take (i := 29) (v := ?v928) rfl (by kernel_rfl) (by kernel_rfl) (by kernel_rfl) (fun _ _ _ h => h) (Or.inl ⟨by rfl, ?hy928⟩) hH ?rest928
                                        case hy928 => intro w' hSw; (try dsimp only at hSw); go_simp; all_goals rfl
                                        simp only [Act.put, List.setIfInBounds_toArray, List.set_cons_zero, List.set_cons_succ, List.getElem_toArray, List.getElem_cons_zero, List.getElem_cons_succ]
                                        refine wpAnyH_take (i := 30) (v := ?v929) rfl (by kernel_rfl) (by kernel_rfl) (by kernel_rfl) (fun _ _ _ h => h) (Or.inl ⟨by rfl, ?hy929⟩) hH ?rest929
                                        case hy929 => intro w' hSw; (try dsimp only at hSw); go_simp; all_goals rfl
                                        simp only [Act.put, List.setIfInBounds_toArray, List.set_cons_zero, List.set_cons_succ, List.getElem_toArray, List.getElem_cons_zero, List.getElem_cons_succ]
                                        refine wpAnyH_done (by kernel_rfl) ?_ _
                                        clear hH
                                        have HN : Hid (Q8 W w1 w4 H0 (.slice (some ⟨gW, 0, none⟩) 6 cW) L (.slice (some ⟨gA, 0, none⟩) 3 cA) LA recM RN.length (.slice (some ⟨gG, 0, none⟩) 6 cG) Ga (.slice (some ⟨gH, 0, none⟩) 3 cH) Gb w6) := HKQ.out _ HB6.out
                                        clear HKQ HD HD2 HWD
                                        go_wp2
                                        go_roundw
                                        case rel => exact ⟨q + 1, by omega, by go_num, HN.out⟩
                                        case measure => simp [intOf]; omega
                                      · have hd1 : ((q : Int) < 2) = False := eq_false (by omega)
                                        refine wp_region_held_drew (S := fun w' : World => w'.cell? ⟨gG, k, none⟩ = some (.slice (some ⟨gg, 0, none⟩) 22 cg) ∧ w'.cell? ⟨gg, q, none⟩ = some (.string (wrd k)) ∧ w'.cell? ⟨gW, k, none⟩ = some (.slice (some ⟨gk, 0, none⟩) 2 ck)) (by kernel_rfl) ?_ (fun hH => ?_)
                                        · exact HD.out _ HB0.out
                                        generalize wr.drew = V1 at *
                                        refine wpAnyH_take (i := 0) (v := ?v930) rfl (by kernel_rfl) (by kernel_rfl) (by kernel_rfl) (fun _ _ _ h => h) (Or.inl ⟨by rfl, ?hy930⟩) hH ?rest930
                                        case hy930 => intro w' hSw; (try dsimp only at hSw); go_simp; all_goals rfl
                                        simp only [Act.put, List.setIfInBounds_toArray, List.set_cons_zero, List.set_cons_succ, List.getElem_toArray, List.getElem_cons_zero]
                                        refine wpAnyH_take (i := 1) (v := ?v931) rfl (by kernel_rfl) (by kernel_rfl) (by kernel_rfl) (fun _ _ _ h => h) (Or.inl ⟨by rfl, ?hy931⟩) hH ?rest931
                                        case hy931 => intro w' hSw; (try dsimp only at hSw); go_simp; all_goals rfl
                                        simp only [Act.put, List.setIfInBounds_toArray, List.set_cons_zero, List.set_cons_succ, List.getElem_toArray, List.getElem_cons_zero, List.getElem_cons_succ]
                                        refine wpAnyH_take (i := 2) (v := ?v932) rfl (by kernel_rfl) (by kernel_rfl) (by kernel_rfl) (fun _ _ _ h => h) (Or.inl ⟨by rfl, ?hy932⟩) hH ?rest932
                                        case hy932 => intro w' hSw; (try dsimp only at hSw); go_simp; all_goals rfl
                                        simp only [Act.put, List.setIfInBounds_toArray, List.set_cons_zero, List.set_cons_succ, List.getElem_toArray, List.getElem_cons_zero, List.getElem_cons_succ]
                                        refine wpAnyH_take (i := 3) (v := ?v933) rfl (by kernel_rfl) (by kernel_rfl) (by kernel_rfl) (fun _ _ _ h => h) (Or.inl ⟨by rfl, ?hy933⟩) hH ?rest933
                                        case hy933 => intro w' hSw; (try dsimp only at hSw); go_simp; all_goals rfl
                                        simp only [Act.put, List.setIfInBounds_toArray, List.set_cons_zero, List.set_cons_succ, List.getElem_toArray, List.getElem_cons_zero, List.getElem_cons_succ]
                                        refine wpAnyH_take (i := 4) (v := ?v934) rfl (by kernel_rfl) (by kernel_rfl) (by kernel_rfl) (fun _ _ _ h => h) (Or.inl ⟨by rfl, ?hy934⟩) hH ?rest934
                                        case hy934 => intro w' hSw; (try dsimp only at hSw); go_simp; all_goals rfl
                                        simp only [Act.put, List.setIfInBounds_toArray, List.set_cons_zero, List.set_cons_succ, List.getElem_toArray, List.getElem_cons_zero, List.getElem_cons_succ]
                                        refine wpAnyH_take (i := 5) (v := ?v935) rfl (by kernel_rfl) (by kernel_rfl) (by kernel_rfl) (fun _ _ _ h => h) (Or.inl ⟨by rfl, ?hy935⟩) hH ?rest935
                                        case hy935 => intro w' hSw; (try dsimp only at hSw); go_simp; all_goals rfl
                                        simp only [Act.put, List.setIfInBounds_toArray, List.set_cons_zero, List.set_cons_succ, List.getElem_toArray, List.getElem_cons_zero, List.getElem_cons_succ]
                                        refine wpAnyH_take (i := 6) (v := ?v936) rfl (by kernel_rfl) (by kernel_rfl) (by kernel_rfl) (fun _ _ _ h => h) (Or.inl ⟨by rfl, ?hy936⟩) hH ?rest936
                                        case hy936 => intro w' hSw; (try dsimp only at hSw); go_simp; all_goals rfl
                                        simp only [Act.put, List.setIfInBounds_toArray, List.set_cons_zero, List.set_cons_succ, List.getElem_toArray, List.getElem_cons_zero, List.getElem_cons_succ]
                                        refine wpAnyH_take (i := 7) (v := ?v937) rfl (by kernel_rfl) (by kernel_rfl) (by kernel_rfl) (fun _ _ _ h => h) (Or.inl ⟨by rfl, ?hy937⟩) hH ?rest937
                                        case hy937 => intro w' hSw; (try dsimp only at hSw); go_simp; all_goals rfl
                                        simp only [Act.put, List.setIfInBounds_toArray, List.set_cons_zero, List.set_cons_succ, List.getElem_toArray, List.getElem_cons_zero, List.getElem_cons_succ]
                                        refine wpAnyH_ready (rs := [8]) (by kernel_rfl) (by simp) ?_
                                        refine AllReadyH.cons rfl (fun K hK => ?_) AllReadyH.nil
                                        go_simp
                                        refine (HWD.out _).mono ?_
                                        rintro e w5 ⟨rfl, b5⟩
                                        have HB5 : Hid (Below wr.heap.size wr w5) := andThen HB0.out b5
                                        clear b5
                                        refine hK.out _ _ ?_ (fun hH2 => ?_)
                                        · exact HD.out _ HB5.out
                                        clear hK K hH
                                        have hH := hH2
                                        clear hH2
                                        refine wpAnyH_take (i := 9) (v := ?v938) rfl (by kernel_rfl) (by kernel_rfl) (by kernel_rfl) (fun _ _ _ h => h) (Or.inl ⟨by rfl, ?hy938⟩) hH ?rest938
                                        case hy938 => intro w' hSw; (try dsimp only at hSw); go_simp; all_goals rfl
                                        simp only [Act.put, List.setIfInBounds_toArray, List.set_cons_zero, List.set_cons_succ, List.getElem_toArray, List.getElem_cons_zero, List.getElem_cons_succ]
                                        refine wpAnyH_take (i := 10) (v := ?v939) rfl (by kernel_rfl) (by kernel_rfl) (by kernel_rfl) (fun _ _ _ h => h) (Or.inl ⟨by rfl, ?hy939⟩) hH ?rest939
                                        case hy939 => intro w' hSw; (try dsimp only at hSw); go_simp; all_goals rfl
                                        simp only [Act.put, List.setIfInBounds_toArray, List.set_cons_zero, List.set_cons_succ, List.getElem_toArray, List.getElem_cons_zero, List.getElem_cons_succ]
                                        refine wpAnyH_take (i := 11) (v := ?v940) rfl (by kernel_rfl) (by kernel_rfl) (by kernel_rfl) (fun _ _ _ h => h) (Or.inl ⟨by rfl, ?hy940⟩) hH ?rest940
                                        case hy940 => intro w' hSw; (try dsimp only at hSw); go_simp; all_goals rfl
                                        simp only [Act.put, List.setIfInBounds_toArray, List.set_cons_zero, List.set_cons_succ, List.getElem_toArray, List.getElem_cons_zero, List.getElem_cons_succ]
                                        refine wpAnyH_take (i := 12) (v := ?v941) rfl (by kernel_rfl) (by kernel_rfl) (by kernel_rfl) (fun _ _ _ h => h) (Or.inl ⟨by rfl, ?hy941⟩) hH ?rest941
                                        case hy941 => intro w' hSw; (try dsimp only at hSw); go_simp; all_goals rfl
                                        simp only [Act.put, List.setIfInBounds_toArray, List.set_cons_zero, List.set_cons_succ, List.getElem_toArray, List.getElem_cons_zero, List.getElem_cons_succ]
                                        refine wpAnyH_take (i := 13) (v := ?v942) rfl (by kernel_rfl) (by kernel_rfl) (by kernel_rfl) (fun _ _ _ h => h) (Or.inl ⟨by rfl, ?hy942⟩) hH ?rest942
                                        case hy942 => intro w' hSw; (try dsimp only at hSw); go_simp; all_goals rfl
                                        simp only [Act.put, List.setIfInBounds_toArray, List.set_cons_zero, List.set_cons_succ, List.getElem_toArray, List.getElem_cons_zero, List.getElem_cons_succ]
                                        refine wpAnyH_take (i := 14) (v := ?v943) rfl (by kernel_rfl) (by kernel_rfl) (by kernel_rfl) (fun _ _ _ h => h) (Or.inl ⟨by rfl, ?hy943⟩) hH ?rest943
                                        case hy943 => intro w' hSw; (try dsimp only at hSw); go_simp; all_goals rfl
                                        simp only [Act.put, List.setIfInBounds_toArray, List.set_cons_zero, List.set_cons_succ, List.getElem_toArray, List.getElem_cons_zero, List.getElem_cons_succ]
                                        refine wpAnyH_take (i := 15) (v := ?v944) rfl (by kernel_rfl) (by kernel_rfl) (by kernel_rfl) (fun _ _ _ h => h) (Or.inl ⟨by rfl, ?hy944⟩) hH ?rest944
                                        case hy944 => intro w' hSw; (try dsimp only at hSw); go_simp; all_goals rfl
                                        simp only [Act.put, List.setIfInBounds_toArray, List.set_cons_zero, List.set_cons_succ, List.getElem_toArray, List.getElem_cons_zero, List.getElem_cons_succ]
                                        refine wpAnyH_take (i := 16) (v := ?v945) rfl (by kernel_rfl) (by kernel_rfl) (by kernel_rfl) (fun _ _ _ h => h) (Or.inl ⟨by rfl, ?hy945⟩) hH ?rest945
                                        case hy945 => intro w' hSw; (try dsimp only at hSw); go_simp; all_goals rfl
                                        simp only [Act.put, List.setIfInBounds_toArray, List.set_cons_zero, List.set_cons_succ, List.getElem_toArray, List.getElem_cons_zero, List.getElem_cons_succ]
                                        refine wpAnyH_take (i := 17) (v := ?v946) rfl (by kernel_rfl) (by kernel_rfl) (by kernel_rfl) (fun _ _ _ h => h) (Or.inl ⟨by rfl, ?hy946⟩) hH ?rest946
                                        case hy946 => intro w' hSw; (try dsimp only at hSw); go_simp; all_goals rfl
                                        simp only [Act.put, List.setIfInBounds_toArray, List.set_cons_zero, List.set_cons_succ, List.getElem_toArray, List.getElem_cons_zero, List.getElem_cons_succ]
                                        refine wpAnyH_take (i := 18) (v := ?v947) rfl (by kernel_rfl) (by kernel_rfl) (by kernel_rfl) (fun _ _ _ h => h) (Or.inl ⟨by rfl, ?hy947⟩) hH ?rest947
                                        case hy947 => intro w' hSw; (try dsimp only at hSw); go_simp; all_goals rfl
                                        simp only [Act.put, List.setIfInBounds_toArray, List.set_cons_zero, List.set_cons_succ, List.getElem_toArray, List.getElem_cons_zero, List.getElem_cons_succ]
                                        refine wpAnyH_take (i := 19) rfl (by kernel_rfl) (by kernel_rfl) (by kernel_rfl) (fun _ _ _ h => h) (Or.inr ⟨by rfl, rfl⟩) hH ?_
                                        simp only [Act.put, List.setIfInBounds_toArray, List.set_cons_zero, List.set_cons_succ, List.getElem_toArray, List.getElem_cons_zero, List.getElem_cons_succ]
                                        refine wpAnyH_take (i := 20) rfl (by kernel_rfl) (by kernel_rfl) (by kernel_rfl) (fun _ _ _ h => h) (Or.inr ⟨by rfl, rfl⟩) hH ?_
                                        simp only [Act.put, List.setIfInBounds_toArray, List.set_cons_zero, List.set_cons_succ, List.getElem_toArray, List.getElem_cons_zero, List.getElem_cons_succ]
                                        refine wpAnyH_take (i := 21) rfl (by kernel_rfl) (by kernel_rfl) (by kernel_rfl) (fun _ _ _ h => h) (Or.inr ⟨by rfl, rfl⟩) hH ?_
                                        simp only [Act.put, List.setIfInBounds_toArray, List.set_cons_zero, List.set_cons_succ, List.getElem_toArray, List.getElem_cons_zero, List.getElem_cons_succ]
                                        refine wpAnyH_take (i := 22) rfl (by kernel_rfl) (by kernel_rfl) (by kernel_rfl) (fun _ _ _ h => h) (Or.inr ⟨by rfl, rfl⟩) hH ?_
                                        simp only [Act.put, List.setIfInBounds_toArray, List.set_cons_zero, List.set_cons_succ, List.getElem_toArray, List.getElem_cons_zero, List.getElem_cons_succ]
                                        refine wpAnyH_take (i := 23) rfl (by kernel_rfl) (by kernel_rfl) (by kernel_rfl) (fun _ _ _ h => h) (Or.inr ⟨by rfl, rfl⟩) hH ?_
                                        simp only [Act.put, List.setIfInBounds_toArray, List.set_cons_zero, List.set_cons_succ, List.getElem_toArray, List.getElem_cons_zero, List.getElem_cons_succ]
                                        refine wpAnyH_take (i := 24) rfl (by kernel_rfl) (by kernel_rfl) (by kernel_rfl) (fun _ _ _ h => h) (Or.inr ⟨by rfl, rfl⟩) hH ?_
                                        simp only [Act.put, List.setIfInBounds_toArray, List.set_cons_zero, List.set_cons_succ, List.getElem_toArray, List.getElem_cons_zero, List.getElem_cons_succ]
                                        refine wpAnyH_take (i := 25) rfl (by kernel_rfl) (by kernel_rfl) (by kernel_rfl) (fun _ _ _ h => h) (Or.inr ⟨by rfl, rfl⟩) hH ?_
                                        simp only [Act.put, List.setIfInBounds_toArray, List.set_cons_zero, List.set_cons_succ, List.getElem_toArray, List.getElem_cons_zero, List.getElem_cons_succ]
                                        refine wpAnyH_take (i := 26) rfl (by kernel_rfl) (by kernel_rfl) (by kernel_rfl) (fun _ _ _ h => h) (Or.inr ⟨by rfl, rfl⟩) hH ?_
                                        simp only [Act.put, List.setIfInBounds_toArray, List.set_cons_zero, List.set_cons_succ, List.getElem_toArray, List.getElem_cons_zero, List.getElem_cons_succ]
                                        refine wpAnyH_take (i := 27) rfl (by kernel_rfl) (by kernel_rfl) (by kernel_rfl) (fun _ _ _ h => h) (Or.inr ⟨by rfl, rfl⟩) hH ?_
                                        simp only [Act.put, List.setIfInBounds_toArray, List.set_cons_zero, List.set_cons_succ, List.getElem_toArray, List.getElem_cons_zero, List.getElem_cons_succ]
                                        refine wpAnyH_take (i := 28) rfl (by kernel_rfl) (by kernel_rfl) (by kernel_rfl) (fun _ _ _ h => h) (Or.inr ⟨by rfl, rfl⟩) hH ?_
                                        simp only [Act.put, List.setIfInBounds_toArray, List.set_cons_zero, List.set_cons_succ, List.getElem_toArray, List.getElem_cons_zero, List.getElem_cons_succ]
                                        refine wpAnyH_take (i := 29) (v := ?v948) rfl (by kernel_rfl) (by kernel_rfl) (by kernel_rfl) (fun _ _ _ h => h) (Or.inl ⟨by rfl, ?hy948⟩) hH ?rest948
                                        case hy948 => intro w' hSw; (try dsimp only at hSw); go_simp; all_goals rfl
                                        simp only [Act.put, List.setIfInBounds_toArray, List.set_cons_zero, List.set_cons_succ, List.getElem_toArray, List.getElem_cons_zero, List.getElem_cons_succ]
                                        refine wpAnyH_take (i := 30) (v := ?v949) rfl (by kernel_rfl) (by kernel_rfl) (by kernel_rfl) (fun _ _ _ h => h) (Or.inl ⟨by rfl, ?hy949⟩) hH ?rest949
                                        case hy949 => intro w' hSw; (try dsimp only at hSw); go_simp; all_goals rfl
                                        simp only [Act.put, List.setIfInBounds_toArray, List.set_cons_zero, List.set_cons_succ, List.getElem_toArray, List.getElem_cons_zero, List.getElem_cons_succ]
                                        refine wpAnyH_done (by kernel_rfl) ?_ _
                                        clear hH
                                        have HN : Hid (Q8 W w1 w4 H0 (.slice (some ⟨gW, 0, none⟩) 6 cW) L (.slice (some ⟨gA, 0, none⟩) 3 cA) LA recM RN.length (.slice (some ⟨gG, 0, none⟩) 6 cG) Ga (.slice (some ⟨gH, 0, none⟩) 3 cH) Gb w5) := HKQ.out _ HB5.out
                                        clear HKQ HD HD2 HWD
                                        go_wp2
                                        go_roundw
                                        case rel => exact ⟨q + 1, by omega, by go_num, HN.out⟩
                                        case measure => simp [intOf]; omega
                                    · obtain rfl : q = 22 := by omega
                                      clear hl2 hq HWD
                                      rw [show ((22 : Nat) : Int) = 22 from rfl]
                                      go_wp2
                                      go_roundw
                                      case rel => exact ⟨k + 1, by omega, by go_num, HQ.out⟩
                                      case measure => simp [intOf]; omega
                                · obtain rfl : k = 6 := by omega
                                  clear hlt hk
                                  rw [show ((6 : Nat) : Int) = 6 from rfl]
                                  go_wp2
                                  go_loopw [36] (fun i wq => ∃ k : Nat, k ≤ 3 ∧ i = .int .i64 (k : Int) ∧ Q8 W w1 w4 H0 (.slice (some ⟨gW, 0, none⟩) 6 cW) L (.slice (some ⟨gA, 0, none⟩) 3 cA) LA recM RN.length (.slice (some ⟨gG, 0, none⟩) 6 cG) Ga (.slice (some ⟨gH, 0, none⟩) 3 cH) Gb wq) (fun i _ => 3 - (intOf i).toNat)
                                  case atStart => exact ⟨0, Nat.zero_le _, rfl, HQ.out⟩
                                  case round =>
                                    obtain ⟨k, hk, rfl, hq8⟩ := hrel
                                    clear HQ
                                    have HQ : Hid (Q8 W w1 w4 H0 (.slice (some ⟨gW, 0, none⟩) 6 cW) L (.slice (some ⟨gA, 0, none⟩) 3 cA) LA recM RN.length (.slice (some ⟨gG, 0, none⟩) 6 cG) Ga (.slice (some ⟨gH, 0, none⟩) 3 cH) Gb wr) := hq8
                                    clear hq8
                                    by_cases hlt : k < 3
                                    · obtain ⟨lv, hlv⟩ : ∃ lv, LA[k]? = some lv := ⟨LA[k]'(by rw [HLN.out.2]; exact hlt), List.getElem?_eq_getElem _⟩
                                      obtain ⟨gv, hgv⟩ : ∃ gv, Gb[k]? = some gv := ⟨Gb[k]'(by rw [HBK.out]; exact hlt), List.getElem?_eq_getElem _⟩
                                      obtain ⟨ak, ck, e9, hc1, hc2⟩ := row_shape (HQ.out.2.2.l k lv hlv)
                                      subst e9
                                      obtain ⟨ag, cg, e9, hd1, hd2⟩ := row_shape (HQ.out.2.2.g k gv hgv)
                                      subst e9
                                      unfold maxLen at hc2 hd2
                                      have HC : Hid (∀ w', Q8 W w1 w4 H0 (.slice (some ⟨gW, 0, none⟩) 6 cW) L (.slice (some ⟨gA, 0, none⟩) 3 cA) LA recM RN.length (.slice (some ⟨gG, 0, none⟩) 6 cG) Ga (.slice (some ⟨gH, 0, none⟩) 3 cH) Gb w' → w'.cell? ⟨gH, k, none⟩ = some (.slice ag (RN.length + 20) cg) ∧ w'.cell? ⟨gA, k, none⟩ = some (.slice ak RN.length ck) ∧ (∀ q, q < RN.length + 20 → ∃ g, ag = some ⟨g, 0, none⟩ ∧ w'.cell? ⟨g, q * 12, none⟩ = some (.int .i64 (-7 - (k : Int)))) ∧ ∀ q, q < RN.length → ∃ g, ak = some ⟨g, 0, none⟩ ∧ w'.cell? ⟨g, q * 12, none⟩ = some (.int .i64 (-7 - (k : Int)))) := fun w' h => by
                                        refine ⟨own_at h.1.rh hgv, own_at h.1.rb hlv, fun q hq => ?_, fun q hq => ?_⟩
                                        · obtain ⟨g9, c9, e9, -, -, h9⟩ := mk_first (h.2.2.g k _ hgv) hq (u := .int .i64 (-7 - (k : Int))) rfl
                                          simp only [Value.slice.injEq] at e9
                                          exact ⟨g9, e9.1, h9⟩
                                        · obtain ⟨g9, c9, e9, -, -, h9⟩ := mk_first (h.2.2.l k _ hlv) hq (u := .int .i64 (-7 - (k : Int))) rfl
                                          simp only [Value.slice.injEq] at e9
                                          exact ⟨g9, e9.1, h9⟩
                                      clear hlv hgv
                                      have d6 : ((k : Int) < 3) = True := eq_true (by omega)
                                      have q0 := (HC.out _ HQ.out).1
                                      go_wp2
                                      go_loopw [37] (fun i wq => ∃ q : Nat, q ≤ RN.length + 20 ∧ i = .int .i64 (q : Int) ∧ Q8 W w1 w4 H0 (.slice (some ⟨gW, 0, none⟩) 6 cW) L (.slice (some ⟨gA, 0, none⟩) 3 cA) LA recM RN.length (.slice (some ⟨gG, 0, none⟩) 6 cG) Ga (.slice (some ⟨gH, 0, none⟩) 3 cH) Gb wq) (fun i _ => RN.length + 20 - (intOf i).toNat)
                                      case atStart => exact ⟨0, Nat.zero_le _, rfl, HQ.out⟩
                                      case round =>
                                        obtain ⟨q, hq, rfl, hst⟩ := hrel
                                        clear HQ q0
                                        have HQ : Hid (Q8 W w1 w4 H0 (.slice (some ⟨gW, 0, none⟩) 6 cW) L (.slice (some ⟨gA, 0, none⟩) 3 cA) LA recM RN.length (.slice (some ⟨gG, 0, none⟩) 6 cG) Ga (.slice (some ⟨gH, 0, none⟩) 3 cH) Gb wr) := hst
                                        clear hst
                                        obtain ⟨q0, q1, q2, q3⟩ := HC.out _ HQ.out
                                        by_cases hl2 : q < RN.length + 20
                                        · obtain ⟨g1, e1, x1⟩ := q2 q hl2
                                          clear q2
                                          subst e1
                                          have dn : ((-7 - (k : Int)) != (-7 - (k : Int))) = false := by simp
                                          have dk : ((q : Int) < (RN.length : Int) + 20) = True := eq_true (by omega)
                                          by_cases h3 : q < RN.length
                                          · obtain ⟨g2, e2, x2⟩ := q3 q h3
                                            clear q3
                                            subst e2
                                            have d3 : ((q : Int) < (RN.length : Int)) = True := eq_true (by omega)
                                            go_wp2
                                            go_roundw
                                            case rel => exact ⟨q + 1, by omega, by go_num, HQ.out⟩
                                            case measure => simp [intOf]; omega
                                          · clear q3
                                            have d3 : ((q : Int) < (RN.length : Int)) = False := eq_false (by omega)
                                            go_wp2
                                            go_roundw
                                            case rel => exact ⟨q + 1, by omega, by go_num, HQ.out⟩
                                            case measure => simp [intOf]; omega
                                        · obtain rfl : q = RN.length + 20 := by omega
                                          clear hl2 hq q2 q3
                                          go_wp2
                                          go_roundw
                                          case rel => exact ⟨k + 1, by omega, by go_num, HQ.out⟩
                                          case measure => simp [intOf]; omega
                                    · obtain rfl : k = 3 := by omega
                                      clear hlt hk
                                      rw [show ((3 : Nat) : Int) = 3 from rfl]
                                      have HLT : Hid (Calls Tryd.prog 31 #[] wr fun e w' => e = .returned (.bool true) ∧ Below wr.heap.size wr w') := lstarted_any wr (HST.out _ HQ.out.1.bel).2.2.2.2.1
                                      have HBW : Hid (Below w.heap.size w wr) := (HST.out _ HQ.out.1.bel).2.2.2.1
                                      go_wp2_with fail
                                      refine HLT.out.mono ?_
                                      rintro e wz ⟨rfl, bz⟩
                                      have HBZ : Hid (Below w.heap.size w wz) := andThen HBW.out bz
                                      clear bz
                                      go_wp2_with fail
                                      go_ret
                                      exact ⟨rfl, HBZ.out⟩
end Go.Proofs.YtfnfdbmckpklmaaDoor
