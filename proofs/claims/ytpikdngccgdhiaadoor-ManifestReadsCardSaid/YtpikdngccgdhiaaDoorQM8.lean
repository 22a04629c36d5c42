import Derived.Test.YtpikdngccgdhiaaDoorQM6
import Derived.Test.YtpikdngccgdhiaaDoorQM4
/-
  ManifestChecks: the law.
-/
namespace Go.Proofs.YtpikdngccgdhiaaDoor
open Go Go.RowKit
open Wb

def twiceM : Mf := ⟨1, 3, 0, -1, [⟨1, 0, 0⟩]⟩
theorem twice_bad : chkM twiceM = 81 := by decide
theorem zero_bad : chkM zeroM = 80 := by decide
/-- the program's and the reference's Encode: the same bytes, the same error -/
theorem enc_both (m : Mf) (ht : m.t ≤ 9223372036854775807) : ∃ X : List Nat, X.length ≤ 5000 ∧
    (∀ (v : Value) (w : World), Tab w → SgsAt w v m.l → Calls Tryd.prog 10 #[mfv m v] w fun e w' => ∃ v', e = .returned (.tuple #[v', .int .i64 (chkM m : Int)]) ∧ Own w.heap.size w' v' X ∧ Below w.heap.size w w') ∧
    (∀ (v : Value) (w : World), SgsAt w v m.l → Calls Tryd.prog 16 #[mfv m v] w fun e w' => ∃ v', e = .returned (.tuple #[v', .int .i64 (chkM m : Int)]) ∧ Own w.heap.size w' v' X ∧ Below w.heap.size w w') := by
  by_cases hc : chkM m = 0
  · refine ⟨encM m, ?_, fun v w hT h => ?_, fun v w h => ?_⟩
    · have := bodyM_len hc ht
      unfold encM
      rw [fr_length]
      have h8 := Wn.uint_len3 (bodyM m).length (by omega)
      omega
    · rw [hc]
      exact encode_good m v w hT h hc ht
    · rw [hc]
      exact rencode8_good m v w h hc ht
  · refine ⟨[], by simp, fun v w hT h => ?_, fun v w h => ?_⟩
    · exact (encode_bad m v w h hc).mono fun e w' ⟨he, hb⟩ => ⟨_, he, ⟨World.ownsRow_nil _ _ _ _, fun x hx => by simp at hx⟩, hb⟩
    · exact (rencode8_bad m v w h hc).mono fun e w' ⟨he, hb⟩ => ⟨_, he, ⟨World.ownsRow_nil _ _ _ _, fun x hx => by simp at hx⟩, hb⟩
/-- a row of bytes, its first k written over -/
def fil (X : List Nat) (t k : Nat) : List Nat := List.replicate k t ++ X.drop k
theorem fil_len {X : List Nat} {t k : Nat} (h : k ≤ X.length) : (fil X t k).length = X.length := by
  unfold fil
  rw [List.length_append, List.length_replicate, List.length_drop]
  omega
theorem fil_set {X : List Nat} {t k : Nat} (h : k < X.length) : (fil X t k).set k t = fil X t (k + 1) := by
  unfold fil
  refine List.ext_getElem? fun p => ?_
  rw [List.getElem?_set]
  by_cases hp : k = p
  · subst hp
    rw [if_pos rfl, if_pos (by rw [List.length_append, List.length_replicate, List.length_drop]; omega), List.getElem?_append_left (by rw [List.length_replicate]; omega), List.getElem?_replicate, if_pos (by omega)]
  · rw [if_neg hp]
    by_cases hlt : p < k
    · rw [List.getElem?_append_left (by rw [List.length_replicate]; omega), List.getElem?_append_left (by rw [List.length_replicate]; omega), List.getElem?_replicate, List.getElem?_replicate, if_pos hlt, if_pos (by omega)]
    · rw [List.getElem?_append_right (by rw [List.length_replicate]; omega), List.getElem?_append_right (by rw [List.length_replicate]; omega), List.length_replicate, List.length_replicate, List.getElem?_drop, List.getElem?_drop]
      congr 1
      omega
theorem fil_zero (X : List Nat) (t : Nat) : fil X t 0 = X := by simp [fil]
theorem fil_end (X : List Nat) (t : Nat) : fil X t X.length = mks 0 0 X.length t := by simp [fil, mks]
theorem own_fill {B : Nat} {w : World} {a : Option Addr} {cap : Nat} {X : List Nat} {t k : Nat} (h : Own B w (.slice a X.length cap) (fil X t k)) (hk : k < X.length) (ht : t < 256) (tv : Int) (htv : tv = (t : Int)) :
    ∃ g y, a = some ⟨g, 0, none⟩ ∧ w.cell? ⟨g, k, none⟩ = some (.int .u8 y) ∧ w.frozen? ⟨g, k, none⟩ = false ∧ Own B (w.setCell ⟨g, k, none⟩ (.int .u8 tv)) (.slice a X.length cap) (fil X t (k + 1)) ∧ w.grownBy (w.setCell ⟨g, k, none⟩ (.int .u8 tv)) (some g) ∧ B ≤ g := by
  subst htv
  have hl : (fil X t k).length = X.length := fil_len (by omega)
  rcases h.shape with ⟨_, h0⟩ | ⟨g, cap', e, hBg, _, hlc, hcm, hcell⟩
  · rw [h0] at hl
    simp at hl
    omega
  · rw [hl] at e
    simp only [Value.slice.injEq, true_and] at e
    obtain ⟨rfl, rfl⟩ := e
    rw [← hl] at h
    have h2 := Own.put (n := X.length) h k t (by omega) ht (by omega)
    rw [fil_set hk, hl] at h2
    exact ⟨g, _, rfl, hcell k (by omega), World.ownsRow.frozenAt h.row k, h2, (World.ownsRow.stored h.row k (.int .u8 (t : Int))).2, hBg⟩
theorem below_grown {w w1 w2 : World} {row : Option Nat} (h : Below w.heap.size w w1) (k : w1.grownBy w2 row) (hr : ∀ g, row = some g → w.heap.size ≤ g) : Below w.heap.size w w2 :=
  ⟨k.os.trans h.os, k.tape.trans h.tape, k.output.trans h.output, Nat.le_trans h.size k.size, fun g hg => (k.block g (Nat.lt_of_lt_of_le hg h.size) fun e => by have := hr g e.symm; omega).trans (h.block g hg)⟩
theorem grown_trans {a w w' : World} {row : Option Nat} (h : a.grownBy w row) (k : w.grownBy w' row) : a.grownBy w' row :=
  ⟨k.os.trans h.os, k.tape.trans h.tape, k.output.trans h.output, Nat.le_trans h.size k.size, fun g hg hn => (k.block g (Nat.lt_of_lt_of_le hg h.size) hn).trans (h.block g hg hn)⟩
theorem bs_rep (w : World) (n : Nat) (hn : n ≤ 100) (cs : Array Value) (hcs : cs.toList = bv (List.replicate n 225)) : Bs (w.alloc (.cells cs 5)) (.slice (some ⟨w.heap.size, 0, none⟩) n n) (List.replicate n 225) := by
  have h := (Own.lit (B := 0) w (List.replicate n 225) (fun x hx => by rw [(List.mem_replicate.1 hx).2]; omega) (Nat.zero_le _) (by rw [List.length_replicate]; unfold maxLen; omega) cs hcs).bs
  rw [List.length_replicate] at h
  exact h
theorem mks_all (n t : Nat) : ∀ x ∈ mks 0 0 n t, x = t := fun x hx => by
  simp [mks] at hx
  exact hx.2
set_option maxRecDepth 100000 in
set_option maxHeartbeats 8000000 in
theorem mchecks_any (m : Mf) (v : Value) (w : World) (hT : Tab w) (h : SgsAt w v m.l) (hz : NoneZ v) (ht : m.t ≤ 9223372036854775807) :
    Calls Tryd.prog 4 #[mfv m v] w fun e w' => e = .returned (.bool true) ∧ Below w.heap.size w w' := by
  have hin := info5
  have HTB : Hid (∀ w', Below w.heap.size w w' → Tab w') := fun w' hb => hT.kept hb
  have HCU : Hid (∀ w', Below w.heap.size w w' → Calls Tryd.prog 7 #[mfv m v] w' fun e w'' => ∃ v', e = .returned (mfv ⟨m.g, m.v, m.x, m.t, m.l.take 300⟩ v') ∧ (∀ w2, Below w.heap.size w w2 → SgsAt w2 v' (m.l.take 300)) ∧ NoneZ v' ∧ Below w'.heap.size w' w'') := fun w' _ => cutSegs2_any m v w w' h hz
  have HSM : Hid (∀ w', Calls Tryd.prog 9 #[] w' fun e w'' => ∃ v, e = .returned (.agg #[.int .i64 1, .int .i64 3, .int .i64 2, .int .i64 0, v]) ∧ SgsAt w'' v smallM.l ∧ Below w'.heap.size w' w'') := fun w' => small_any w'
  have HCS : Hid (∀ w' v, SgsAt w' v smallM.l → Calls Tryd.prog 8 #[.agg #[.int .i64 1, .int .i64 3, .int .i64 2, .int .i64 0, v]] w' fun e w'' => e = .returned (.int .i64 0) ∧ Below w'.heap.size w' w'') := fun w' v hs => by
    have h9 := check_any smallM v w' hs
    rw [small_ok] at h9
    exact h9
  have HCZ : Hid (∀ w', Calls Tryd.prog 8 #[.agg #[.int .i64 0, .int .i64 0, .int .i64 0, .int .i64 0, .slice none 0 0]] w' fun e w'' => e = .returned (.int .i64 80) ∧ Below w'.heap.size w' w'') := fun w' => by
    have h9 := check_any zeroM (.slice none 0 0) w' ⟨none, 0, rfl, Nat.le_refl _, Nat.zero_le _, fun k s hk => by simp [zeroM] at hk⟩
    rw [zero_bad] at h9
    exact h9
  have HCT : Hid (∀ w' v, SgsAt w' v smallM.l → Calls Tryd.prog 8 #[.agg #[.int .i64 1, .int .i64 3, .int .i64 0, .int .i64 (-1), v]] w' fun e w'' => e = .returned (.int .i64 81) ∧ Below w'.heap.size w' w'') := fun w' v hs => by
    have h9 := check_any twiceM v w' hs
    rw [twice_bad] at h9
    exact h9
  have HRT : Hid (∀ w' v, SgsAt w' v smallM.l → Calls Tryd.prog 14 #[.agg #[.int .i64 1, .int .i64 3, .int .i64 0, .int .i64 (-1), v]] w' fun e w'' => e = .returned (.int .i64 81) ∧ Below w'.heap.size w' w'') := fun w' v hs => by
    have h9 := rcheck8_any twiceM v w' hs
    rw [twice_bad] at h9
    exact h9
  have HL3 : Hid ((m.l.take 300).length ≤ 300) := by
    show _ ≤ _
    rw [List.length_take]
    omega
  obtain ⟨ao, cap, rfl, _, _, _⟩ := h
  obtain ⟨g, vv, x, t, l⟩ := m
  unfold mfv at HCU ⊢
  simp only at *
  generalize l.take 300 = lt at *
  have HMB : Hid (∀ w', Below (w.alloc (.cells #[.int .i64 g, .int .i64 vv, .int .i64 x, .int .i64 t, .slice ao l.length cap] 24)).heap.size (w.alloc (.cells #[.int .i64 g, .int .i64 vv, .int .i64 x, .int .i64 t, .slice ao l.length cap] 24)) w' → Mb w' w.heap.size ⟨g, vv, x, t, []⟩ (.slice ao l.length cap)) := fun w' h => (mb_new w ⟨g, vv, x, t, []⟩ _ 24).block (h.block _ (by rw [heap1]; omega))
  have HW0 : Hid (∀ w', Below (w.alloc (.cells #[.int .i64 g, .int .i64 vv, .int .i64 x, .int .i64 t, .slice ao l.length cap] 24)).heap.size (w.alloc (.cells #[.int .i64 g, .int .i64 vv, .int .i64 x, .int .i64 t, .slice ao l.length cap] 24)) w' → Below w.heap.size w w') := fun w' h => andThen (up0 w _) h
  clear hT hz
  go_enter Tryd.func4, Tryd.ntmps4
  go_wp2_with fail
  refine (HSM.out _).mono ?_
  rintro e w1 ⟨v1, rfl, hs1, b1⟩
  obtain ⟨a1, c1, e1⟩ : ∃ a1, ∃ c1 : Nat, v1 = .slice a1 1 c1 := by
    obtain ⟨a1, c1, e, _⟩ := hs1
    exact ⟨a1, c1, e⟩
  subst e1
  have HS1 : Hid (SgsAt w1 (.slice a1 1 c1) smallM.l) := hs1
  clear hs1
  go_wp2_with fail
  refine (HCS.out _ _ HS1.out).mono ?_
  rintro e w2 ⟨rfl, b2⟩
  have B2 := andThen b1 b2
  clear b1 b2 HS1
  go_wp2_with fail
  refine (HCZ.out _).mono ?_
  rintro e w3 ⟨rfl, b3⟩
  have B3 := andThen B2 b3
  clear B2 b3 HCZ
  go_wp2_with fail
  refine (HSM.out _).mono ?_
  rintro e w4 ⟨v4, rfl, hs4, b4⟩
  have B4 := andThen B3 b4
  obtain ⟨a4, c4, e4⟩ : ∃ a4, ∃ c4 : Nat, v4 = .slice a4 1 c4 := by
    obtain ⟨a4, c4, e, _⟩ := hs4
    exact ⟨a4, c4, e⟩
  subst e4
  have HS4 : Hid (∀ o, SgsAt (w4.alloc o) (.slice a4 1 c4) smallM.l) := fun o => hs4.kept (up0 _ _)
  clear hs4 b4 B3
  go_upto_region 6 with fail
  obtain ⟨WT, hWT⟩ : ∃ WT, WT = w4.alloc (.cells #[.int .i64 1, .int .i64 3, .int .i64 0, .int .i64 (-1), .slice a4 1 c4] 24) := ⟨_, rfl⟩
  have BT : Below (w.alloc (.cells #[.int .i64 g, .int .i64 vv, .int .i64 x, .int .i64 t, .slice ao l.length cap] 24)).heap.size (w.alloc (.cells #[.int .i64 g, .int .i64 vv, .int .i64 x, .int .i64 t, .slice ao l.length cap] 24)) WT := by rw [hWT]; exact up B4 _
  have hmt : Mb WT w4.heap.size ⟨1, 3, 0, -1, []⟩ (.slice a4 1 c4) := by rw [hWT]; exact mb_new w4 ⟨1, 3, 0, -1, []⟩ _ 24
  have hst : SgsAt WT (.slice a4 1 c4) smallM.l := by rw [hWT]; exact HS4.out _
  have htl : w4.heap.size < WT.heap.size := by rw [hWT, heap1]; omega
  rw [← hWT]
  obtain ⟨gT, hgT⟩ : ∃ gT, gT = w4.heap.size := ⟨_, rfl⟩
  rw [← hgT] at hmt htl ⊢
  have HCE : Hid (∀ w', Below WT.heap.size WT w' → w'.cell? ⟨gT, 0, none⟩ = some (.int .i64 1) ∧ w'.cell? ⟨gT, 1, none⟩ = some (.int .i64 3) ∧ w'.cell? ⟨gT, 2, none⟩ = some (.int .i64 0) ∧ w'.cell? ⟨gT, 3, none⟩ = some (.int .i64 (-1)) ∧ w'.cell? ⟨gT, 4, none⟩ = some (.slice a4 1 c4)) := fun w' hb => (hmt.block (hb.block _ htl)).cells
  have HST : Hid (∀ w', Below WT.heap.size WT w' → SgsAt w' (.slice a4 1 c4) smallM.l) := fun w' hb => hst.kept hb
  have hbel : Below WT.heap.size WT WT := Below.refl _ _
  clear hWT hmt hst htl hgT HS4 B4
  obtain ⟨x0, x1, x2, x3, x4⟩ := HCE.out _ hbel
  go_region_held (fun w' => w'.cell? ⟨gT, 0, none⟩ = some (.int .i64 1) ∧ w'.cell? ⟨gT, 1, none⟩ = some (.int .i64 3) ∧ w'.cell? ⟨gT, 2, none⟩ = some (.int .i64 0) ∧ w'.cell? ⟨gT, 3, none⟩ = some (.int .i64 (-1)) ∧ w'.cell? ⟨gT, 4, none⟩ = some (.slice a4 1 c4)) (first | (exact HCE.out _ (Below.drew hbel)) | (exact HCE.out _ B6) | (exact HCE.out _ B5))
    (first
      | (go_at_call 8; refine (HCT.out _ _ ?_).mono ?_; (exact HST.out _ (Below.drew hbel)); rintro e w5 ⟨rfl, b5⟩; have B5 := andThen (Below.drew hbel) b5)
      | (go_at_call 14; refine (HRT.out _ _ ?_).mono ?_; (exact HST.out _ B5); rintro e w6 ⟨rfl, b6⟩; have B6 := andThen B5 b6))
  clear x0 x1 x2 x3 x4 HCE HST hbel b5 b6 B5
  have M6 := andThen BT B6
  have hm1 := HMB.out _ M6
  obtain ⟨r0, r1, r2, r3, r4⟩ := hm1.cells
  simp only at r0 r1 r2 r3 r4
  have HB6 : Hid (Below w.heap.size w w6) := HW0.out _ M6
  clear B6 BT HCT HRT
  go_wp2_with fail
  refine (HCU.out _ HB6.out).mono ?_
  rintro e w7 ⟨v7, rfl, hs7, hz7, b7⟩
  obtain ⟨a7, c7, e7⟩ : ∃ a7, ∃ c7 : Nat, v7 = .slice a7 lt.length c7 := by
    obtain ⟨a7, c7, e, _⟩ := hs7 w (Below.refl _ _)
    exact ⟨a7, c7, e⟩
  subst e7
  have M7 := andThen M6 b7
  have hm7 := HMB.out _ M7
  have z0 := hm7.frozen 0
  have z1 := hm7.frozen 1
  have z2 := hm7.frozen 2
  have z3 := hm7.frozen 3
  have z4 := hm7.frozen 4
  obtain ⟨W, hW⟩ : ∃ W, W = store5 w7 w.heap.size ⟨g, vv, x, t, lt⟩ (.slice a7 lt.length c7) := ⟨_, rfl⟩
  have hWM : Mb W w.heap.size ⟨g, vv, x, t, lt⟩ (.slice a7 lt.length c7) := by rw [hW]; exact hm7.store ⟨g, vv, x, t, lt⟩ _
  have hWB : Below w.heap.size w W := by rw [hW]; exact store5_below (HW0.out _ M7) (Nat.le_refl _) _ _
  have hWL : w.heap.size < W.heap.size := by
    have h9 := M7.size
    rw [heap1] at h9
    rw [hW]
    simp [store5, World.setCell]
    omega
  have hWG : SgsAt W (.slice a7 lt.length c7) lt := hs7 W hWB
  obtain ⟨q0, q1, q2, q3, q4⟩ := hm7.cells
  simp only at q0 q1 q2 q3 q4
  have HNZ : Hid (NoneZ (.slice a7 lt.length c7)) := hz7
  have HWE : Hid (W = (((((w7.setCell ⟨w.heap.size, 0, none⟩ (.int .i64 g)).setCell ⟨w.heap.size, 1, none⟩ (.int .i64 vv)).setCell ⟨w.heap.size, 2, none⟩ (.int .i64 x)).setCell ⟨w.heap.size, 3, none⟩ (.int .i64 t)).setCell ⟨w.heap.size, 4, none⟩ (.slice a7 lt.length c7))) := hW
  have HF : Hid (Mb W w.heap.size ⟨g, vv, x, t, lt⟩ (.slice a7 lt.length c7) ∧ Below w.heap.size w W ∧ w.heap.size < W.heap.size ∧ SgsAt W (.slice a7 lt.length c7) lt) := ⟨hWM, hWB, hWL, hWG⟩
  clear hm1 hm7 b7 hs7 HMB HCU hW hWM hWB hWL hWG HW0 hz7 M6 M7 HB6 r0 r1 r2 r3 r4
  go_upto_region 9 with fail
  rw [← HWE.out]
  clear HWE z0 z1 z2 z3 z4 q0 q1 q2 q3 q4
  have HLA : Hid (Calls Tryd.prog 15 #[(.agg #[.int .i64 g, .int .i64 vv, .int .i64 x, .int .i64 t, .slice a7 lt.length c7])] W fun e w' => ∃ a9, ∃ c9 : Nat, e = .returned (.agg #[.int .i64 g, .int .i64 vv, .int .i64 x, .int .i64 t, .slice a9 lt.length c9]) ∧ SgR W.heap.size w' (.slice a9 (lt.length + 2) c9) (lt ++ marksS) ∧ Below W.heap.size W w') := laidSegs_any ⟨g, vv, x, t, lt⟩ _ W HF.out.2.2.2 HNZ.out HL3.out
  obtain ⟨q0, q1, q2, q3, q4⟩ := HF.out.1.cells
  simp only at q0 q1 q2 q3 q4
  go_wp2_with fail
  refine HLA.out.mono ?_
  rintro e w9 ⟨a9, c9, rfl, hr9, b9⟩
  clear q0 q1 q2 q3 q4 HLA HNZ HL3
  have HR9 : Hid (SgR W.heap.size w9 (.slice a9 (lt.length + 2) c9) (lt ++ marksS) ∧ Below W.heap.size W w9) := ⟨hr9, b9⟩
  clear hr9 b9
  go_upto_region 10 with fail
  obtain ⟨WI, hWI⟩ : ∃ WI, WI = w9.alloc (.cells #[.int .i64 g, .int .i64 vv, .int .i64 x, .int .i64 t, .slice a9 lt.length c9] 24) := ⟨_, rfl⟩
  have BI : Below W.heap.size W WI := by rw [hWI]; exact up HR9.out.2 _
  have hmi : Mb WI w9.heap.size ⟨g, vv, x, t, lt⟩ (.slice a9 lt.length c9) := by rw [hWI]; exact mb_new w9 ⟨g, vv, x, t, lt⟩ _ 24
  have hsi : SgsAt WI (.slice a9 (lt.length + 2) c9) (lt ++ marksS) := by
    rw [hWI]
    exact (HR9.out.1.kept (up0 _ _)).at
  have hil : w9.heap.size < WI.heap.size := by rw [hWI, heap1]; omega
  rw [← hWI]
  obtain ⟨gI, hgI⟩ : ∃ gI, gI = w9.heap.size := ⟨_, rfl⟩
  rw [← hgI] at hmi hil ⊢
  have HIB : Hid (∀ w', Below WI.heap.size WI w' → w'.cell? ⟨gI, 0, none⟩ = some (.int .i64 g) ∧ w'.cell? ⟨gI, 1, none⟩ = some (.int .i64 vv) ∧ w'.cell? ⟨gI, 2, none⟩ = some (.int .i64 x) ∧ w'.cell? ⟨gI, 3, none⟩ = some (.int .i64 t) ∧ w'.cell? ⟨gI, 4, none⟩ = some (.slice a9 lt.length c9)) := fun w' hb => (hmi.block (hb.block _ hil)).cells
  have HMX : Hid (∀ w', Below WI.heap.size WI w' → w'.cell? ⟨w.heap.size, 0, none⟩ = some (.int .i64 g) ∧ w'.cell? ⟨w.heap.size, 1, none⟩ = some (.int .i64 vv) ∧ w'.cell? ⟨w.heap.size, 2, none⟩ = some (.int .i64 x) ∧ w'.cell? ⟨w.heap.size, 3, none⟩ = some (.int .i64 t) ∧ w'.cell? ⟨w.heap.size, 4, none⟩ = some (.slice a7 lt.length c7)) := fun w' hb => (HF.out.1.block ((andThen BI hb).block _ HF.out.2.2.1)).cells
  have HIN : Hid (∀ w', Below WI.heap.size WI w' → SgsAt w' (.slice a9 (lt.length + 2) c9) (lt ++ marksS)) := fun w' hb => hsi.kept hb
  have HLT : Hid (∀ w', Below WI.heap.size WI w' → SgsAt w' (.slice a7 lt.length c7) lt) := fun w' hb => HF.out.2.2.2.kept (andThen BI hb)
  have HBE : Hid (∀ w', Below WI.heap.size WI w' → Below w.heap.size w w') := fun w' hb => andThen HF.out.2.1 (andThen BI hb)
  obtain ⟨X, hX, hE, hR⟩ := enc_both ⟨g, vv, x, t, lt⟩ ht
  have HCK : Hid (∀ w', Below WI.heap.size WI w' → Calls Tryd.prog 8 #[(.agg #[.int .i64 g, .int .i64 vv, .int .i64 x, .int .i64 t, .slice a9 lt.length c9])] w' fun e w'' => e = .returned (.int .i64 (chkM ⟨g, vv, x, t, lt⟩ : Int)) ∧ Below w'.heap.size w' w'') := fun w' hb => check_any ⟨g, vv, x, t, lt⟩ _ w' (head_at (HIN.out _ hb))
  have HRC : Hid (∀ w', Below WI.heap.size WI w' → Calls Tryd.prog 14 #[(.agg #[.int .i64 g, .int .i64 vv, .int .i64 x, .int .i64 t, .slice a7 lt.length c7])] w' fun e w'' => e = .returned (.int .i64 (chkM ⟨g, vv, x, t, lt⟩ : Int)) ∧ Below w'.heap.size w' w'') := fun w' hb => rcheck8_any ⟨g, vv, x, t, lt⟩ _ w' (HLT.out _ hb)
  have HEN : Hid (∀ w', Below WI.heap.size WI w' → Calls Tryd.prog 10 #[(.agg #[.int .i64 g, .int .i64 vv, .int .i64 x, .int .i64 t, .slice a9 lt.length c9])] w' fun e w'' => ∃ v', e = .returned (.tuple #[v', .int .i64 (chkM ⟨g, vv, x, t, lt⟩ : Int)]) ∧ Own w'.heap.size w'' v' X ∧ Below w'.heap.size w' w'') := fun w' hb => hE _ w' (HTB.out _ (HBE.out _ hb)) (head_at (HIN.out _ hb))
  have HRE : Hid (∀ w', Below WI.heap.size WI w' → Calls Tryd.prog 16 #[(.agg #[.int .i64 g, .int .i64 vv, .int .i64 x, .int .i64 t, .slice a7 lt.length c7])] w' fun e w'' => ∃ v', e = .returned (.tuple #[v', .int .i64 (chkM ⟨g, vv, x, t, lt⟩ : Int)]) ∧ Own w'.heap.size w'' v' X ∧ Below w'.heap.size w' w'') := fun w' hb => hR _ w' (HLT.out _ hb)
  have HIT : Hid (∀ w', Below WI.heap.size WI w' → Calls Tryd.prog 17 #[(.agg #[.int .i64 g, .int .i64 vv, .int .i64 x, .int .i64 t, .slice a9 lt.length c9]), (.agg #[.int .i64 g, .int .i64 vv, .int .i64 x, .int .i64 t, .slice a7 lt.length c7])] w' fun e w'' => e = .returned (.bool true) ∧ Below w'.heap.size w' w'') := fun w' hb => intactSegs_yes ⟨g, vv, x, t, lt⟩ _ _ _ w' (HIN.out _ hb) (HLT.out _ hb)
  generalize (chkM ⟨g, vv, x, t, lt⟩ : Int) = ce at *
  clear hWI BI hmi hsi hil hgI HF HR9 HIN HLT hE hR
  obtain ⟨q0, q1, q2, q3, q4⟩ := HIB.out _ (Below.refl _ _)
  go_wp2_with fail
  refine (HCK.out _ (Below.refl _ _)).mono ?_
  rintro e w10 ⟨rfl, B10⟩
  clear q0 q1 q2 q3 q4 HCK
  obtain ⟨q0, q1, q2, q3, q4⟩ := HIB.out _ B10
  go_wp2_with fail
  refine (HEN.out _ B10).mono ?_
  rintro e w11 ⟨v11, rfl, ho11, b11⟩
  obtain ⟨ab, cb, e11, hb1, hb2, -, -⟩ := ho11.bs.shape
  subst e11
  unfold maxLen at hb2
  have B11 := andThen B10 b11
  have HO11 : Hid (Own w10.heap.size w11 (.slice ab X.length cb) X ∧ WI.heap.size ≤ w10.heap.size) := ⟨ho11, B10.size⟩
  clear q0 q1 q2 q3 q4 ho11 b11 B10
  obtain ⟨q0, q1, q2, q3, q4⟩ := HMX.out _ B11
  go_wp2_with fail
  refine (HRE.out _ B11).mono ?_
  rintro e w12 ⟨v12, rfl, ho12, b12⟩
  obtain ⟨ac, cc, e12, hc1, hc2, -, -⟩ := ho12.bs.shape
  subst e12
  unfold maxLen at hc2
  have B12 := andThen B11 b12
  have HO12 : Hid (Own w10.heap.size w12 (.slice ab X.length cb) X ∧ Own w11.heap.size w12 (.slice ac X.length cc) X ∧ (∀ gb, (Value.slice ab X.length cb).ownBlock = some gb → gb < w11.heap.size)) := ⟨HO11.out.1.kept b12, ho12, fun gb hgb => (World.ownsRow.lt HO11.out.1.row gb hgb).2⟩
  clear q0 q1 q2 q3 q4 ho12 b12 B11
  obtain ⟨q0, q1, q2, q3, q4⟩ := HMX.out _ B12
  go_wp2_with fail
  refine (HRC.out _ B12).mono ?_
  rintro e w13 ⟨rfl, b13⟩
  have HSB : Hid (Calls Tryd.prog 13 #[.slice ab X.length cb, .slice ac X.length cc] w13 fun e w'' => e = .returned (.bool true) ∧ Below w13.heap.size w13 w'') := by
    have h9 := sameB_any (.slice ab X.length cb) (.slice ac X.length cc) X X w13 (HO12.out.1.kept b13).bs (HO12.out.2.1.kept b13).bs
    rw [decide_eq_true rfl] at h9
    exact h9
  have B13 := andThen B12 b13
  clear q0 q1 q2 q3 q4 HRC
  go_wp2_with fail
  refine HSB.out.mono ?_
  rintro e w14 ⟨rfl, b14⟩
  have B14 := andThen B13 b14
  have N14 := andThen b13 b14
  clear b13 b14 HSB B13
  obtain ⟨q0, q1, q2, q3, q4⟩ := HIB.out _ B14
  obtain ⟨r0, r1, r2, r3, r4⟩ := HMX.out _ B14
  go_wp2_with fail
  refine (HIT.out _ B14).mono ?_
  rintro e w15 ⟨rfl, b15⟩
  have N15 := andThen N14 b15
  clear q0 q1 q2 q3 q4 r0 r1 r2 r3 r4 HIT B14 N14 b15 HMX
  go_upto_region 15 with fail
  have HOB : Hid (Own WI.heap.size w15 (.slice ab X.length cb) (fil X 225 0)) := by
    show Own _ _ _ _
    rw [fil_zero]
    exact own_weakM (HO12.out.1.kept N15) HO11.out.2
  have HQ : Hid (∀ w', w15.grownBy w' (Value.slice ab X.length cb).ownBlock → Below WI.heap.size WI w' ∧ Bs w' (.slice ac X.length cc) X) := fun w' hg => by
    refine ⟨below_grown (andThen B12 N15) hg fun g e => Nat.le_trans HO11.out.2 (World.ownsRow.lt HO12.out.1.row g e).1, ?_⟩
    have hc := HO12.out.2.1.kept N15
    refine (own_kept2 hc fun g e => hg.block g (World.ownsRow.lt hc.row g e).2 fun e2 => ?_).bs
    have h1 := HO12.out.2.2 g e2.symm
    have h2 := (World.ownsRow.lt hc.row g e).1
    omega
  clear HO11 HO12 B12 N15
  go_wp2
  go_loopw [10] (fun i wr => ∃ (k : Nat), k ≤ X.length ∧ i = .int .i64 (k : Int) ∧ Own WI.heap.size wr (.slice ab X.length cb) (fil X 225 k) ∧ w15.grownBy wr (Value.slice ab X.length cb).ownBlock) (fun i _ => X.length - (intOf i).toNat)
  case atStart => exact ⟨0, Nat.zero_le _, rfl, HOB.out, World.grownBy.refl _ _⟩
  case round =>
    obtain ⟨k, hk, rfl, ho, hg⟩ := hrel
    clear HOB
    by_cases hlt : k < X.length
    · obtain ⟨gb, y, rfl, cy, fy, ho2, hg2, hgB⟩ := own_fill ho hlt (by decide) 225 rfl
      have R : Hid (Own WI.heap.size (wr.setCell ⟨gb, k, none⟩ (.int .u8 225)) (.slice (some ⟨gb, 0, none⟩) X.length cb) (fil X 225 (k + 1)) ∧ w15.grownBy (wr.setCell ⟨gb, k, none⟩ (.int .u8 225)) (Value.slice (some ⟨gb, 0, none⟩) X.length cb).ownBlock) := ⟨ho2, grown_trans hg hg2⟩
      clear ho hg ho2 hg2 hgB
      go_wp2
      go_roundw
      case rel => exact ⟨k + 1, by omega, by go_num, R.out.1, R.out.2⟩
      case measure => simp [intOf]; omega
    · obtain rfl : k = X.length := by omega
      rw [fil_end] at ho
      have HO : Hid (∀ o, Own WI.heap.size (wr.alloc o) (.slice ab X.length cb) (mks 0 0 X.length 225) ∧ WI.heap.size ≤ (wr.alloc o).heap.size ∧ w15.grownBy (wr.alloc o) (Value.slice ab X.length cb).ownBlock) := fun o => by
        have h1 := ho.kept (up0 wr o)
        have h2 := (HQ.out _ hg).1.size
        refine ⟨h1, ?_, grown_trans hg (World.grownBy_alloc _ _ _)⟩
        rw [heap1]
        omega
      clear ho hg hlt hk
      go_wp2_with (at_builtin; refine wpList_append_marks _ rfl (.tmp 80) (.tmp 81) 25 rfl WI.heap.size hin Tryd.underlying25 _ 0 0 X.length 225 1 rfl (HO.out _).1 _ rfl (bs_rep wr 1 (by decide) _ rfl) (by decide) (by omega) (HO.out _).2.1 ?_)
      intro b1 w16 ho1 hg1 hat1 hv1
      have HO1 : Hid (∀ o, Own WI.heap.size (w16.alloc o) (.slice ab X.length cb) (mks 0 0 X.length 225) ∧ Own WI.heap.size (w16.alloc o) b1 (mks 0 0 (X.length + 1) 225) ∧ WI.heap.size ≤ (w16.alloc o).heap.size ∧ w15.grownBy (w16.alloc o) (Value.slice ab X.length cb).ownBlock) := fun o => by
        refine ⟨(hv1 _ _ (HO.out _).1).kept (up0 _ _), ho1.kept (up0 _ _), ?_, grown_trans (grown_trans (HO.out _).2.2 hg1) (World.grownBy_alloc _ _ _)⟩
        have h1 := (HO.out (.cells #[.int .u8 225] 5)).2.1
        have h2 := hg1.size
        have h3 := heap1 w16 o
        omega
      obtain ⟨ab1, n1, cb1, e1⟩ := own_slice ho1
      subst e1
      clear ho1 hg1 hat1 hv1 HO
      go_wp2_with (at_builtin; refine wpList_append_marks _ rfl (.tmp 83) (.tmp 84) 25 rfl WI.heap.size hin Tryd.underlying25 _ 0 0 X.length 225 3 rfl (HO1.out _).1 _ rfl (bs_rep w16 3 (by decide) _ rfl) (by decide) (by omega) (HO1.out _).2.2.1 ?_)
      intro b3 w17 ho3 hg3 hat3 hv3
      have HK0 : Hid (Own WI.heap.size w17 (.slice ab X.length cb) (mks 0 0 X.length 225) ∧ Own WI.heap.size w17 (.slice ab1 n1 cb1) (mks 0 0 (X.length + 1) 225) ∧ Own WI.heap.size w17 b3 (mks 0 0 (X.length + 3) 225) ∧ w15.grownBy w17 (Value.slice ab X.length cb).ownBlock) := ⟨hv3 _ _ (HO1.out _).1, hv3 _ _ (HO1.out _).2.1, ho3, grown_trans (HO1.out _).2.2.2 hg3⟩
      obtain ⟨ab3, n3, cb3, e3⟩ := own_slice ho3
      subst e3
      clear ho3 hg3 hat3 hv3 HO1
      have HK : Hid (∀ w', Below w17.heap.size w17 w' → Below WI.heap.size WI w' ∧ Bs w' (.slice ab X.length cb) (mks 0 0 X.length 225) ∧ Bs w' (.slice ab1 n1 cb1) (mks 0 0 (X.length + 1) 225) ∧ Bs w' (.slice ab3 n3 cb3) (mks 0 0 (X.length + 3) 225) ∧ Bs w' (.slice ac X.length cc) X) := fun w' hb => ⟨andThen (HQ.out _ HK0.out.2.2.2).1 hb, (HK0.out.1.kept hb).bs, (HK0.out.2.1.kept hb).bs, (HK0.out.2.2.1.kept hb).bs, (HQ.out _ HK0.out.2.2.2).2.kept hb⟩
      clear HK0 HQ
      obtain ⟨Y, hY, hE, hR⟩ := enc_both smallM (by decide)
      rw [small_ok] at hE hR
      have HES : Hid (∀ (w' : World) (v : Value), Below WI.heap.size WI w' → SgsAt w' v smallM.l → Calls Tryd.prog 10 #[(.agg #[.int .i64 1, .int .i64 3, .int .i64 2, .int .i64 0, v])] w' fun e w'' => ∃ v', e = .returned (.tuple #[v', .int .i64 0]) ∧ Own w'.heap.size w'' v' Y ∧ Below w'.heap.size w' w'') := fun w' v hb hs => hE v w' (HTB.out _ (HBE.out _ hb)) hs
      have HRS : Hid (∀ (w' : World) (v : Value), SgsAt w' v smallM.l → Calls Tryd.prog 16 #[(.agg #[.int .i64 1, .int .i64 3, .int .i64 2, .int .i64 0, v])] w' fun e w'' => ∃ v', e = .returned (.tuple #[v', .int .i64 0]) ∧ Own w'.heap.size w'' v' Y ∧ Below w'.heap.size w' w'') := fun w' v hs => hR v w' hs
      clear hE hR
      go_wp2_with fail
      refine (HSM.out _).mono ?_
      rintro e w18 ⟨v18, rfl, hs18, B18⟩
      obtain ⟨a18, c18, e18⟩ : ∃ a18, ∃ c18 : Nat, v18 = .slice a18 1 c18 := by
        obtain ⟨a18, c18, e, _⟩ := hs18
        exact ⟨a18, c18, e⟩
      subst e18
      have HS18 : Hid (SgsAt w18 (.slice a18 1 c18) smallM.l) := hs18
      clear hs18
      go_wp2_with fail
      refine (HES.out _ _ (HK.out _ B18).1 HS18.out).mono ?_
      rintro e w19 ⟨v19, rfl, ho19, b19⟩
      obtain ⟨az, cs, e19, hs1, hs2, -, -⟩ := ho19.bs.shape
      subst e19
      unfold maxLen at hs2
      have B19 := andThen B18 b19
      have HO19 : Hid (Own w17.heap.size w19 (.slice az Y.length cs) Y) := own_weakM ho19 B18.size
      clear ho19 b19 B18 HS18 HES
      go_wp2_with fail
      refine (HSM.out _).mono ?_
      rintro e w20 ⟨v20, rfl, hs20, b20⟩
      obtain ⟨a20, c20, e20⟩ : ∃ a20, ∃ c20 : Nat, v20 = .slice a20 1 c20 := by
        obtain ⟨a20, c20, e, _⟩ := hs20
        exact ⟨a20, c20, e⟩
      subst e20
      have HS20 : Hid (SgsAt w20 (.slice a20 1 c20) smallM.l) := hs20
      have B20 := andThen B19 b20
      have HO20 : Hid (Own w17.heap.size w20 (.slice az Y.length cs) Y) := HO19.out.kept b20
      clear hs20 HO19 B19 b20
      go_wp2_with fail
      refine (HRS.out _ _ HS20.out).mono ?_
      rintro e w21 ⟨v21, rfl, ho21, b21⟩
      obtain ⟨at1, n21, ct1, e21⟩ := own_slice ho21
      subst e21
      have B21 := andThen B20 b21
      have HO21 : Hid (Own w17.heap.size w21 (.slice az Y.length cs) Y) := HO20.out.kept b21
      have HSB : Hid (Calls Tryd.prog 13 #[.slice az Y.length cs, .slice at1 n21 ct1] w21 fun e w'' => e = .returned (.bool true) ∧ Below w21.heap.size w21 w'') := by
        have h9 := sameB_any (.slice az Y.length cs) (.slice at1 n21 ct1) Y Y w21 HO21.out.bs ho21.bs
        rw [decide_eq_true rfl] at h9
        exact h9
      clear ho21 b21 B20 HO20 HS20 HRS HSM
      go_wp2_with fail
      refine HSB.out.mono ?_
      rintro e w22 ⟨rfl, b22⟩
      have B22 := andThen B21 b22
      have HO22 : Hid (Own w17.heap.size w22 (.slice az Y.length cs) (fil Y 226 0) ∧ Below w17.heap.size w17 w22) := by
        refine ⟨?_, B22⟩
        rw [fil_zero]
        exact HO21.out.kept b22
      clear HSB b22 B21 B22 HO21
      go_wp2
      go_loopw [15] (fun i wr => ∃ (k : Nat), k ≤ Y.length ∧ i = .int .i64 (k : Int) ∧ Own w17.heap.size wr (.slice az Y.length cs) (fil Y 226 k) ∧ Below w17.heap.size w17 wr) (fun i _ => Y.length - (intOf i).toNat)
      case atStart => exact ⟨0, Nat.zero_le _, rfl, HO22.out.1, HO22.out.2⟩
      case round =>
        obtain ⟨k, hk, rfl, ho, hg⟩ := hrel
        clear HO22
        by_cases hlt : k < Y.length
        · obtain ⟨gs, y, rfl, cy, fy, ho2, hg2, hgB⟩ := own_fill ho hlt (by decide) 226 rfl
          have R : Hid (Own w17.heap.size (wr.setCell ⟨gs, k, none⟩ (.int .u8 226)) (.slice (some ⟨gs, 0, none⟩) Y.length cs) (fil Y 226 (k + 1)) ∧ Below w17.heap.size w17 (wr.setCell ⟨gs, k, none⟩ (.int .u8 226))) := ⟨ho2, Below.setCell hg (show w17.heap.size ≤ gs from hgB) _⟩
          clear ho hg ho2 hg2 hgB
          go_wp2
          go_roundw
          case rel => exact ⟨k + 1, by omega, by go_num, R.out.1, R.out.2⟩
          case measure => simp [intOf]; omega
        · obtain rfl : k = Y.length := by omega
          rw [fil_end] at ho
          have HO : Hid (Own w17.heap.size wr (.slice az Y.length cs) (mks 0 0 Y.length 226)) := ho
          have B23 := (HK.out _ hg).1
          obtain ⟨q0, q1, q2, q3, q4⟩ := HIB.out _ B23
          clear ho hlt hk
          go_wp2_with fail
          refine (HEN.out _ B23).mono ?_
          rintro e w24 ⟨v24, rfl, ho24, b24⟩
          obtain ⟨ad, nd, cd, e24⟩ := own_slice ho24
          subst e24
          have N24 := andThen hg b24
          have HSB : Hid (Calls Tryd.prog 13 #[.slice ad nd cd, .slice ac X.length cc] w24 fun e w'' => e = .returned (.bool true) ∧ Below w24.heap.size w24 w'') := by
            have h9 := sameB_any (.slice ad nd cd) (.slice ac X.length cc) X X w24 ho24.bs (HK.out _ N24).2.2.2.2
            rw [decide_eq_true rfl] at h9
            exact h9
          have HA1 : Hid (∀ w', Below w17.heap.size w17 w' → Calls Tryd.prog 18 #[.slice ab X.length cb, .int .u8 225] w' fun e w'' => e = .returned (.bool true) ∧ Below w'.heap.size w' w'') := fun w' hb => all_yes _ _ 225 w' (HK.out _ hb).2.1 (mks_all _ _)
          have HA2 : Hid (∀ w', Below w17.heap.size w17 w' → Calls Tryd.prog 18 #[.slice ab1 n1 cb1, .int .u8 225] w' fun e w'' => e = .returned (.bool true) ∧ Below w'.heap.size w' w'') := fun w' hb => all_yes _ _ 225 w' (HK.out _ hb).2.2.1 (mks_all _ _)
          have HA3 : Hid (∀ w', Below w17.heap.size w17 w' → Calls Tryd.prog 18 #[.slice ab3 n3 cb3, .int .u8 225] w' fun e w'' => e = .returned (.bool true) ∧ Below w'.heap.size w' w'') := fun w' hb => all_yes _ _ 225 w' (HK.out _ hb).2.2.2.1 (mks_all _ _)
          have HA4 : Hid (∀ w', Below wr.heap.size wr w' → Calls Tryd.prog 18 #[.slice az Y.length cs, .int .u8 226] w' fun e w'' => e = .returned (.bool true) ∧ Below w'.heap.size w' w'') := fun w' hb => all_yes _ _ 226 w' (HO.out.kept hb).bs (mks_all _ _)
          clear q0 q1 q2 q3 q4 ho24 HO HEN HIB B23
          go_wp2_with fail
          refine HSB.out.mono ?_
          rintro e w25 ⟨rfl, b25⟩
          have N25 := andThen N24 b25
          have M25 := andThen b24 b25
          clear b24 b25 N24 HSB
          go_wp2_with fail
          refine (HA1.out _ N25).mono ?_
          rintro e w26 ⟨rfl, b26⟩
          have N26 := andThen N25 b26
          have M26 := andThen M25 b26
          clear b26 N25 M25 HA1
          go_wp2_with fail
          refine (HA2.out _ N26).mono ?_
          rintro e w27 ⟨rfl, b27⟩
          have N27 := andThen N26 b27
          have M27 := andThen M26 b27
          clear b27 N26 M26 HA2
          go_wp2_with fail
          refine (HA3.out _ N27).mono ?_
          rintro e w28 ⟨rfl, b28⟩
          have N28 := andThen N27 b28
          have M28 := andThen M27 b28
          clear b28 N27 M27 HA3
          go_wp2_with fail
          refine (HA4.out _ M28).mono ?_
          rintro e w29 ⟨rfl, b29⟩
          have HB29 : Hid (Below w.heap.size w w29) := HBE.out _ (HK.out _ (andThen N28 b29)).1
          clear b29 N28 M28 HA4
          go_wp2
          go_ret
          exact ⟨rfl, HB29.out⟩
end Go.Proofs.YtpikdngccgdhiaaDoor
