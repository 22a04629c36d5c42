import Derived.Deep.RegionHeld3
import Derived.Deep.CutRange
import Derived.Test.YtpikdngccgdhiaaDoorQM7
import Derived.Test.YtpikdngccgdhiaaDoorQM8
/-
  ManifestReads: the law (draft: its first regions).
-/
namespace Go.Proofs.YtpikdngccgdhiaaDoor
open Go Go.RowKit
open Wb

/-- what lies below n is as in A, what lies from A's end on as in M -/
def Fr (n : Nat) (A M w : World) : Prop := Below n A w ∧ M.heap.size ≤ w.heap.size ∧ ∀ q, A.heap.size ≤ q → q < M.heap.size → w.heap[q]? = M.heap[q]?
theorem Fr.grown {n : Nat} {A M w w' : World} {row : Option Nat} (h : Fr n A M w) (k : w.grownBy w' row) (hr : ∀ q, row = some q → n ≤ q ∧ (q < A.heap.size ∨ M.heap.size ≤ q)) (hn : n ≤ A.heap.size := by assumption) : Fr n A M w' := by
  refine ⟨⟨k.os.trans h.1.os, k.tape.trans h.1.tape, k.output.trans h.1.output, Nat.le_trans h.1.size k.size, fun q hq => ?_⟩, Nat.le_trans h.2.1 k.size, fun q h1 h2 => ?_⟩
  · have hs := h.1.size
    exact (k.block q (by omega) fun e => by have := hr q e.symm; omega).trans (h.1.block q hq)
  · exact (k.block q (Nat.lt_of_lt_of_le h2 h.2.1) fun e => by have := hr q e.symm; omega).trans (h.2.2 q h1 h2)
theorem Fr.below {n : Nat} {A M w w' : World} (h : Fr n A M w) (k : Below w.heap.size w w') (hn : n ≤ A.heap.size := by assumption) : Fr n A M w' :=
  ⟨h.1.trans (k.mono (Nat.le_trans hn h.1.size)), Nat.le_trans h.2.1 k.size, fun q h1 h2 => (k.block q (Nat.lt_of_lt_of_le h2 h.2.1)).trans (h.2.2 q h1 h2)⟩
set_option maxHeartbeats 1000000 in
theorem dec_len (b : List Nat) : (decM b).1.l.length ≤ 128 := by
  unfold decM
  split
  · exact Nat.zero_le _
  · split
    · exact Nat.zero_le _
    · split
      · exact Nat.zero_le _
      · split
        · exact Nat.zero_le _
        · rename_i h1 h2 h3 h4
          revert h4
          generalize (prs (rf b 0).1).1 = m
          intro h4
          exact (chk_parts (Classical.not_not.1 h4)).2.2.2.2.2.2.2.2.1
theorem pat_of {w : World} {gx n : Nat} {cs : Array Value} {t : TypeId} (h : w.heap[gx]? = some (.cells cs t)) (hcs : cs.toList = pat n) : ∀ (j : Nat) (u : Value), (pat n)[j]? = some u → w.cell? ⟨gx, j, none⟩ = some u := fun j u hj => by
  unfold World.cell?
  rw [h]
  rw [← hcs] at hj
  simpa using hj
theorem MkR.kept {B : Nat} {w w' : World} {v : Value} {n : Nat} (h : MkR B w v n) (hb : Below w.heap.size w w') : MkR B w' v n := mkR_of (h.sg.kept hb)
theorem MkR.shape {B : Nat} {w : World} {v : Value} {n : Nat} (h : MkR B w v n) : ∃ a, ∃ c : Nat, v = .slice a n c := by
  obtain ⟨a, c, e, _⟩ := h.sg.at
  rw [List.length_replicate] at e
  exact ⟨a, c, e⟩
theorem hp_drew (w : World) : w.drew.heap = w.heap := rfl
theorem hp_new (w : World) (o : Obj) (q : Nat) (h : q = w.heap.size) : (w.alloc o).heap[q]? = some o := by
  subst h
  show (w.heap.push o)[w.heap.size]? = some o
  simp
theorem hp_old (w : World) (o : Obj) (q : Nat) (h : q < w.heap.size) : (w.alloc o).heap[q]? = w.heap[q]? := alloc_old w o q h
theorem infoSg1 : (Tryd.prog.info? 46).map (·.size) = some 3 := by kernel_rfl

set_option maxRecDepth 100000 in
set_option maxHeartbeats 8000000 in
theorem mreads_any (bw : Value) (b : List Nat) (w : World) (hT : Tab w) (hb : Bs w bw b)
    (hRD : ∀ (v : Value) (b : List Nat) (w : World), Bs w v b → b.length ≤ 2000000 → Calls Tryd.prog 20 #[v] w fun e w' => ∃ sv, e = .returned (.tuple #[mfv (decM b).1 sv, .int .i64 ((decM b).2 : Int)]) ∧ SgR w.heap.size w' sv (decM b).1.l ∧ Below w.heap.size w w') :
    Calls Tryd.prog 5 #[bw] w fun e w' => e = .returned (.bool true) ∧ Below w.heap.size w w' := by
  have HTB : Hid (∀ w', Below w.heap.size w w' → Tab w') := fun w' hb => hT.kept hb
  obtain ⟨ab, cb, rfl, hb1, hb2, hb3, _⟩ := hb.shape
  unfold maxLen at hb2
  have HSM : Hid (∀ w', Calls Tryd.prog 9 #[] w' fun e w'' => ∃ v, e = .returned (.agg #[.int .i64 1, .int .i64 3, .int .i64 2, .int .i64 0, v]) ∧ SgsAt w'' v smallM.l ∧ Below w'.heap.size w' w'') := fun w' => small_any w'
  have HRS : Hid (∀ (w' : World) (v : Value), SgsAt w' v smallM.l → Calls Tryd.prog 16 #[.agg #[.int .i64 1, .int .i64 3, .int .i64 2, .int .i64 0, v]] w' fun e w'' => ∃ v', e = .returned (.tuple #[v', .int .i64 0]) ∧ Own w'.heap.size w'' v' (encM smallM) ∧ Below w'.heap.size w' w'') := fun w' v hs => rencode8_good smallM v w' hs small_ok (by decide)
  have hel : (encM smallM).length ≤ 5000 := by
    have := bodyM_len small_ok (by decide)
    unfold encM
    rw [fr_length]
    have h8 := Wn.uint_len3 (bodyM smallM).length (by omega)
    omega
  have HDC : Hid (∀ (w' : World) (cv : Value), Below w.heap.size w w' → Bs w' cv (encM smallM) → Calls Tryd.prog 11 #[cv] w' fun e w'' => ∃ sv, e = .returned (.tuple #[.agg #[.int .i64 1, .int .i64 3, .int .i64 2, .int .i64 0, sv], .int .i64 0]) ∧ SgR w'.heap.size w'' sv smallM.l ∧ Below w'.heap.size w' w'') := fun w' cv hb hs => by
    have h9 := decode_any cv (encM smallM) w' (HTB.out _ hb) hs (by omega)
    rw [dec_enc _ small_ok (by decide)] at h9
    exact h9
  have HSY : Hid (∀ (w' : World) (v1 v2 : Value), SgsAt w' v1 smallM.l → SgsAt w' v2 smallM.l → Calls Tryd.prog 12 #[.agg #[.int .i64 1, .int .i64 3, .int .i64 2, .int .i64 0, v1], .agg #[.int .i64 1, .int .i64 3, .int .i64 2, .int .i64 0, v2]] w' fun e w'' => e = .returned (.bool true) ∧ Below w'.heap.size w' w'') := fun w' v1 v2 h1 h2 => same_yes smallM v1 v2 w' h1 h2
  have HBS : Hid (∀ w', Below w.heap.size w w' → Bs w' (.slice ab b.length cb) b) := fun w' h => hb.kept h
  have HRD : Hid (∀ (v : Value) (b : List Nat) (w : World), Bs w v b → b.length ≤ 2000000 → Calls Tryd.prog 20 #[v] w fun e w' => ∃ sv, e = .returned (.tuple #[mfv (decM b).1 sv, .int .i64 ((decM b).2 : Int)]) ∧ SgR w.heap.size w' sv (decM b).1.l ∧ Below w.heap.size w w') := hRD
  generalize encM smallM = enc at *
  clear hb hT hRD
  go_enter Tryd.func5, Tryd.ntmps5
  have HBT : Hid (∀ w', Below w.heap.size w w' → Bs w' (.slice ab (b.take 65536).length cb) (b.take 65536)) := fun w' h => by
    by_cases h6 : 65536 < b.length
    · have h9 := bs_take (HBS.out _ h) 65536 (by omega)
      rw [show (b.take 65536).length = 65536 by rw [List.length_take]; omega]
      exact h9
    · rw [List.take_of_length_le (by omega)]
      exact HBS.out _ h
  have hbbl : (b.take 65536).length ≤ 65536 := by rw [List.length_take]; omega
  have hbbe : (65536 < b.length → (b.take 65536).length = 65536) ∧ (¬ 65536 < b.length → (b.take 65536).length = b.length) := by
    rw [List.length_take]
    omega
  generalize b.take 65536 = bb at *
  clear HBS
  go_upto_if 17 with fail
  go_cut [0] from 18 to 19 (fun s wx => s = .slice ab bb.length cb ∧ w = wx)
  case first =>
    by_cases h6 : 65536 < b.length
    · go_wp2_with fail
      go_meet
      exact ⟨by rw [hbbe.1 h6], rfl⟩
    · go_wp2_with fail
      go_meet
      exact ⟨by rw [hbbe.2 h6], rfl⟩
  case rest =>
    obtain ⟨rfl, rfl⟩ := hcut
    have HBS : Hid (∀ w', Below w.heap.size w w' → Bs w' (.slice ab bb.length cb) bb) := HBT.out
    clear HBT hbbe
    go_wp2_with fail
    refine (HSM.out _).mono ?_
    rintro e w1 ⟨v1, rfl, hs1, B1⟩
    obtain ⟨a1, c1, e1⟩ : ∃ a1, ∃ c1 : Nat, v1 = .slice a1 1 c1 := by
      obtain ⟨a1, c1, e, _⟩ := hs1
      exact ⟨a1, c1, e⟩
    subst e1
    have HS1 : Hid (SgsAt w1 (.slice a1 1 c1) smallM.l) := hs1
    clear hs1
    go_wp2_with fail
    refine (HRS.out _ _ HS1.out).mono ?_
    rintro e w2 ⟨v2, rfl, ho2, b2⟩
    have B2 := andThen B1 b2
    obtain ⟨ac, cc, e2, hc1, hc2, -, -⟩ := ho2.bs.shape
    subst e2
    unfold maxLen at hc2
    have HC : Hid (Own w1.heap.size w2 (.slice ac enc.length cc) enc) := ho2
    clear HS1 HRS ho2 b2 B1
    go_wp2_with fail
    refine (HDC.out _ _ B2 HC.out.bs).mono ?_
    rintro e w3 ⟨sv3, rfl, hs3, b3⟩
    have B3 := andThen B2 b3
    obtain ⟨a3, c3, e3⟩ : ∃ a3, ∃ c3 : Nat, sv3 = .slice a3 1 c3 := by
      obtain ⟨a3, c3, e, _⟩ := hs3.at
      exact ⟨a3, c3, e⟩
    subst e3
    have HS3 : Hid (SgR w2.heap.size w3 (.slice a3 1 c3) smallM.l ∧ Below w2.heap.size w2 w3) := ⟨hs3, b3⟩
    clear hs3 b3 B2
    go_upto_region 5 with fail
    obtain ⟨WA, hWA⟩ : ∃ WA, WA = w3.alloc (.cells #[.int .i64 1, .int .i64 3, .int .i64 2, .int .i64 0, .slice a3 1 c3] 24) := ⟨_, rfl⟩
    have BA : Below w.heap.size w WA := by rw [hWA]; exact up B3 _
    have hma : Mb WA w3.heap.size ⟨1, 3, 2, 0, []⟩ (.slice a3 1 c3) := by rw [hWA]; exact mb_new w3 ⟨1, 3, 2, 0, []⟩ _ 24
    have hsa : SgsAt WA (.slice a3 1 c3) smallM.l := by rw [hWA]; exact (HS3.out.1.kept (up0 _ _)).at
    have hal : w3.heap.size < WA.heap.size := by rw [hWA, heap1]; omega
    have BCA : Below w2.heap.size w2 WA := by rw [hWA]; exact up HS3.out.2 _
    rw [← hWA]
    obtain ⟨gA, hgA⟩ : ∃ gA, gA = w3.heap.size := ⟨_, rfl⟩
    rw [← hgA] at hma hal ⊢
    have HCA : Hid (∀ w', Below WA.heap.size WA w' → Own w1.heap.size w' (.slice ac enc.length cc) enc ∧ ∀ q, (Value.slice ac enc.length cc).ownBlock = some q → q < gA) := fun w' h => ⟨HC.out.kept (andThen BCA h), fun q hq => by
      have h1 := (World.ownsRow.lt HC.out.row q hq).2
      have h2 := HS3.out.2.size
      omega⟩
    have HCE : Hid (∀ w', Below WA.heap.size WA w' → w'.cell? ⟨gA, 0, none⟩ = some (.int .i64 1) ∧ w'.cell? ⟨gA, 1, none⟩ = some (.int .i64 3) ∧ w'.cell? ⟨gA, 2, none⟩ = some (.int .i64 2) ∧ w'.cell? ⟨gA, 3, none⟩ = some (.int .i64 0) ∧ w'.cell? ⟨gA, 4, none⟩ = some (.slice a3 1 c3)) := fun w' hb => (hma.block (hb.block _ hal)).cells
    have HSA : Hid (∀ w', Below WA.heap.size WA w' → SgsAt w' (.slice a3 1 c3) smallM.l) := fun w' hb => hsa.kept hb
    have HMA : Hid (∀ w', Below WA.heap.size WA w' → Mb w' gA ⟨1, 3, 2, 0, []⟩ (.slice a3 1 c3)) := fun w' hb => hma.block (hb.block _ hal)
    have hbel : Below WA.heap.size WA WA := Below.refl _ _
    have HBA : Hid (Below w.heap.size w WA ∧ w.heap.size ≤ gA ∧ gA < WA.heap.size) := ⟨BA, by rw [hgA]; exact B3.size, hal⟩
    clear hWA hma hsa hal hgA HS3 B3 HC BA BCA
    obtain ⟨x0, x1, x2, x3, x4⟩ := HCE.out _ hbel
    go_region_held3 (fun w' => w'.cell? ⟨gA, 0, none⟩ = some (.int .i64 1) ∧ w'.cell? ⟨gA, 1, none⟩ = some (.int .i64 3) ∧ w'.cell? ⟨gA, 2, none⟩ = some (.int .i64 2) ∧ w'.cell? ⟨gA, 3, none⟩ = some (.int .i64 0) ∧ w'.cell? ⟨gA, 4, none⟩ = some (.slice a3 1 c3)) (first | (exact HCE.out _ (Below.drew hbel)) | (exact HCE.out _ B5) | (exact HCE.out _ B4))
      (first
        | (go_at_call 9; refine (HSM.out _).mono ?_; rintro e w4 ⟨v4, rfl, hs4, b4⟩; have B4 := andThen (Below.drew hbel) b4; obtain ⟨a4, c4, e4, hs4'⟩ : ∃ a4, ∃ c4 : Nat, v4 = .slice a4 1 c4 ∧ Hid (SgsAt w4 v4 smallM.l) := ⟨hs4.choose, hs4.choose_spec.choose, hs4.choose_spec.choose_spec.1, hs4⟩; subst e4; clear hs4)
        | (go_at_call 12; refine (HSY.out _ _ _ (HSA.out _ B4) hs4'.out).mono ?_; rintro e w5 ⟨rfl, b5⟩; have B5 := andThen B4 b5))
    clear x0 x1 x2 x3 x4 HCE HSA hbel b4 b5 B4 hs4'
    have HLB : Hid (∀ w', Below w.heap.size w w' → Calls Tryd.prog 19 #[.slice ab bb.length cb] w' fun e w'' => ∃ ao, ∃ cap : Nat, e = .returned (.slice ao bb.length cap) ∧ Own w'.heap.size w'' (.slice ao (bb.length + 5) cap) (bb ++ marksB) ∧ Below w'.heap.size w' w'') := fun w' hb => laidB_any _ bb w' (HBS.out _ hb) (by omega)
    have B5w := andThen HBA.out.1 B5
    go_wp2_with fail
    refine (HLB.out _ B5w).mono ?_
    rintro e w6 ⟨ai, ci, rfl, ho6, b6⟩
    have HI : Hid (∀ w', Below w6.heap.size w6 w' → Bs w' (.slice ai (bb.length + 5) ci) (bb ++ marksB)) := fun w' h => (ho6.kept h).bs
    have HI2 : Hid (∀ w', Below w6.heap.size w6 w' → Bs w' (.slice ai bb.length ci) bb) := fun w' h => by
      have h9 := HI.out _ h
      have hl5 : (bb ++ marksB).length = bb.length + 5 := by simp [marksB]
      rw [← hl5] at h9
      have h8 := bs_take h9 bb.length (by omega)
      rw [List.take_left] at h8
      exact h8
    have HO6 : Hid (Own w5.heap.size w6 (.slice ai (bb.length + 5) ci) (bb ++ marksB) ∧ gA < w5.heap.size) := ⟨ho6, Nat.lt_of_lt_of_le HBA.out.2.2 B5.size⟩
    have B6 := andThen B5 b6
    have B6w := andThen B5w b6
    have hlen := dec_len bb
    rcases hdm : decM bb with ⟨rm, re⟩
    rw [hdm] at hlen
    have HDI : Hid (∀ w', Below w.heap.size w w' → Bs w' (.slice ai bb.length ci) bb → Calls Tryd.prog 11 #[.slice ai bb.length ci] w' fun e w'' => ∃ sv, e = .returned (.tuple #[mfv rm sv, .int .i64 (re : Int)]) ∧ SgR w'.heap.size w'' sv rm.l ∧ Below w'.heap.size w' w'') := fun w' h1 h2 => by
      have h9 := decode_any _ bb w' (HTB.out _ h1) h2 (by omega)
      rw [hdm] at h9
      exact h9
    have HDR : Hid (∀ w', Below w.heap.size w w' → Calls Tryd.prog 20 #[.slice ab bb.length cb] w' fun e w'' => ∃ sv, e = .returned (.tuple #[mfv rm sv, .int .i64 (re : Int)]) ∧ SgR w'.heap.size w'' sv rm.l ∧ Below w'.heap.size w' w'') := fun w' h1 => by
      have h9 := HRD.out _ bb w' (HBS.out _ h1) (by omega)
      rw [hdm] at h9
      exact h9
    obtain ⟨g, vv, x, t, l⟩ := rm
    unfold mfv at HDI HDR
    simp only at HDI HDR hlen
    clear hdm HLB ho6 b6 B5 B5w HRD
    go_wp2_with fail
    refine (HDI.out _ B6w (HI2.out _ (Below.refl _ _))).mono ?_
    rintro e w7 ⟨sv7, rfl, hs7, b7⟩
    obtain ⟨a7, c7, e7⟩ : ∃ a7, ∃ c7 : Nat, sv7 = .slice a7 l.length c7 := by
      obtain ⟨a7, c7, e, _⟩ := hs7.at
      exact ⟨a7, c7, e⟩
    subst e7
    have hm7 := HMA.out _ (andThen B6 b7)
    have z0 := hm7.frozen 0
    have z1 := hm7.frozen 1
    have z2 := hm7.frozen 2
    have z3 := hm7.frozen 3
    have z4 := hm7.frozen 4
    obtain ⟨q0, q1, q2, q3, q4⟩ := hm7.cells
    simp only at q0 q1 q2 q3 q4
    obtain ⟨WB, hWB⟩ : ∃ WB, WB = store5 w7 gA ⟨g, vv, x, t, l⟩ (.slice a7 l.length c7) := ⟨_, rfl⟩
    have HWB : Hid (Mb WB gA ⟨g, vv, x, t, l⟩ (.slice a7 l.length c7) ∧ Below w.heap.size w WB ∧ SgR w6.heap.size WB (.slice a7 l.length c7) l ∧ gA < w6.heap.size ∧ w6.heap.size ≤ WB.heap.size ∧ (∀ q, q ≠ gA → q < w6.heap.size → WB.heap[q]? = w6.heap[q]?)) := by
      have hg6 : gA < w6.heap.size := Nat.lt_of_lt_of_le HBA.out.2.2 B6.size
      rw [hWB]
      refine ⟨hm7.store _ _, store5_below (andThen B6w b7) HBA.out.2.1 _ _, hs7.block (fun q hq => store5_block _ _ _ _ q (fun e => ?_)), hg6, ?_, fun q hq hq2 => ?_⟩
      · have := (World.ownsRow.lt hs7 q hq).1
        omega
      · have := b7.size
        simp only [store5, World.setCell, Array.size_modify]
        exact this
      · rw [store5_block _ _ _ _ q hq]
        exact b7.block q hq2
    have HC6 : Hid (∀ w', Below w6.heap.size WB w' → Below w.heap.size w w' ∧ Mb w' gA ⟨g, vv, x, t, l⟩ (.slice a7 l.length c7) ∧ Bs w' (.slice ac enc.length cc) enc ∧ Bs w' (.slice ai (bb.length + 5) ci) (bb ++ marksB) ∧ Bs w' (.slice ai bb.length ci) bb) := fun w' hb => by
      have hc6 := HCA.out _ B6
      have hq6 : ∀ q, q ≠ gA → q < w6.heap.size → w'.heap[q]? = w6.heap[q]? := fun q hq hq2 => (hb.block q hq2).trans (HWB.out.2.2.2.2.2 q hq hq2)
      have hci := own_kept2 hc6.1 (fun q e => hq6 q (by have := hc6.2 q e; omega) (World.ownsRow.lt hc6.1.row q e).2)
      have hi5 := own_kept2 HO6.out.1 (fun q e => hq6 q (by have := (World.ownsRow.lt HO6.out.1.row q e).1; have := HO6.out.2; omega) (World.ownsRow.lt HO6.out.1.row q e).2)
      refine ⟨HWB.out.2.1.trans (hb.mono B6w.size), HWB.out.1.block (hb.block _ HWB.out.2.2.2.1), hci.bs, hi5.bs, ?_⟩
      have h9 := hi5.bs
      have hl5 : (bb ++ marksB).length = bb.length + 5 := by simp [marksB]
      rw [← hl5] at h9
      have h8 := bs_take h9 bb.length (by omega)
      rw [List.take_left] at h8
      exact h8
    have HWE : Hid (WB = (((((w7.setCell ⟨gA, 0, none⟩ (.int .i64 g)).setCell ⟨gA, 1, none⟩ (.int .i64 vv)).setCell ⟨gA, 2, none⟩ (.int .i64 x)).setCell ⟨gA, 3, none⟩ (.int .i64 t)).setCell ⟨gA, 4, none⟩ (.slice a7 l.length c7))) := hWB
    clear hm7 hs7 b7 hWB HMA HCA HO6 HI HI2
    go_upto_region 9 with fail
    rw [← HWE.out]
    clear HWE z0 z1 z2 z3 z4 q0 q1 q2 q3 q4
    have HN6 : Hid (w6.heap.size ≤ WB.heap.size) := HWB.out.2.2.2.2.1
    have HR7 : Hid (SgR w6.heap.size WB (.slice a7 l.length c7) l) := HWB.out.2.2.1
    have HBW : Hid (Below w.heap.size w WB) := HWB.out.2.1
    clear HWB B6 B6w HBA
    go_wp2_with fail
    refine (HDR.out _ HBW.out).mono ?_
    rintro e w9 ⟨sv9, rfl, hs9, b9⟩
    obtain ⟨a9, c9, e9⟩ : ∃ a9, ∃ c9 : Nat, sv9 = .slice a9 l.length c9 := by
      obtain ⟨a9, c9, e, _⟩ := hs9.at
      exact ⟨a9, c9, e⟩
    subst e9
    have HS9 : Hid (SgR WB.heap.size w9 (.slice a9 l.length c9) l ∧ Below WB.heap.size WB w9) := ⟨hs9, b9⟩
    clear hs9 b9 HDR
    go_upto_region 10 with fail
    obtain ⟨WD, hWD⟩ : ∃ WD, WD = w9.alloc (.cells #[.int .i64 g, .int .i64 vv, .int .i64 x, .int .i64 t, .slice a9 l.length c9] 24) := ⟨_, rfl⟩
    have BD : Below WB.heap.size WB WD := by rw [hWD]; exact up HS9.out.2 _
    have hmd : Mb WD w9.heap.size ⟨g, vv, x, t, l⟩ (.slice a9 l.length c9) := by rw [hWD]; exact mb_new w9 ⟨g, vv, x, t, l⟩ _ 24
    have hsd : SgR WB.heap.size WD (.slice a9 l.length c9) l := by rw [hWD]; exact HS9.out.1.kept (up0 _ _)
    have hdl : w9.heap.size < WD.heap.size := by rw [hWD, heap1]; omega
    have hd9 : WB.heap.size ≤ w9.heap.size := HS9.out.2.size
    rw [← hWD]
    obtain ⟨gB, hgB⟩ : ∃ gB, gB = w9.heap.size := ⟨_, rfl⟩
    rw [← hgB] at hmd hdl hd9 ⊢
    have HDB : Hid (Below WB.heap.size WB WD ∧ WB.heap.size ≤ gB ∧ gB < WD.heap.size) := ⟨BD, hd9, hdl⟩
    have HMD : Hid (Mb WD gB ⟨g, vv, x, t, l⟩ (.slice a9 l.length c9) ∧ SgR WB.heap.size WD (.slice a9 l.length c9) l) := ⟨hmd, hsd⟩
    have HSY2 : Hid (Calls Tryd.prog 12 #[.agg #[.int .i64 g, .int .i64 vv, .int .i64 x, .int .i64 t, .slice a7 l.length c7], .agg #[.int .i64 g, .int .i64 vv, .int .i64 x, .int .i64 t, .slice a9 l.length c9]] WD fun e w'' => e = .returned (.bool true) ∧ Below WD.heap.size WD w'') := same_yes ⟨g, vv, x, t, l⟩ (.slice a7 l.length c7) (.slice a9 l.length c9) WD (HR7.out.kept BD).at hsd.at
    have HIN : Hid (∀ w', Below WD.heap.size WD w' → Calls Tryd.prog 21 #[.slice ai bb.length ci, .slice ab bb.length cb] w' fun e w'' => e = .returned (.bool true) ∧ Below w'.heap.size w' w'') := fun w' hb => by
      have h9 := HC6.out _ ((andThen HDB.out.1 hb).mono HN6.out)
      exact intactB_yes ai ci _ bb w' h9.2.2.2.1 (HBS.out _ h9.1) (by omega)
    clear hWD hgB hmd hsd hdl hd9 BD HS9
    obtain ⟨q0, q1, q2, q3, q4⟩ := (HC6.out _ (HDB.out.1.mono HN6.out)).2.1.cells
    obtain ⟨r0, r1, r2, r3, r4⟩ := HMD.out.1.cells
    simp only at q0 q1 q2 q3 q4 r0 r1 r2 r3 r4
    go_wp2_with fail
    refine HSY2.out.mono ?_
    rintro e w10 ⟨rfl, b10⟩
    go_wp2_with fail
    refine (HIN.out _ b10).mono ?_
    rintro e w11 ⟨rfl, b11⟩
    have B11 := andThen b10 b11
    clear q0 q1 q2 q3 q4 r0 r1 r2 r3 r4 b10 b11 HSY2 HIN
    go_upto_region 13 with fail
    obtain ⟨WM, hWM⟩ : ∃ WM, WM = w11.alloc (.cells #[.int .i64 (-7), .int .i64 0, .int .i64 0] 46) := ⟨_, rfl⟩
    have BM : Below WD.heap.size WD WM := by rw [hWM]; exact up B11 _
    have hk0 : WM.rangeAt w11.heap.size 0 [.int .i64 (-7), .int .i64 0, .int .i64 0] := by
      rw [hWM]
      intro j u hj
      rw [Nat.zero_add, World.cell?_alloc_new]
      simpa using hj
    have hml : w11.heap.size < WM.heap.size := by rw [hWM, heap1]; omega
    have hm1 := B11.size
    rw [← hWM]
    obtain ⟨gC, hgC⟩ : ∃ gC, gC = w11.heap.size := ⟨_, rfl⟩
    rw [← hgC] at hk0 hml hm1 ⊢
    have HF : Hid (∀ w', Fr w6.heap.size WB WM w' → Mb w' gB ⟨g, vv, x, t, l⟩ (.slice a9 l.length c9) ∧ SgR WB.heap.size w' (.slice a9 l.length c9) l ∧ w'.rangeAt gC 0 [.int .i64 (-7), .int .i64 0, .int .i64 0]) := fun w' hf => by
      have hd := HDB.out.1.size
      have hms := BM.size
      have hdg := HDB.out.2.2
      have hdh := HDB.out.2.1
      refine ⟨HMD.out.1.block ((hf.2.2 gB HDB.out.2.1 (by omega)).trans (BM.block gB HDB.out.2.2)), HMD.out.2.block (fun q e => ?_), fun j u hj => ?_⟩
      · have h9 := World.ownsRow.lt HMD.out.2 q e
        exact (hf.2.2 q h9.1 (by omega)).trans (BM.block q h9.2)
      · rw [← hk0 j u hj]
        exact World.cell?_of_block (hf.2.2 gC (by omega) hml)
    have HFM : Hid (Fr w6.heap.size WB WM WM ∧ SgR w6.heap.size WM (.slice a7 l.length c7) l ∧ (∀ q, (Value.slice a7 l.length c7).ownBlock = some q → w6.heap.size ≤ q ∧ q < WB.heap.size)) := by
      have hbm := andThen HDB.out.1 BM
      exact ⟨⟨hbm.mono HN6.out, Nat.le_refl _, fun _ _ _ => rfl⟩, HR7.out.kept hbm, fun q e => World.ownsRow.lt HR7.out q e⟩
    clear hWM hgC BM hk0 hml hm1 B11 HMD HDB HR7
    go_wp2
    go_loopw [10] (fun i wr => ∃ (k : Nat), k ≤ l.length ∧ i = .int .i64 (k : Int) ∧ SgR w6.heap.size wr (.slice a7 l.length c7) (filS l k) ∧ Fr w6.heap.size WB WM wr) (fun i _ => l.length - (intOf i).toNat)
    case atStart => exact ⟨0, Nat.zero_le _, rfl, by rw [filS_zero]; exact HFM.out.2.1, HFM.out.1⟩
    case round =>
      obtain ⟨k, hk, rfl, hs, hf⟩ := hrel
      have HRW : Hid (∀ q, (Value.slice a7 l.length c7).ownBlock = some q → w6.heap.size ≤ q ∧ q < WB.heap.size) := HFM.out.2.2
      clear HFM
      obtain ⟨q0, q1, q2, q3, q4⟩ := (HC6.out _ hf.1).2.1.cells
      simp only at q0 q1 q2 q3 q4
      have hgr := (HF.out _ hf).2.2
      have y0 : wr.cell? ⟨gC, 0, none⟩ = some (.int .i64 (-7)) := hgr 0 _ rfl
      have y1 : wr.cell? ⟨gC, 1, none⟩ = some (.int .i64 0) := hgr 1 _ rfl
      have y2 : wr.cell? ⟨gC, 2, none⟩ = some (.int .i64 0) := hgr 2 _ rfl
      clear q0 q1 q2 q3 hgr
      by_cases hlt : k < l.length
      · obtain ⟨gr, rfl, hth, hs2, hg2, hgB⟩ := SgR.fill hs hlt
        have HT : Hid (wr.there gr (k * 3) 3) := hth
        have HSZ : Hid ((Tryd.prog.info? 46).map (·.size) = some 3) := infoSg1
        have R : Hid (SgR w6.heap.size (wr.setCells gr (k * 3) [.int .i64 (-7), .int .i64 0, .int .i64 0]) (.slice (some ⟨gr, 0, none⟩) l.length c7) (filS l (k + 1)) ∧ Fr w6.heap.size WB WM (wr.setCells gr (k * 3) [.int .i64 (-7), .int .i64 0, .int .i64 0])) := ⟨hs2, hf.grown hg2 (fun q e => by
          have h9 := HRW.out q e
          exact ⟨h9.1, .inl h9.2⟩)⟩
        clear hs hf hs2 hg2 hgB hth
        go_wp2_with (refine wpList_store_mid rfl 46 (.tmp 81) (.tmp 80) rfl gr (k * 3) #[.int .i64 (-7), .int .i64 0, .int .i64 0] ?_ ?_ ?_ ?_ ?_ ?_)
        case refine_1 => rfl
        case refine_2 => rfl
        case refine_3 => exact HT.out
        case refine_4 => exact HSZ.out
        case refine_5 =>
          refine all_oneCell_toArray (cs := [.int .i64 (-7), .int .i64 0, .int .i64 0]) fun u hu => ?_
          simp only [List.mem_cons, List.not_mem_nil, or_false] at hu
          rcases hu with rfl | rfl | rfl <;> rfl
        go_roundw
        case rel => exact ⟨k + 1, by omega, by go_num, R.out.1, R.out.2⟩
        case measure => simp [intOf]; omega
      · obtain rfl : k = l.length := by omega
        rw [filS_end] at hs
        have HK : Hid (MkR w6.heap.size wr (.slice a7 l.length c7) l.length ∧ Fr w6.heap.size WB WM wr) := ⟨mkR_of hs, hf⟩
        clear hs hf hlt hk
        go_upto_region 17 with fail
        have HKB : Hid (∀ w', Below wr.heap.size wr w' → MkR w6.heap.size w' (.slice a7 l.length c7) l.length ∧ Fr w6.heap.size WB WM w' ∧ w6.heap.size ≤ w'.heap.size ∧ w'.cell? ⟨gA, 4, none⟩ = some (.slice a7 l.length c7) ∧ w'.cell? ⟨gC, 0, none⟩ = some (.int .i64 (-7)) ∧ w'.cell? ⟨gC, 1, none⟩ = some (.int .i64 0) ∧ w'.cell? ⟨gC, 2, none⟩ = some (.int .i64 0)) := fun w' hb => by
          have hf := HK.out.2.below hb HN6.out
          have hgr := (HF.out _ hf).2.2
          exact ⟨HK.out.1.kept hb, hf, Nat.le_trans HN6.out hf.1.size, (HC6.out _ hf.1).2.1.cells.2.2.2.2, hgr 0 _ rfl, hgr 1 _ rfl, hgr 2 _ rfl⟩
        have HSF : Hid (∀ w', Fr w6.heap.size WB WM w' → w'.cell? ⟨gA, 4, none⟩ = some (.slice a7 l.length c7) ∧ w'.cell? ⟨gC, 0, none⟩ = some (.int .i64 (-7)) ∧ w'.cell? ⟨gC, 1, none⟩ = some (.int .i64 0) ∧ w'.cell? ⟨gC, 2, none⟩ = some (.int .i64 0)) := fun w' hf => by
          have hgr := (HF.out _ hf).2.2
          exact ⟨(HC6.out _ hf.1).2.1.cells.2.2.2.2, hgr 0 _ rfl, hgr 1 _ rfl, hgr 2 _ rfl⟩
        have HLW : Hid (WB.heap.size ≤ wr.heap.size) := HK.out.2.1.size
        have HRO : Hid (∀ q, (Value.slice a7 l.length c7).ownBlock = some q → w6.heap.size ≤ q ∧ (q < WB.heap.size ∨ WM.heap.size ≤ q)) := fun q e => ⟨(HRW.out q e).1, .inl (HRW.out q e).2⟩
        have hbel : Below wr.heap.size wr wr := Below.refl _ _
        go_cut [11, 12] from 82 to 92 (fun s1 s2 wx => MkR w6.heap.size wx s1 (l.length + 1) ∧ MkR w6.heap.size wx s2 (l.length + 2) ∧ Fr w6.heap.size WB WM wx)
        case first =>
          go_region_held3 (fun w' => w'.cell? ⟨gA, 4, none⟩ = some (.slice a7 l.length c7) ∧ w'.cell? ⟨gC, 0, none⟩ = some (.int .i64 (-7)) ∧ w'.cell? ⟨gC, 1, none⟩ = some (.int .i64 0) ∧ w'.cell? ⟨gC, 2, none⟩ = some (.int .i64 0)) (first | (exact HSF.out _ F2) | (exact HSF.out _ F1) | (exact (HKB.out _ (by first | exact hbel | exact Below.drew hbel | exact up hbel _ | exact Below.drew (up hbel _) | exact up (up hbel _) _ | exact Below.drew (up (up hbel _) _) | exact Below.drew (Below.drew hbel) | exact Below.drew (Below.drew (up hbel _)) | exact up (Below.drew hbel) _ | exact up (Below.drew (up hbel _)) _ | exact Below.drew (up (Below.drew hbel) _) | exact Below.drew (up (Below.drew (up hbel _)) _))).2.2.2) | (exact HSF.out _ (F1.below (by first | exact (Below.refl _ _) | exact Below.drew (Below.refl _ _) | exact up (Below.refl _ _) _ | exact Below.drew (up (Below.refl _ _) _) | exact up (up (Below.refl _ _) _) _ | exact Below.drew (up (up (Below.refl _ _) _) _) | exact Below.drew (Below.drew (Below.refl _ _)) | exact Below.drew (Below.drew (up (Below.refl _ _) _)) | exact up (Below.drew (Below.refl _ _)) _ | exact up (Below.drew (up (Below.refl _ _) _)) _ | exact Below.drew (up (Below.drew (Below.refl _ _)) _) | exact Below.drew (up (Below.drew (up (Below.refl _ _) _)) _)) HN6.out)) | go_keep)
            (first
              | (refine step_append_marksS rfl (some 86) rfl (.tmp 83) (.tmp 85) 22 rfl w6.heap.size infoSg3 Tryd.underlying22 (.slice a7 l.length c7) l.length 1 (by simp [Act.eval]) (HKB.out _ (by first | exact hbel | exact Below.drew hbel | exact up hbel _ | exact Below.drew (up hbel _) | exact up (up hbel _) _ | exact Below.drew (up (up hbel _) _) | exact Below.drew (Below.drew hbel) | exact Below.drew (Below.drew (up hbel _)) | exact up (Below.drew hbel) _ | exact up (Below.drew (up hbel _)) _ | exact Below.drew (up (Below.drew hbel) _) | exact Below.drew (up (Below.drew (up hbel _)) _))).1 _ _ (by simp [Act.eval]; exact ⟨rfl, rfl⟩) (pat_of (cs := #[.int .i64 (-7), .int .i64 0, .int .i64 0]) (t := 46) (by (try simp only [hp_drew]); first | exact hp_new _ _ _ (by first | rfl | simp only [heap1]) | exact (hp_old _ _ _ (by (try simp only [heap1]); omega)).trans (hp_new _ _ _ (by first | rfl | simp only [hp_drew, heap1]))) rfl) (by omega) (HKB.out _ (by first | exact hbel | exact Below.drew hbel | exact up hbel _ | exact Below.drew (up hbel _) | exact up (up hbel _) _ | exact Below.drew (up (up hbel _) _) | exact Below.drew (Below.drew hbel) | exact Below.drew (Below.drew (up hbel _)) | exact up (Below.drew hbel) _ | exact up (Below.drew (up hbel _)) _ | exact Below.drew (up (Below.drew hbel) _) | exact Below.drew (up (Below.drew (up hbel _)) _))).2.2.1 ?_
                 intro v1 wa m1 g1 t1 k1
                 have M1 := k1 _ _ (HKB.out _ (by first | exact hbel | exact Below.drew hbel | exact up hbel _ | exact Below.drew (up hbel _) | exact up (up hbel _) _ | exact Below.drew (up (up hbel _) _) | exact Below.drew (Below.drew hbel) | exact Below.drew (Below.drew (up hbel _)) | exact up (Below.drew hbel) _ | exact up (Below.drew (up hbel _)) _ | exact Below.drew (up (Below.drew hbel) _) | exact Below.drew (up (Below.drew (up hbel _)) _))).1
                 have F1 := Fr.grown (HKB.out _ (by first | exact hbel | exact Below.drew hbel | exact up hbel _ | exact Below.drew (up hbel _) | exact up (up hbel _) _ | exact Below.drew (up (up hbel _) _) | exact Below.drew (Below.drew hbel) | exact Below.drew (Below.drew (up hbel _)) | exact up (Below.drew hbel) _ | exact up (Below.drew (up hbel _)) _ | exact Below.drew (up (Below.drew hbel) _) | exact Below.drew (up (Below.drew (up hbel _)) _))).2.1 g1 HRO.out HN6.out
                 clear t1)
              | (refine step_append_marksS rfl (some 92) rfl (.tmp 88) (.tmp 91) 22 rfl w6.heap.size infoSg3 Tryd.underlying22 (.slice a7 l.length c7) l.length 2 (by simp [Act.eval]) (M1.kept (by first | exact (Below.refl _ _) | exact Below.drew (Below.refl _ _) | exact up (Below.refl _ _) _ | exact Below.drew (up (Below.refl _ _) _) | exact up (up (Below.refl _ _) _) _ | exact Below.drew (up (up (Below.refl _ _) _) _) | exact Below.drew (Below.drew (Below.refl _ _)) | exact Below.drew (Below.drew (up (Below.refl _ _) _)) | exact up (Below.drew (Below.refl _ _)) _ | exact up (Below.drew (up (Below.refl _ _) _)) _ | exact Below.drew (up (Below.drew (Below.refl _ _)) _) | exact Below.drew (up (Below.drew (up (Below.refl _ _) _)) _))) _ _ (by simp [Act.eval]; exact ⟨rfl, rfl⟩) (pat_of (cs := #[.int .i64 (-7), .int .i64 0, .int .i64 0, .int .i64 (-7), .int .i64 0, .int .i64 0]) (t := 46) (by (try simp only [hp_drew]); first | exact hp_new _ _ _ (by first | rfl | simp only [hp_drew, heap1]) | (refine (g1.block _ (by (try simp only [hp_drew, heap1]); omega) (fun e => ?_)).trans (by (try simp only [hp_drew]); first | exact hp_new _ _ _ (by first | rfl | simp only [heap1]) | exact (hp_old _ _ _ (by (try simp only [heap1]); omega)).trans (hp_new _ _ _ (by first | rfl | simp only [hp_drew, heap1]))); have := (HRW.out _ e.symm).2; have := HLW.out; omega)) rfl) (by omega) (Nat.le_trans HN6.out (F1.below (by first | exact (Below.refl _ _) | exact Below.drew (Below.refl _ _) | exact up (Below.refl _ _) _ | exact Below.drew (up (Below.refl _ _) _) | exact up (up (Below.refl _ _) _) _ | exact Below.drew (up (up (Below.refl _ _) _) _) | exact Below.drew (Below.drew (Below.refl _ _)) | exact Below.drew (Below.drew (up (Below.refl _ _) _)) | exact up (Below.drew (Below.refl _ _)) _ | exact up (Below.drew (up (Below.refl _ _) _)) _ | exact Below.drew (up (Below.drew (Below.refl _ _)) _) | exact Below.drew (up (Below.drew (up (Below.refl _ _) _)) _)) HN6.out).1.size) ?_
                 intro v2 wb m2 g2 t2 k2
                 have Z1 := k2 _ _ (m1.kept (by first | exact (Below.refl _ _) | exact Below.drew (Below.refl _ _) | exact up (Below.refl _ _) _ | exact Below.drew (up (Below.refl _ _) _) | exact up (up (Below.refl _ _) _) _ | exact Below.drew (up (up (Below.refl _ _) _) _) | exact Below.drew (Below.drew (Below.refl _ _)) | exact Below.drew (Below.drew (up (Below.refl _ _) _)) | exact up (Below.drew (Below.refl _ _)) _ | exact up (Below.drew (up (Below.refl _ _) _)) _ | exact Below.drew (up (Below.drew (Below.refl _ _)) _) | exact Below.drew (up (Below.drew (up (Below.refl _ _) _)) _)))
                 have F2 := Fr.grown (F1.below (by first | exact (Below.refl _ _) | exact Below.drew (Below.refl _ _) | exact up (Below.refl _ _) _ | exact Below.drew (up (Below.refl _ _) _) | exact up (up (Below.refl _ _) _) _ | exact Below.drew (up (up (Below.refl _ _) _) _) | exact Below.drew (Below.drew (Below.refl _ _)) | exact Below.drew (Below.drew (up (Below.refl _ _) _)) | exact up (Below.drew (Below.refl _ _)) _ | exact up (Below.drew (up (Below.refl _ _) _)) _ | exact Below.drew (up (Below.drew (Below.refl _ _)) _) | exact Below.drew (up (Below.drew (up (Below.refl _ _) _)) _)) HN6.out) g2 HRO.out HN6.out
                 clear t2))
          all_goals
            go_wp2_with fail
            go_meet
            exact ⟨Z1, m2, F2⟩
        case rest =>
          obtain ⟨hm1, hm2, hf2⟩ := hcut
          obtain ⟨a11, c11, e11⟩ := hm1.shape
          obtain ⟨a12, c12, e12⟩ := hm2.shape
          subst e11 e12
          generalize wc = w17 at *
          have HK17 : Hid (MkR w6.heap.size w17 (.slice a11 (l.length + 1) c11) (l.length + 1) ∧ MkR w6.heap.size w17 (.slice a12 (l.length + 2) c12) (l.length + 2) ∧ Fr w6.heap.size WB WM w17) := ⟨hm1, hm2, hf2⟩
          have HDC2 : Hid (Calls Tryd.prog 11 #[.slice ac enc.length cc] w17 fun e w'' => ∃ sv, e = .returned (.tuple #[.agg #[.int .i64 1, .int .i64 3, .int .i64 2, .int .i64 0, sv], .int .i64 0]) ∧ SgR w17.heap.size w'' sv smallM.l ∧ Below w17.heap.size w17 w'') := by
            have h9 := HC6.out _ hf2.1
            exact HDC.out _ _ h9.1 h9.2.2.1
          clear hm1 hm2 hf2 HKB HSF HLW HRO HRW HK hbel HDC q4 y0 y1 y2
          go_wp2_with fail
          refine HDC2.out.mono ?_
          rintro e w18 ⟨sv18, rfl, hs18, b18⟩
          obtain ⟨a18, c18, e18⟩ : ∃ a18, ∃ c18 : Nat, sv18 = .slice a18 1 c18 := by
            obtain ⟨a18, c18, e, _⟩ := hs18.at
            exact ⟨a18, c18, e⟩
          subst e18
          have HS18 : Hid (SgR w17.heap.size w18 (.slice a18 1 c18) smallM.l ∧ Below w17.heap.size w17 w18) := ⟨hs18, b18⟩
          clear hs18 b18 HDC2
          go_upto_region 19 with fail
          obtain ⟨WN, hWN⟩ : ∃ WN, WN = w18.alloc (.cells #[.int .i64 1, .int .i64 3, .int .i64 2, .int .i64 0, .slice a18 1 c18] 24) := ⟨_, rfl⟩
          have BN : Below w17.heap.size w17 WN := by rw [hWN]; exact up HS18.out.2 _
          have hmn : Mb WN w18.heap.size ⟨1, 3, 2, 0, []⟩ (.slice a18 1 c18) := by rw [hWN]; exact mb_new w18 ⟨1, 3, 2, 0, []⟩ _ 24
          have hsn : SgsAt WN (.slice a18 1 c18) smallM.l := by rw [hWN]; exact (HS18.out.1.kept (up0 _ _)).at
          have hnl : w18.heap.size < WN.heap.size := by rw [hWN, heap1]; omega
          have hn8 := HS18.out.2.size
          rw [← hWN]
          obtain ⟨gD, hgD⟩ : ∃ gD, gD = w18.heap.size := ⟨_, rfl⟩
          rw [← hgD] at hmn hnl hn8 ⊢
          have HCN : Hid (∀ w', Below WN.heap.size WN w' → w'.cell? ⟨gD, 0, none⟩ = some (.int .i64 1) ∧ w'.cell? ⟨gD, 1, none⟩ = some (.int .i64 3) ∧ w'.cell? ⟨gD, 2, none⟩ = some (.int .i64 2) ∧ w'.cell? ⟨gD, 3, none⟩ = some (.int .i64 0) ∧ w'.cell? ⟨gD, 4, none⟩ = some (.slice a18 1 c18)) := fun w' hb => (hmn.block (hb.block _ hnl)).cells
          have HSN : Hid (∀ w', Below WN.heap.size WN w' → SgsAt w' (.slice a18 1 c18) smallM.l) := fun w' hb => hsn.kept hb
          have HMN : Hid (∀ w', Below WN.heap.size WN w' → Mb w' gD ⟨1, 3, 2, 0, []⟩ (.slice a18 1 c18)) := fun w' hb => hmn.block (hb.block _ hnl)
          have HBN : Hid (Below w17.heap.size w17 WN ∧ w17.heap.size ≤ gD ∧ gD < WN.heap.size) := ⟨BN, hn8, hnl⟩
          have hbel : Below WN.heap.size WN WN := Below.refl _ _
          clear hWN hmn hsn hnl hn8 hgD HS18 BN
          obtain ⟨x0, x1, x2, x3, x4⟩ := HCN.out _ hbel
          go_region_held3 (fun w' => w'.cell? ⟨gD, 0, none⟩ = some (.int .i64 1) ∧ w'.cell? ⟨gD, 1, none⟩ = some (.int .i64 3) ∧ w'.cell? ⟨gD, 2, none⟩ = some (.int .i64 2) ∧ w'.cell? ⟨gD, 3, none⟩ = some (.int .i64 0) ∧ w'.cell? ⟨gD, 4, none⟩ = some (.slice a18 1 c18)) (first | (exact HCN.out _ (Below.drew hbel)) | (exact HCN.out _ B20) | (exact HCN.out _ B19))
            (first
              | (go_at_call 9; refine (HSM.out _).mono ?_; rintro e w19 ⟨v19, rfl, hs19, b19⟩; have B19 := andThen (Below.drew hbel) b19; obtain ⟨a19, c19, e19, hs19'⟩ : ∃ a4, ∃ c4 : Nat, v19 = .slice a4 1 c4 ∧ Hid (SgsAt w19 v19 smallM.l) := ⟨hs19.choose, hs19.choose_spec.choose, hs19.choose_spec.choose_spec.1, hs19⟩; subst e19; clear hs19)
              | (go_at_call 12; refine (HSY.out _ _ _ (HSN.out _ B19) hs19'.out).mono ?_; rintro e w20 ⟨rfl, b20⟩; have B20 := andThen B19 b20))
          clear x0 x1 x2 x3 x4 HCN HSN hbel b19 b20 B19 hs19' HSM HSY
          have HDI2 : Hid (Calls Tryd.prog 11 #[.slice ai bb.length ci] w20 fun e w'' => ∃ sv, e = .returned (.tuple #[.agg #[.int .i64 g, .int .i64 vv, .int .i64 x, .int .i64 t, sv], .int .i64 (re : Int)]) ∧ SgR w20.heap.size w'' sv l ∧ Below w20.heap.size w20 w'') := by
            have h9 := HC6.out _ (HK17.out.2.2.below (andThen HBN.out.1 B20) HN6.out).1
            exact HDI.out _ h9.1 h9.2.2.2.2
          clear HDI
          go_wp2_with fail
          refine HDI2.out.mono ?_
          rintro e w21 ⟨sv21, rfl, hs21, b21⟩
          obtain ⟨a21, c21, e21⟩ : ∃ a21, ∃ c21 : Nat, sv21 = .slice a21 l.length c21 := by
            obtain ⟨a21, c21, e, _⟩ := hs21.at
            exact ⟨a21, c21, e⟩
          subst e21
          have hm21 := HMN.out _ (andThen B20 b21)
          have z0 := hm21.frozen 0
          have z1 := hm21.frozen 1
          have z2 := hm21.frozen 2
          have z3 := hm21.frozen 3
          have z4 := hm21.frozen 4
          obtain ⟨q0, q1, q2, q3, q4⟩ := hm21.cells
          simp only at q0 q1 q2 q3 q4
          obtain ⟨WO, hWO⟩ : ∃ WO, WO = store5 w21 gD ⟨g, vv, x, t, l⟩ (.slice a21 l.length c21) := ⟨_, rfl⟩
          have HWO : Hid (Mb WO gD ⟨g, vv, x, t, l⟩ (.slice a21 l.length c21) ∧ SgR w20.heap.size WO (.slice a21 l.length c21) l ∧ Below w17.heap.size w17 WO) := by
            rw [hWO]
            refine ⟨hm21.store _ _, hs21.block (fun q hq => store5_block _ _ _ _ q (fun e => ?_)), store5_below (andThen HBN.out.1 (andThen B20 b21)) HBN.out.2.1 _ _⟩
            have h1 := (World.ownsRow.lt hs21 q hq).1
            have h2 := B20.size
            have h3 := HBN.out.2.2
            omega
          have HWOE : Hid (WO = (((((w21.setCell ⟨gD, 0, none⟩ (.int .i64 g)).setCell ⟨gD, 1, none⟩ (.int .i64 vv)).setCell ⟨gD, 2, none⟩ (.int .i64 x)).setCell ⟨gD, 3, none⟩ (.int .i64 t)).setCell ⟨gD, 4, none⟩ (.slice a21 l.length c21))) := hWO
          clear hm21 hs21 b21 B20 hWO HMN HDI2 HBN
          go_upto_region 22 with fail
          rw [← HWOE.out]
          clear HWOE z0 z1 z2 z3 z4 q0 q1 q2 q3 q4
          have hfo := HK17.out.2.2.below HWO.out.2.2 HN6.out
          obtain ⟨q0, q1, q2, q3, q4⟩ := HWO.out.1.cells
          obtain ⟨r0, r1, r2, r3, r4⟩ := (HF.out _ hfo).1.cells
          simp only at q0 q1 q2 q3 q4 r0 r1 r2 r3 r4
          have HSY3 : Hid (Calls Tryd.prog 12 #[.agg #[.int .i64 g, .int .i64 vv, .int .i64 x, .int .i64 t, .slice a21 l.length c21], .agg #[.int .i64 g, .int .i64 vv, .int .i64 x, .int .i64 t, .slice a9 l.length c9]] WO fun e w'' => e = .returned (.bool true) ∧ Below WO.heap.size WO w'') := same_yes ⟨g, vv, x, t, l⟩ (.slice a21 l.length c21) (.slice a9 l.length c9) WO HWO.out.2.1.at (HF.out _ hfo).2.1.at
          clear hfo
          go_wp2_with fail
          refine HSY3.out.mono ?_
          rintro e w22 ⟨rfl, b22⟩
          have HE : Hid (∀ w', Below w22.heap.size w22 w' → Below w.heap.size w w' ∧ SgsAt w' (.slice a11 (l.length + 1) c11) (List.replicate (l.length + 1) markS) ∧ SgsAt w' (.slice a12 (l.length + 2) c12) (List.replicate (l.length + 2) markS) ∧ w'.rangeAt gC 0 [.int .i64 (-7), .int .i64 0, .int .i64 0]) := fun w' hb => by
            have h1 := andThen HWO.out.2.2 (andThen b22 hb)
            have h2 := HK17.out.2.2.below h1 HN6.out
            exact ⟨(HC6.out _ h2.1).1, (HK17.out.1.kept h1).sg.at, (HK17.out.2.1.kept h1).sg.at, (HF.out _ h2).2.2⟩
          clear q0 q1 q2 q3 q4 r0 r1 r2 r3 r4 b22 HWO HSY3 HK17 HF HC6 HN6 HBW HTB HBS
          go_wp2
          go_loopw [14] (fun i wr => ∃ (k : Nat), k ≤ l.length + 2 ∧ i = .int .i64 (k : Int) ∧ Below w22.heap.size w22 wr) (fun i _ => l.length + 2 - (intOf i).toNat)
          case atStart => exact ⟨0, Nat.zero_le _, rfl, Below.refl _ _⟩
          case round =>
            obtain ⟨k, hk, rfl, hbel⟩ := hrel
            obtain ⟨hbw, h11, h12, hgr⟩ := HE.out _ hbel
            by_cases hlt : k < l.length + 2
            · have y0 : wr.cell? ⟨gC, 0, none⟩ = some (.int .i64 (-7)) := hgr 0 _ rfl
              have y1 : wr.cell? ⟨gC, 1, none⟩ = some (.int .i64 0) := hgr 1 _ rfl
              have y2 : wr.cell? ⟨gC, 2, none⟩ = some (.int .i64 0) := hgr 2 _ rfl
              obtain ⟨ao2, cap2, e2, -, -, hr2⟩ := h12.cells
              simp only [Value.slice.injEq] at e2
              obtain ⟨rfl, -, rfl⟩ := e2
              obtain ⟨b2, off2, rfl, x0, x1, x2⟩ := hr2 k markS (by rw [List.getElem?_replicate, if_pos hlt])
              simp only [markS] at x0 x1 x2
              by_cases hl1 : k < l.length + 1
              · obtain ⟨ao1, cap1, e1, -, -, hr1⟩ := h11.cells
                simp only [Value.slice.injEq] at e1
                obtain ⟨rfl, -, rfl⟩ := e1
                obtain ⟨b1, off1, rfl, v0, v1, v2⟩ := hr1 k markS (by rw [List.getElem?_replicate, if_pos hl1])
                simp only [markS] at v0 v1 v2
                clear hr1 hr2 hgr h11 h12 hbw HE
                have d1 : decide ((k : Int) < (l.length : Int) + 1) = true := decide_eq_true (by omega)
                go_wp2
                go_quiet (fail)
                go_wp2
                go_roundw
                case rel => exact ⟨k + 1, by omega, by go_num, below_drewN hbel _⟩
                case measure => simp [intOf]; omega
              · clear hr2 hgr h11 h12 hbw HE
                have d1 : decide ((k : Int) < (l.length : Int) + 1) = false := decide_eq_false (by omega)
                go_wp2
                go_quiet (fail)
                go_wp2
                go_roundw
                case rel => exact ⟨k + 1, by omega, by go_num, below_drewN hbel _⟩
                case measure => simp [intOf]; omega
            · obtain rfl : k = l.length + 2 := by omega
              clear hbel h11 h12 hgr HE
              go_wp2
              go_ret
              exact ⟨rfl, hbw⟩
end Go.Proofs.YtpikdngccgdhiaaDoor
