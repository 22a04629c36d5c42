import Derived.Lib.SlBytesConst
import Derived.Test.YtgjlkkikgkbamaaGreatDoorQS4
import Derived.Test.YtgjlkkikgkbamaaGreatDoorQF1
import Derived.Test.YtgjlkkikgkbamaaGreatDoorQSA
import Derived.Test.YtgjlkkikgkbamaaGreatDoorQSB
import Derived.Test.YtgjlkkikgkbamaaGreatDoorQSC
import Derived.Test.YtgjlkkikgkbamaaGreatDoorQSD
import Derived.Test.YtgjlkkikgkbamaaGreatDoorQSE
import Derived.Test.YtgjlkkikgkbamaaGreatDoorQSF
/-
  Package saga: Allowed.
-/
namespace Go.Proofs.YtgjlkkikgkbamaaGreatDoor
open Go Go.RowKit
open Wb

/-- the kinds below j that may come -/
def upK (x : SN) (j : Nat) : List Int := (([2, 3, 4, 5, 6, 7] : List Int).take (j - 2)).filter x.may
end Go.Proofs.YtgjlkkikgkbamaaGreatDoor

/-
  SagaMay .. : Apply whole; num, of, sameInts, first.
-/
namespace Go.Proofs.YtgjlkkikgkbamaaGreatDoor
open Go Go.RowKit
open Wb

/-- what Apply answers -/
theorem apply_any (S : Sg) (h : SH) (r : Rec) (d : Value) (w : World) (k : SgAt w S h) (hb : Bs w d r.l) (hT : STabs w) (hnm : S.nm.size ≤ 140737488355000) (hnm2 : r.nm.size ≤ 140737488355000) (hf : r.x.fit) : Calls Tryz.prog 8 #[sv S h, rv r.x r.nm d] w fun e w' => ApPost w (applyP S r) e w' := by
  unfold applyP
  cases hc : chkS S with
  | false => rw [if_pos rfl]; exact apply_c S h r d w k hT hnm hc
  | true =>
    rw [if_neg (by simp)]
    by_cases h0 : (upP 3 r).1 = 0
    · rw [if_neg (by simpa using h0)]
      by_cases h1 : refP S.x (upP 3 r).2.x = 0
      · rw [if_neg (by simpa using h1)]
        obtain ⟨⟨_, _, _, hv⟩, _⟩ := up3 r hb.good h0
        have hk1 := (ref_zero h1).2.1
        have hk : (upP 3 r).2.x.k = 2 ∨ (upP 3 r).2.x.k = 3 ∨ (upP 3 r).2.x.k = 4 ∨ (upP 3 r).2.x.k = 5 ∨ (upP 3 r).2.x.k = 6 ∨ (upP 3 r).2.x.k = 7 := by omega
        rcases hk with hk | hk | hk | hk | hk | hk
        · exact apply_2 S h r d w k hb hT hnm hnm2 hf hc h0 h1 hk
        · exact apply_3 S h r d w k hb hT hnm hnm2 hf hc h0 h1 hk
        · exact apply_4 S h r d w k hb hT hnm hnm2 hf hc h0 h1 hk
        · exact apply_5 S h r d w k hb hT hnm hnm2 hf hc h0 h1 hk
        · exact apply_6 S h r d w k hb hT hnm hnm2 hf hc h0 h1 hk
        · exact apply_7 S h r d w k hb hT hnm hnm2 hf hc h0 h1 hk
      · rw [if_pos h1]; exact apply_r S h r d w k hb hT hnm hnm2 hf hc h0 h1
    · rw [if_pos h0]; exact apply_u S h r d w k hb hT hnm hnm2 hf hc h0
theorem snum_any (z : Int) (w : World) : Calls Tryz.prog 6 #[.int .i64 z] w fun e w' => e = .returned (.int .i64 z) ∧ w = w' := by
  go_enter Tryz.func6, Tryz.ntmps6
  go_wp2
  go_ret
  exact ⟨rfl, rfl⟩
/-- results in two cells -/
theorem results_cell_cell {P : Program} {fn : Func} {p q : Tmp} {ty ty2 : TypeId} (h : fn.results = #[.cell p ty, .cell q ty2]) (tmps : Array Value) (w : World) (g g2 : Nat) (cs cs2 : List Value) (d d2 : TypeDesc)
    (hp : tmps.getD p undef = .pointer (some ⟨g, 0, none⟩)) (hc : w.rangeAt g 0 cs) (hu : P.underlying ty = some d) (hd : d.isRow = true) (hi : (P.info? ty).map (·.size) = some cs.length)
    (hp2 : tmps.getD q undef = .pointer (some ⟨g2, 0, none⟩)) (hc2 : w.rangeAt g2 0 cs2) (hu2 : P.underlying ty2 = some d2) (hd2 : d2.isRow = true) (hi2 : (P.info? ty2).map (·.size) = some cs2.length) :
    (results fn tmps).run P w = .ok (.tuple #[.agg cs.toArray, .agg cs2.toArray]) w := by
  have hp' : tmps[p]?.getD undef = .pointer (some ⟨g, 0, none⟩) := by simpa using hp
  have hp2' : tmps[q]?.getD undef = .pointer (some ⟨g2, 0, none⟩) := by simpa using hp2
  simp [results, h, hp', hp2', asAddr, run_loadVar_mid w g 0 ty cs d hc hu hd hi, run_loadVar_mid w g2 0 ty2 cs2 d2 hc2 hu2 hd2 hi2]
def buy : ByteArray := ⟨#[98, 117, 121]⟩
def rec1 : Rec := ⟨⟨3, 1, 7, 0, 0, 5, 0, 0, 2, 1⟩, buy, [105, 110]⟩
def sg1 : Sg := ⟨⟨7, 2, 1, 5, 5, 1, 0, false, 0, 0, 0⟩, buy, [105, 110], [], [], []⟩
end Go.Proofs.YtgjlkkikgkbamaaGreatDoor

/-
  SagaMay ..: sameInts, first.
-/
namespace Go.Proofs.YtgjlkkikgkbamaaGreatDoor
open Go Go.RowKit
open Wb

theorem in_newM (w : World) : Bs (w.alloc (.cells #[.int .u8 105, .int .u8 110] 5 (2, 3))) (.slice (some ⟨w.heap.size, 0, none⟩) 2 2) [105, 110] := by
  refine ⟨⟨some ⟨w.heap.size, 0, none⟩, 2, rfl, Nat.le_refl _, by simp [maxLen], fun e => (by cases e), fun _ => ⟨w.heap.size, 0, rfl, fun j hj => ?_⟩⟩, by intro x hx; simp at hx; omega⟩
  have e := heap_new w (.cells #[.int .u8 105, .int .u8 110] 5 (2, 3))
  rw [Nat.zero_add]
  match j, hj with
  | 0, _ => unfold World.cell?; rw [e]; rfl
  | 1, _ => unfold World.cell?; rw [e]; rfl
/-- what first answers -/
def FirstPost (w : World) (e : Ending) (w' : World) : Prop := ∃ a, ∃ c : Nat, ∃ h1 : SH, e = .returned (.tuple #[rv rec1.x rec1.nm (.slice a rec1.l.length c), sv sg1 h1]) ∧ Bs w' (.slice a rec1.l.length c) rec1.l ∧ SgAt w' sg1 h1 ∧ Below w.heap.size w w'
set_option maxRecDepth 100000 in
set_option maxHeartbeats 4000000 in
theorem first_any (w : World) : Calls Tryz.prog 10 #[] w fun e w' => FirstPost w e w' := by
  obtain ⟨Z, hZ⟩ : ∃ Z, Z = zcl := ⟨_, rfl⟩
  obtain ⟨ZR, hZR⟩ : ∃ ZR, ZR = zrl := ⟨_, rfl⟩
  have HZ : Hid (Z = zcl) := hZ
  have HZR : Hid (ZR = zrl) := hZR
  clear hZ hZR
  obtain ⟨L, hL⟩ : ∃ L : List Value, [.int .i64 3, .int .i64 1, .int .i64 7, .int .i64 0, .int .i64 0, .int .i64 5, .int .i64 0, .int .i64 0, .int .i64 2, .int .i64 1, .string ⟨#[98, 117, 121]⟩, .slice (some ⟨w.heap.size + 1 + 1, 0, none⟩) 2 2] = L := ⟨_, rfl⟩
  have HL : Hid (L = rcE rec1.x rec1.nm (.slice (some ⟨w.heap.size + 1 + 1, 0, none⟩) 2 2)) := hL.symm
  have HLI : Hid ((Tryz.prog.info? 27).map (·.size) = some L.length) := by show _ = _; rw [HL.out]; exact infoRec
  have HL1 : Hid (∀ v ∈ L, v.oneCell' = true) := by show ∀ v ∈ L, _; rw [HL.out]; exact rcE_one _ _ _ rfl
  have HLZ : Hid (L.length = ZR.length) := by show _ = _; rw [HL.out, HZR.out]; rfl
  -- behind b's box
  have H3 : Hid (∃ W3, W3 = ((((w.alloc (.cells ZR.toArray 27)).alloc (.cells Z.toArray 25)).alloc (.cells #[.int .u8 105, .int .u8 110] 5 (2, 3))).alloc (.cells ZR.toArray 27)).setCells (w.heap.size + 1 + 1 + 1) 0 L ∧ LB W3 w.heap.size 27 ZR ∧ LB W3 (w.heap.size + 1) 25 Z ∧ LB W3 (w.heap.size + 1 + 1 + 1) 27 L ∧ Bs W3 (.slice (some ⟨w.heap.size + 1 + 1, 0, none⟩) 2 2) [105, 110] ∧ w.heap.size + 1 + 1 + 1 < W3.heap.size ∧ Below w.heap.size w W3) := by
    obtain ⟨a1, a2, a3⟩ := lb_new2 w ZR Z 27 25
    have b1 := in_newM ((w.alloc (.cells ZR.toArray 27)).alloc (.cells Z.toArray 25))
    rw [heap_one, heap_one] at b1
    have c1 := lb_new (((w.alloc (.cells ZR.toArray 27)).alloc (.cells Z.toArray 25)).alloc (.cells #[.int .u8 105, .int .u8 110] 5 (2, 3))) ZR 27
    rw [heap_one, heap_one, heap_one] at c1
    have hb := (b1.alloc (.cells ZR.toArray 27))
    refine ⟨_, rfl, ((a1.kept (up0 _ _)).kept (up0 _ _)).others _ _ _ (by omega), ((a2.kept (up0 _ _)).kept (up0 _ _)).others _ _ _ (by omega), c1.sets L HLZ.out, bs_off hb _ _ _ (fun _ b off n cap e => ?_), by rw [size_cells, heap_one, heap_one, heap_one, heap_one]; omega, below_cells (by omega) _ 0 _ (up (up a3 _) _)⟩
    simp only [Value.slice.injEq, Option.some.injEq, Addr.mk.injEq] at e
    omega
  have kc : (convert 22 22 (.slice (some ⟨w.heap.size + 1 + 1, 0, none⟩) 2 2)).run Tryz.prog (((w.alloc (.cells ZR.toArray 27)).alloc (.cells Z.toArray 25)).alloc (.cells #[.int .u8 105, .int .u8 110] 5)) = .ok (.slice (some ⟨w.heap.size + 1 + 1, 0, none⟩) 2 2) (((w.alloc (.cells ZR.toArray 27)).alloc (.cells Z.toArray 25)).alloc (.cells #[.int .u8 105, .int .u8 110] 5 (2, 3))) := by
    have e := Lib.run_convert_bytes_const (P := Tryz.prog) ((w.alloc (.cells ZR.toArray 27)).alloc (.cells Z.toArray 25)) 22 5 #[.int .u8 105, .int .u8 110] 2 2 Tryz.underlying22 Tryz.underlying5
    rw [heap_one, heap_one] at e
    exact e
  have HZL : Hid (Z.length = 16) := by show _ = _; rw [HZ.out]; rfl
  go_enter Tryz.func10, Tryz.ntmps10
  go_wp2_with (first | (refine wpList_alloc_R HZR.out rfl rfl ?_; (try simp only [heap_one])) | (refine wpList_alloc_Z HZ.out rfl rfl ?_; (try simp only [heap_one])) | (refine wpList_store_mid rfl 27 (.tmp 2) (.tmp 5) rfl (w.heap.size + 1 + 1 + 1) 0 L.toArray rfl rfl (there_of (Z := ZR) (by have c1 := lb_new (((w.alloc (.cells ZR.toArray 27)).alloc (.cells Z.toArray 25)).alloc (.cells #[.int .u8 105, .int .u8 110] 5 (2, 3))) ZR 27; rw [heap_one, heap_one, heap_one] at c1; exact c1) (by simpa using HLZ.out)) (by simpa using HLI.out) (all_oneCell_toArray HL1.out) ?_; (obtain ⟨W3, hW3, hq⟩ := H3.out); (have H4 : Hid _ := hq); (rw [List.toList_toArray, ← hW3]); (have kc3 : (convert 22 22 (.slice (some ⟨W3.heap.size, 0, none⟩) 2 2)).run Tryz.prog (W3.alloc (.cells #[.int .u8 105, .int .u8 110] 5)) = .ok (.slice (some ⟨W3.heap.size, 0, none⟩) 2 2) (W3.alloc (.cells #[.int .u8 105, .int .u8 110] 5 (2, 3))) := Lib.run_convert_bytes_const (P := Tryz.prog) W3 22 5 #[.int .u8 105, .int .u8 110] 2 2 Tryz.underlying22 Tryz.underlying5); (clear hW3 hq H3); (obtain ⟨M, hM⟩ : ∃ M : List Value, [.int .i64 7, .string ⟨#[98, 117, 121]⟩, .int .i64 2, .int .i64 1, .int .i64 5, .int .i64 5, .slice (some ⟨W3.heap.size, 0, none⟩) 2 2, .int .i64 1, .int .i64 0, .bool false, .int .i64 0, .slice none 0 0, .slice none 0 0, .int .i64 0, .int .i64 0, .slice none 0 0] = M := ⟨_, rfl⟩); (have HM : Hid (M = scl sg1 ⟨some ⟨W3.heap.size, 0, none⟩, 2, none, 0, none, 0, none, 0⟩) := hM.symm); (have HMI : Hid ((Tryz.prog.info? 25).map (·.size) = some M.length) := (by show _ = _; rw [HM.out]; exact infoSaga)); (have HM1 : Hid (∀ v ∈ M, v.oneCell' = true) := (by show ∀ v ∈ M, _; rw [HM.out]; exact scl_one _ _)); (have HMZ : Hid (M.length = Z.length) := (by show _ = _; rw [HM.out, HZL.out]; rfl))) | (refine wpList_load_mid rfl 27 _ rfl (w.heap.size + 1 + 1 + 1) 0 rfl L _ H4.out.2.2.1.range Tryz.underlying27 rfl HLI.out ?_) | (refine wpList_store_mid rfl 27 (.tmp 0) (.tmp 6) rfl w.heap.size 0 L.toArray rfl rfl (there_of (H4.out.1.kept (up0 _ _)) (by simpa using HLZ.out)) (by simpa using HLI.out) (all_oneCell_toArray HL1.out) ?_; (rw [List.toList_toArray])) | (refine wpList_store_mid rfl 25 (.tmp 1) (.tmp 9) rfl (w.heap.size + 1) 0 M.toArray rfl rfl (there_of ((H4.out.2.1.kept (up0 _ _)).others _ _ _ (by omega)) (by simpa using HMZ.out)) (by simpa using HMI.out) (all_oneCell_toArray HM1.out) ?_; (rw [List.toList_toArray])) | fail)
  have HN : Hid (LB (((W3.alloc (.cells #[.int .u8 105, .int .u8 110] 5 (2, 3))).setCells w.heap.size 0 L).setCells (w.heap.size + 1) 0 M) w.heap.size 27 L ∧ LB (((W3.alloc (.cells #[.int .u8 105, .int .u8 110] 5 (2, 3))).setCells w.heap.size 0 L).setCells (w.heap.size + 1) 0 M) (w.heap.size + 1) 25 M ∧ Bs (((W3.alloc (.cells #[.int .u8 105, .int .u8 110] 5 (2, 3))).setCells w.heap.size 0 L).setCells (w.heap.size + 1) 0 M) (.slice (some ⟨w.heap.size + 1 + 1, 0, none⟩) 2 2) [105, 110] ∧ Bs (((W3.alloc (.cells #[.int .u8 105, .int .u8 110] 5 (2, 3))).setCells w.heap.size 0 L).setCells (w.heap.size + 1) 0 M) (.slice (some ⟨W3.heap.size, 0, none⟩) 2 2) [105, 110] ∧ Below w.heap.size w (((W3.alloc (.cells #[.int .u8 105, .int .u8 110] 5 (2, 3))).setCells w.heap.size 0 L).setCells (w.heap.size + 1) 0 M)) := by
    obtain ⟨q1, q2, q3, q4, q5, q6⟩ := H4.out
    have hoff : ∀ (b g : Nat), b ≠ g → Off g (.slice (some ⟨b, 0, none⟩) 2 2) [105, 110] := fun b g hne _ b' off n cap e => by
      simp only [Value.slice.injEq, Option.some.injEq, Addr.mk.injEq] at e
      omega
    exact ⟨((q1.kept (up0 _ _)).sets L HLZ.out).others _ _ _ (by omega), ((q2.kept (up0 _ _)).others _ _ _ (by omega)).sets M HMZ.out, bs_off (bs_off (q4.alloc _) _ _ _ (hoff _ _ (by omega))) _ _ _ (hoff _ _ (by omega)), bs_off (bs_off (in_newM W3) _ _ _ (hoff _ _ (by omega))) _ _ _ (hoff _ _ (by omega)), below_cells (by omega) _ 0 _ (below_cells (Nat.le_refl _) _ 0 _ (up q6 _))⟩
  refine bodyPost_ret (results_cell_cell (p := 0) (q := 1) (ty := 27) (ty2 := 25) rfl _ (((W3.alloc (.cells #[.int .u8 105, .int .u8 110] 5 (2, 3))).setCells w.heap.size 0 L).setCells (w.heap.size + 1) 0 M) w.heap.size (w.heap.size + 1) L M _ _ rfl HN.out.1.range Tryz.underlying27 rfl HLI.out rfl HN.out.2.1.range Tryz.underlying25 rfl HMI.out) rfl ?_
  exact ⟨some ⟨w.heap.size + 1 + 1, 0, none⟩, 2, ⟨some ⟨W3.heap.size, 0, none⟩, 2, none, 0, none, 0, none, 0⟩, by rw [HL.out, HM.out]; rfl, HN.out.2.2.1, ⟨HN.out.2.2.2.1, ⟨none, 0, rfl, by simp [sg1], fun e => absurd rfl e⟩, ⟨none, 0, rfl, by simp [sg1], fun e => absurd rfl e⟩, Bs.nil _⟩, HN.out.2.2.2.2⟩
end Go.Proofs.YtgjlkkikgkbamaaGreatDoor
