/-
  Package disk: Crash.
-/
import Derived.Test.YtjepeeopjjnglaaDkf
namespace Go.Proofs.Ytjepeeopjjnglaa
open Go Go.RowKit Go.ChangeShapes
open Wb

/-- a list of cuts -/
def CtS (w : World) (v : Value) (cs : List (Int × Int)) : Prop := ∃ a c, v = .slice a cs.length c ∧ cs.length ≤ c ∧ c ≤ maxLen ∧ (cs ≠ [] → ∃ b off, a = some ⟨b, off, none⟩ ∧ ∀ j (h : j < cs.length), w.cell? ⟨b, off + j * 2, none⟩ = some (.int .i64 cs[j].1) ∧ w.cell? ⟨b, off + j * 2 + 1, none⟩ = some (.int .i64 cs[j].2))
theorem CtS.kept {w w' : World} {v : Value} {cs : List (Int × Int)} (h : CtS w v cs) (hb : Below w.heap.size w w') : CtS w' v cs := by
  obtain ⟨a, c, e, h1, h2, h3⟩ := h
  refine ⟨a, c, e, h1, h2, fun hne => ?_⟩
  obtain ⟨b, off, e2, hc⟩ := h3 hne
  refine ⟨b, off, e2, fun j hj => ?_⟩
  obtain ⟨c0, c1⟩ := hc j hj
  exact ⟨(hb.cell (p := ⟨b, _, none⟩) (World.block_lt_of_cell? _ _ c0)).trans c0, (hb.cell (p := ⟨b, _, none⟩) (World.block_lt_of_cell? _ _ c1)).trans c1⟩
namespace Dk
/-- what a crash leaves of these files -/
def crL (l : Nm) (fo : Nat → Fl) (cs : List (Int × Int)) : List (List UInt8 × List Nat) := l.mapIdx fun k p => (p.1, lv (fo p.2) (cs.getD k (0, 0)))
def crash (S : DS) (keep : Int) (cs : List (Int × Int)) : List (List UInt8 × List Nat) := crL (lvN S keep) S.fo cs
end Dk
set_option maxRecDepth 100000 in
set_option maxHeartbeats 8000000 in
theorem dkcrash_any (B g : Nat) (S : Dk.DS) (M : Mm) (keep : Int) (cv : Value) (cs : List (Int × Int)) (w : World) (h : DM B w g S M) (hcs : CtS w cv cs) (hch : ∀ c ∈ S.ch, c.frm.length ≤ 1000 ∧ c.tow.length ≤ 1000 ∧ (c.tow ≠ [] → ∃ f, c.f = some f)) (hn : S.la.length + S.ch.length ≤ 1000000000) (hlv : ∀ p ∈ Dk.lvN S keep, p.2 ∈ S.ids ∧ p.1.length ≤ 1000) (hln : ∀ f ∈ S.ids, (S.fo f).syn ≤ (S.fo f).data.length ∧ (S.fo f).data.length ≤ 1000000000) :
    Calls Try.prog 14 #[.pointer (some ⟨g, 0, none⟩), .int .i64 keep, cv] w fun e w' => ∃ v, e = .returned v ∧ Fls (w.heap.size ≤ ·) w' v (Dk.crash S keep cs) ∧ Below w.heap.size w w' := by
  have H0 : Hid (∀ W, Below w.heap.size w W → DM B W g S M) := fun W hW => h.kept hW
  have HLE : Hid (Calls Try.prog 48 #[.pointer (some ⟨g, 0, none⟩), .int .i64 keep] w fun e w' => ∃ b, e = .returned (.map (some b)) ∧ MpA w' (some b) (Dk.lvN S keep) ∧ w.heap.size ≤ b ∧ Below w.heap.size w w') := dkleave_any B g S M keep w h hch ⟨by omega, by omega⟩
  have hLl : (Dk.lvN S keep).length ≤ 1000000000 := by
    have h9 := Dk.lvF_len (S.ch.take (Dk.lvK S keep)) S.la
    rw [List.length_take] at h9
    show (Dk.lvF _ _).length ≤ _
    omega
  have HLV : Hid ((∀ p ∈ Dk.lvN S keep, p.2 ∈ S.ids ∧ p.1.length ≤ 1000) ∧ ∀ f ∈ S.ids, (S.fo f).syn ≤ (S.fo f).data.length ∧ (S.fo f).data.length ≤ 1000000000) := ⟨hlv, hln⟩
  have HCS : Hid (CtS w cv cs) := hcs
  obtain ⟨ca, cc, hce, hc1, hc2, -⟩ := hcs
  subst hce
  unfold Dk.crash
  generalize Dk.lvN S keep = L at HLE hLl HLV ⊢
  unfold maxLen at hc2
  clear h hch hn hlv hln
  go_enter Try.func14, Try.ntmps14
  go_wp2_with fail
  refine HLE.out.mono ?_
  rintro e W0 ⟨mb, rfl, m0, hmb, b0⟩
  have HRS : Hid (Calls Try.prog 46 #[.map (some mb)] W0 fun e w' => ∃ v, e = .returned v ∧ w'.ownsRow W0.heap.size 9 1 v L.length (L.map fun p => enS p.1) ∧ Below W0.heap.size W0 w') := dkrising_any (some mb) L W0 m0 hLl
  have HM0 : Hid (MpA W0 (some mb) L ∧ Below w.heap.size w W0) := ⟨m0, b0⟩
  clear m0 hmb b0 HLE
  go_wp2_with fail
  refine HRS.out.mono ?_
  rintro e W1 ⟨nv, rfl, r1, b1⟩
  obtain ⟨na, nc, hnv, hn1, hn2⟩ := Mg.row_shape r1
  subst hnv
  have H1 : Hid (W1.ownsRow W0.heap.size 9 1 (.slice na L.length nc) L.length (L.map fun p => enS p.1) ∧ Below w.heap.size w W1 ∧ MpA W1 (some mb) L) := ⟨r1, andThen HM0.out.2 b1, HM0.out.1.kept b1⟩
  unfold maxLen at hn2
  clear r1 b1 HRS
  go_wp2_with fail
  go_loopw [8, 18] (fun o i wr => ∃ (k : Nat) (xs : List (List UInt8 × Value × List Nat)), k ≤ L.length ∧ i = .int .i64 (k : Int) ∧ FO W1.heap.size wr o xs ∧ (xs.map fun x => (x.1, x.2.2)) = (Dk.crL L S.fo cs).take k ∧ MpA wr (some mb) L ∧ Below W1.heap.size W1 wr) (fun _ i _ => L.length - (intOf i).toNat)
  case atStart => exact ⟨0, [], Nat.zero_le _, rfl, FO.nil _ _, rfl, H1.out.2.2, Below.refl _ _⟩
  case round =>
    obtain ⟨k, xs, hk, rfl, hfo, hxs, hmp, hb⟩ := hrel
    have HF : Hid (FO W1.heap.size wr u8 xs ∧ (xs.map fun x => (x.1, x.2.2)) = (Dk.crL L S.fo cs).take k ∧ MpA wr (some mb) L ∧ Below W1.heap.size W1 wr) := ⟨hfo, hxs, hmp, hb⟩
    have HBW : Hid (Below w.heap.size w wr) := andThen H1.out.2.1 hb
    clear hfo hxs hb hmp
    by_cases hlt : k < L.length
    · obtain ⟨p, hp⟩ : ∃ p, p = L[k] := ⟨_, rfl⟩
      have HPM : Hid (p ∈ L ∧ (Dk.crL L S.fo cs).take (k + 1) = (Dk.crL L S.fo cs).take k ++ [(p.1, Dk.lv (S.fo p.2) (cs.getD k (0, 0)))] ∧ L[k]? = some p) := by
        refine ⟨by rw [hp]; exact List.getElem_mem hlt, ?_, by rw [hp]; exact List.getElem?_eq_getElem hlt⟩
        unfold Dk.crL
        rw [List.take_succ_eq_append_getElem (by rw [List.length_mapIdx]; exact hlt), List.getElem_mapIdx, hp]
      clear hp
      obtain ⟨nm, f⟩ := p
      have HFI : Hid (f ∈ S.ids ∧ nm.length ≤ 1000 ∧ (S.fo f).syn ≤ (S.fo f).data.length ∧ (S.fo f).data.length ≤ 1000000000) := ⟨(HLV.out.1 _ HPM.out.1).1, (HLV.out.1 _ HPM.out.1).2, HLV.out.2 f (HLV.out.1 _ HPM.out.1).1⟩
      obtain ⟨gn, hgn⟩ : ∃ gn, na = some ⟨gn, 0, none⟩ := by
        rcases H1.out.1.2 with ⟨e, e0⟩ | ⟨gn, c7, cur7, e, -⟩
        · omega
        · simp only [Value.slice.injEq] at e
          exact ⟨gn, e.1⟩
      subst hgn
      have y0 : wr.cell? ⟨gn, k, none⟩ = some (.string ⟨nm.toArray⟩) := by
        have e := World.ownsRow.cellAt (Mg.row_kept H1.out.1 HF.out.2.2.2) k (by omega)
        rw [e, List.getElem?_map, HPM.out.2.2]
        rfl
      have egt : Dk.get L (⟨nm.toArray⟩ : ByteArray).data.toList = some f := by
        have e : (⟨nm.toArray⟩ : ByteArray).data.toList = nm := by simp
        rw [e]
        exact Dk.mem_get HF.out.2.2.1.1 HPM.out.1
      by_cases hkc : k < cs.length
      · obtain ⟨cb, co, hca, hcell⟩ := (HCS.out.kept (andThen HBW.out (up0 wr (.cells #[.int .i64 0, .int .i64 0] 88))))
        obtain ⟨-, -, hcell⟩ := hcell
        obtain ⟨gb, go, e9, hcc⟩ := hcell (List.ne_nil_of_length_pos (by omega))
        simp only [Value.slice.injEq] at hca
        obtain ⟨rfl, -, -⟩ := hca
        subst e9
        obtain ⟨r0, r1⟩ := hcc k hkc
        obtain ⟨cp, hcp⟩ : ∃ cp, cp = cs[k] := ⟨_, rfl⟩
        rw [← hcp] at r0 r1
        obtain ⟨ck, cz⟩ := cp
        have HCT : Hid (cs.getD k (0, 0) = (ck, cz)) := by
          show cs.getD k (0, 0) = _
          rw [hcp]
          simp [List.getD, List.getElem?_eq_getElem hkc]
        simp only at r0 r1
        clear hcp hcc hcell
        have bq := up0 wr (.cells #[.int .i64 ck, .int .i64 cz] 88)
        obtain ⟨Wq, hWq⟩ : ∃ W, W = wr.alloc (.cells #[.int .i64 ck, .int .i64 cz] 88) := ⟨_, rfl⟩
        have Lq := lb_new wr [.int .i64 ck, .int .i64 cz] 88
        have hLq : LB Wq wr.heap.size 88 [.int .i64 ck, .int .i64 cz] := by rw [hWq]; exact Lq
        rw [← hWq] at bq
        have HBQ : Hid (Below w.heap.size w Wq) := andThen HBW.out bq
        have yl := (HF.out.2.2.1.kept bq).look ⟨nm.toArray⟩ (sz_of HFI.out.2.1)
        rw [egt] at yl
        unfold fpo fp at yl
        have q0 := hLq.cell 0 _ rfl
        have q1 := hLq.cell 1 _ rfl
        have dW := H0.out Wq HBQ.out
        have HCL : Hid (Calls Try.prog 49 #[.pointer (some ⟨f, 0, none⟩), .agg #[.int .i64 ck, .int .i64 cz]] Wq fun e w' => ∃ v, e = .returned v ∧ Own Wq.heap.size w' v (Dk.lv (S.fo f) (ck, cz)) ∧ Below Wq.heap.size Wq w') := dkfleave_any B f (M.dv f) (S.fo f) _ _ Wq (dW.fb f HFI.out.1) (dW.fd f HFI.out.1) HFI.out.2.2.1 HFI.out.2.2.2
        have HBX : Hid (Below wr.heap.size wr Wq) := bq
        clear dW Lq hLq bq egt
        go_upto_region 9 with fail
        rw [← hWq]
        clear hWq
        go_wp2_with fail
        refine HCL.out.mono ?_
        rintro e W2 ⟨v2, rfl, o2, b2⟩
        obtain ⟨a2, k2, c2, hv2⟩ : ∃ (x : Option Addr) (y z : Nat), v2 = .slice x y z := by
          obtain ⟨x, z, e, -⟩ := Mg.row_shape o2.row
          exact ⟨x, _, z, e⟩
        subst hv2
        have b3 := up0 W2 (.cells #[.string ⟨nm.toArray⟩, .slice a2 k2 c2] 71)
        have L3 : LB (W2.alloc (.cells #[.string ⟨nm.toArray⟩, .slice a2 k2 c2] 71)) W2.heap.size 71 (enF (nm, .slice a2 k2 c2, Dk.lv (S.fo f) (ck, cz))) := lb_new W2 [.string ⟨nm.toArray⟩, .slice a2 k2 c2] 71
        have f3 := ((HF.out.1.kept HBX.out).kept b2).kept b3
        have xl : xs.length ≤ 1000000000 := by
          have h9 := congrArg List.length HF.out.2.1
          rw [List.length_map, List.length_take] at h9
          omega
        have bs3 : Below wr.heap.size wr (W2.alloc (.cells #[.string ⟨nm.toArray⟩, .slice a2 k2 c2] 71)) := andThen (andThen HBX.out b2) b3
        obtain ⟨o4, W4, hr4, f4, b4⟩ := f3.app 31 (nm, .slice a2 k2 c2, Dk.lv (S.fo f) (ck, cz)) ((o2.mono (Nat.le_trans HF.out.2.2.2.size HBX.out.size)).kept b3) W2.heap.size 1 L3 xl (Nat.le_trans HF.out.2.2.2.size bs3.size)
        have H4 : Hid (FO W1.heap.size W4 o4 (xs ++ [(nm, .slice a2 k2 c2, Dk.lv (S.fo f) (ck, cz))]) ∧ (xs ++ [(nm, Value.slice a2 k2 c2, Dk.lv (S.fo f) (ck, cz))]).map (fun x => (x.1, x.2.2)) = (Dk.crL L S.fo cs).take (k + 1) ∧ MpA W4 (some mb) L ∧ Below W1.heap.size W1 W4) := by
          have b14 : Below W1.heap.size W1 W4 := (andThen HF.out.2.2.2 bs3).trans b4
          refine ⟨f4, ?_, H1.out.2.2.kept b14, b14⟩
          rw [List.map_append, HF.out.2.1, HPM.out.2.1, HCT.out]
          rfl
        clear L3 f3 xl f4 b4 b3 o2 b2 HCL yl y0 q0 q1 bs3
        go_wp2_with (at_builtin; refine wpList_appRun rfl (.tmp 31) (.tmp 39) 31 rfl rfl rfl hr4 ?_)
        clear hr4
        go_wp2_with fail
        go_roundw
        case rel => exact ⟨k + 1, _, by omega, by go_num, H4.out.1, H4.out.2.1, H4.out.2.2.1, H4.out.2.2.2⟩
        case measure => simp [intOf]; omega
      · have HCT : Hid (cs.getD k (0, 0) = (0, 0)) := by
          show cs.getD k (0, 0) = _
          simp [List.getD, List.getElem?_eq_none (show cs.length ≤ k by omega)]
        have bq := up0 wr (.cells #[.int .i64 0, .int .i64 0] 88)
        obtain ⟨Wq, hWq⟩ : ∃ W, W = wr.alloc (.cells #[.int .i64 0, .int .i64 0] 88) := ⟨_, rfl⟩
        have Lq := lb_new wr [.int .i64 0, .int .i64 0] 88
        have hLq : LB Wq wr.heap.size 88 [.int .i64 0, .int .i64 0] := by rw [hWq]; exact Lq
        rw [← hWq] at bq
        have HBQ : Hid (Below w.heap.size w Wq) := andThen HBW.out bq
        have yl := (HF.out.2.2.1.kept bq).look ⟨nm.toArray⟩ (sz_of HFI.out.2.1)
        rw [egt] at yl
        unfold fpo fp at yl
        have q0 := hLq.cell 0 _ rfl
        have q1 := hLq.cell 1 _ rfl
        have dW := H0.out Wq HBQ.out
        have HCL : Hid (Calls Try.prog 49 #[.pointer (some ⟨f, 0, none⟩), .agg #[.int .i64 0, .int .i64 0]] Wq fun e w' => ∃ v, e = .returned v ∧ Own Wq.heap.size w' v (Dk.lv (S.fo f) (0, 0)) ∧ Below Wq.heap.size Wq w') := dkfleave_any B f (M.dv f) (S.fo f) _ _ Wq (dW.fb f HFI.out.1) (dW.fd f HFI.out.1) HFI.out.2.2.1 HFI.out.2.2.2
        have HBX : Hid (Below wr.heap.size wr Wq) := bq
        clear dW Lq hLq bq egt
        go_upto_region 9 with fail
        rw [← hWq]
        clear hWq
        go_wp2_with fail
        refine HCL.out.mono ?_
        rintro e W2 ⟨v2, rfl, o2, b2⟩
        obtain ⟨a2, k2, c2, hv2⟩ : ∃ (x : Option Addr) (y z : Nat), v2 = .slice x y z := by
          obtain ⟨x, z, e, -⟩ := Mg.row_shape o2.row
          exact ⟨x, _, z, e⟩
        subst hv2
        have b3 := up0 W2 (.cells #[.string ⟨nm.toArray⟩, .slice a2 k2 c2] 71)
        have L3 : LB (W2.alloc (.cells #[.string ⟨nm.toArray⟩, .slice a2 k2 c2] 71)) W2.heap.size 71 (enF (nm, .slice a2 k2 c2, Dk.lv (S.fo f) (0, 0))) := lb_new W2 [.string ⟨nm.toArray⟩, .slice a2 k2 c2] 71
        have f3 := ((HF.out.1.kept HBX.out).kept b2).kept b3
        have xl : xs.length ≤ 1000000000 := by
          have h9 := congrArg List.length HF.out.2.1
          rw [List.length_map, List.length_take] at h9
          omega
        have bs3 : Below wr.heap.size wr (W2.alloc (.cells #[.string ⟨nm.toArray⟩, .slice a2 k2 c2] 71)) := andThen (andThen HBX.out b2) b3
        obtain ⟨o4, W4, hr4, f4, b4⟩ := f3.app 31 (nm, .slice a2 k2 c2, Dk.lv (S.fo f) (0, 0)) ((o2.mono (Nat.le_trans HF.out.2.2.2.size HBX.out.size)).kept b3) W2.heap.size 1 L3 xl (Nat.le_trans HF.out.2.2.2.size bs3.size)
        have H4 : Hid (FO W1.heap.size W4 o4 (xs ++ [(nm, .slice a2 k2 c2, Dk.lv (S.fo f) (0, 0))]) ∧ (xs ++ [(nm, Value.slice a2 k2 c2, Dk.lv (S.fo f) (0, 0))]).map (fun x => (x.1, x.2.2)) = (Dk.crL L S.fo cs).take (k + 1) ∧ MpA W4 (some mb) L ∧ Below W1.heap.size W1 W4) := by
          have b14 : Below W1.heap.size W1 W4 := (andThen HF.out.2.2.2 bs3).trans b4
          refine ⟨f4, ?_, H1.out.2.2.kept b14, b14⟩
          rw [List.map_append, HF.out.2.1, HPM.out.2.1, HCT.out]
          rfl
        clear L3 f3 xl f4 b4 b3 o2 b2 HCL yl y0 q0 q1 bs3
        go_wp2_with (at_builtin; refine wpList_appRun rfl (.tmp 31) (.tmp 39) 31 rfl rfl rfl hr4 ?_)
        clear hr4
        go_wp2_with fail
        go_roundw
        case rel => exact ⟨k + 1, _, by omega, by go_num, H4.out.1, H4.out.2.1, H4.out.2.2.1, H4.out.2.2.2⟩
        case measure => simp [intOf]; omega
    · have HE : Hid ((xs.map fun x => (x.1, x.2.2)) = Dk.crL L S.fo cs) := by
        have h9 := HF.out.2.1
        rw [List.take_of_length_le (by unfold Dk.crL; rw [List.length_mapIdx]; omega)] at h9
        exact h9
      go_wp2_with fail
      go_returns
      refine ⟨_, rfl, ?_, HBW.out⟩
      rw [← HE.out]
      exact HF.out.1.fls.mono fun q hq => Nat.le_trans H1.out.2.1.size hq
end Go.Proofs.Ytjepeeopjjnglaa
