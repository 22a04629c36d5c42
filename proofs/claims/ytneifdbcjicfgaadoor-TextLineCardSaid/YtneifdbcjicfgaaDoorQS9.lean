import Derived.Deep.RegionHeld3
import Derived.Deep.CutRange
import Derived.BigQuiet
import Derived.Test.YtneifdbcjicfgaaDoorQS7
import Derived.Test.YtneifdbcjicfgaaDoorQI
/-
  TextLine: written's walk.
-/
namespace Go.Proofs.YtneifdbcjicfgaaDoor
open Go Go.RowKit
open Tx

set_option maxRecDepth 100000 in
set_option maxHeartbeats 8000000 in
theorem written_name (pk : Value) (zs : List Int) (nm : Int) (tx : ByteArray) (gp a : Int) (w : World) (_hT : WTab w) (hp : Is w pk zs) (hn : -9223372036854775808 ≤ nm ∧ nm ≤ 9223372036854775807) :
    Calls Tryd.prog 8 #[.agg #[.int .i64 1, pk, .int .i64 nm, .string tx, .int .i64 gp], .int .i64 a] w fun e w' => WrA 1 a e ∧ Below w.heap.size w w' := by
  obtain ⟨ap, cp, rfl, hc1, hc2, hcz⟩ := hp
  unfold maxLen at hc2
  have HWN := wst_new w 1 (.slice ap zs.length cp) nm tx gp a
  obtain ⟨WA, hWA⟩ : ∃ WA, WA = (((w.alloc (.cells #[.int .i64 1, .slice ap zs.length cp, .int .i64 nm, .string tx, .int .i64 gp] 29)).alloc (.cells #[.int .i64 0, .int .i64 0, .string ⟨#[]⟩, .int .i64 0] 24)).alloc (.cells #[.int .i64 1, .int .i64 a, .string ⟨#[]⟩, .int .i64 0] 24)) := ⟨_, rfl⟩
  rw [← hWA] at HWN
  have HWE : Hid (WA = (((w.alloc (.cells #[.int .i64 1, .slice ap zs.length cp, .int .i64 nm, .string tx, .int .i64 gp] 29)).alloc (.cells #[.int .i64 0, .int .i64 0, .string ⟨#[]⟩, .int .i64 0] 24)).alloc (.cells #[.int .i64 1, .int .i64 a, .string ⟨#[]⟩, .int .i64 0] 24))) := hWA
  clear hWA
  obtain ⟨gW, hgW⟩ : ∃ g, g = w.heap.size + 1 + 1 := ⟨_, rfl⟩
  obtain ⟨gR, hgR⟩ : ∃ g, g = w.heap.size + 1 := ⟨_, rfl⟩
  rw [← hgW, ← hgR] at HWN
  have HG : Hid (gW = w.heap.size + 1 + 1 ∧ gR = w.heap.size + 1) := ⟨hgW, hgR⟩
  clear hgW hgR
  have HZ : Hid (Wst w w.heap.size gR gW 1 (.slice ap zs.length cp) nm tx gp ⟨1, a, ⟨#[]⟩, 0⟩ WA) := HWN
  have HCZ : Hid (∀ (k : Nat) (z : Int), zs[k]? = some z → (-9223372036854775808 ≤ z ∧ z ≤ 9223372036854775807) ∧ ∃ b off, ap = some ⟨b, off, none⟩ ∧ w.cell? ⟨b, off + k, none⟩ = some (.int .i64 z)) := hcz
  clear HWN hcz
  have HAF : Hid (∀ w', Calls Tryd.prog 25 #[.string ⟨#[97, 98, 122, 65, 66, 90, 195, 169, 197, 191, 206, 177, 208, 182, 215, 144, 228, 184, 173, 234, 176, 128, 240, 144, 144, 128, 240, 160, 128, 128]⟩, .int .i64 nm] w' fun e w'' => ∃ t, e = .returned (.string t) ∧ NmT t 1 ∧ t.size ≤ 4 ∧ Below w'.heap.size w' w'') := fun w' => atF_any nm w' hn
  have HAO : Hid (∀ z w', (-9223372036854775808 ≤ z ∧ z ≤ 9223372036854775807) → Calls Tryd.prog 25 #[.string ⟨#[48, 49, 56, 57, 45, 95, 46, 97, 98, 122, 65, 66, 90, 195, 169, 197, 191, 206, 177, 208, 182, 215, 144, 228, 184, 173, 234, 176, 128, 240, 144, 144, 128, 240, 160, 128, 128]⟩, .int .i64 z] w' fun e w'' => ∃ t, e = .returned (.string t) ∧ (∀ (u : ByteArray) (m : Nat), NmT u m → m < 48 → NmT (u ++ t) (m + 1)) ∧ t.size ≤ 4 ∧ Below w'.heap.size w' w'') := fun z w' hz => atO_any z w' hz
  clear hn _hT
  go_enter Tryd.func8, Tryd.ntmps8
  go_upto_region 2 with fail
  rw [← HWE.out, ← HG.out.1, ← HG.out.2]
  clear HWE HG
  obtain ⟨p0, p1, p2, p3⟩ := HZ.out.cells
  obtain ⟨x0, x1, x2, x3⟩ := HZ.out.x.cells
  simp only at x0 x1 x2 x3
  go_wp2_with fail
  refine (HAF.out _).mono ?_
  rintro e w1 ⟨t0, rfl, hn0, hts0, b1⟩
  have HZ1 : Hid (Wst w w.heap.size gR gW 1 (.slice ap zs.length cp) nm tx gp ⟨1, a, ⟨#[]⟩, 0⟩ w1) := HZ.out.kept b1
  clear HAF b1 HZ p0 p1 p2 p3 x0 x1 x2 x3
  obtain ⟨x0, x1, x2, x3⟩ := HZ1.out.x.cells
  simp only at x0 x1 x2 x3
  have f2 := HZ1.out.x.frozen 2
  obtain ⟨W1, hWB⟩ : ∃ WB, WB = w1.setCell ⟨gW, 2, none⟩ (.string t0) := ⟨_, rfl⟩
  have HWB : Hid (W1 = w1.setCell ⟨gW, 2, none⟩ (.string t0)) := hWB
  have HZ3 : Hid (Wst w w.heap.size gR gW 1 (.slice ap zs.length cp) nm tx gp ⟨1, a, t0, 0⟩ W1) := by
    show Wst _ _ _ _ _ _ _ _ _ _ _
    rw [hWB]
    exact HZ1.out.text t0
  clear hWB HZ1
  go_upto_region 6 with fail
  rw [← HWB.out]
  clear HWB x0 x1 x2 x3 f2
  have HN0 : Hid (NmT t0 1) := hn0
  clear hn0
  go_wp2
  go_loopw [7] (fun i wr => ∃ (q : Nat) (t : ByteArray), q ≤ zs.length ∧ q ≤ 47 ∧ i = .int .i64 (q : Int) ∧ NmT t (q + 1) ∧ t.size ≤ 4 * (q + 1) ∧ Wst w w.heap.size gR gW 1 (.slice ap zs.length cp) nm tx gp ⟨1, a, t, 0⟩ wr) (fun i _ => 47 - (intOf i).toNat)
  case atStart => exact ⟨0, t0, Nat.zero_le _, Nat.zero_le _, rfl, HN0.out, hts0, HZ3.out⟩
  case round =>
    obtain ⟨q, t, hq1, hq2, rfl, hnt, hts, hzz⟩ := hrel
    clear HZ3 HN0
    have HNT : Hid (NmT t (q + 1)) := hnt
    have HZ4 : Hid (Wst w w.heap.size gR gW 1 (.slice ap zs.length cp) nm tx gp ⟨1, a, t, 0⟩ wr) := hzz
    obtain ⟨p0, p1, p2, p3⟩ := hzz.cells
    clear hnt hzz p0 p2 p3
    by_cases h1 : q < zs.length
    · by_cases h2 : q < 47
      · obtain ⟨z, hz⟩ : ∃ z, zs[q]? = some z := ⟨zs[q], List.getElem?_eq_getElem h1⟩
        obtain ⟨hzr, b, off, rfl, hcb⟩ := HCZ.out q z hz
        have HKF : Hid (∀ w', Below wr.heap.size wr w' → w'.cell? ⟨w.heap.size, 1, none⟩ = some (.slice (some ⟨b, off, none⟩) zs.length cp) ∧ w'.cell? ⟨b, off + q, none⟩ = some (.int .i64 z)) := fun w' hb => ⟨(HZ4.out.kept hb).cells.2.1, ((HZ4.out.kept hb).bel.cell (p := ⟨b, off + q, none⟩) (World.block_lt_of_cell? _ _ hcb)).trans hcb⟩
        have HXC : Hid (∀ w', Below wr.heap.size wr w' → w'.cell? ⟨gW, 2, none⟩ = some (.string t) ∧ w'.frozen? ⟨gW, 2, none⟩ = false) := fun w' hb => ⟨(HZ4.out.kept hb).x.cells.2.2.1, (HZ4.out.kept hb).x.frozen 2⟩
        have HAZ : Hid (∀ w', Calls Tryd.prog 25 #[.string ⟨#[48, 49, 56, 57, 45, 95, 46, 97, 98, 122, 65, 66, 90, 195, 169, 197, 191, 206, 177, 208, 182, 215, 144, 228, 184, 173, 234, 176, 128, 240, 144, 144, 128, 240, 160, 128, 128]⟩, .int .i64 z] w' fun e w'' => ∃ t, e = .returned (.string t) ∧ (∀ (u : ByteArray) (m : Nat), NmT u m → m < 48 → NmT (u ++ t) (m + 1)) ∧ t.size ≤ 4 ∧ Below w'.heap.size w' w'') := fun w' => HAO.out z w' hzr
        have hbel : Below wr.heap.size wr wr := Below.refl _ _
        have c0 := (HKF.out _ hbel).2
        have x2 := (HXC.out _ hbel).1
        have f2 := (HXC.out _ hbel).2
        have HCB : Hid (w.cell? ⟨b, off + q, none⟩ = some (.int .i64 z)) := hcb
        have HBL : Hid (b < w.heap.size) := World.block_lt_of_cell? _ _ hcb
        clear HCZ HAO hcb hz hzr
        have h192 : t.size ≤ 192 := by omega
        have HWT : Hid (∀ w', Below wr.heap.size wr w' → ∀ s, Wst w w.heap.size gR gW 1 (.slice (some ⟨b, off, none⟩) zs.length cp) nm tx gp ⟨1, a, s, 0⟩ (w'.setCell ⟨gW, 2, none⟩ (.string s))) := fun w' hb s => (HZ4.out.kept hb).text s
        clear HZ4
        go_upto_region 9 with fail
        go_region_with (go_at_call 25; refine (HAZ.out _).mono ?_; rintro e w5 ⟨t5, rfl, h5, hz5, b5⟩; have B5 := andThen (Below.drew hbel) b5; have x2b := (HXC.out _ B5).1; have f2b := (HXC.out _ B5).2; have p1b := (HKF.out _ B5).1; have c0b := (HKF.out _ B5).2)
        all_goals
          have HNX : Hid (NmT (t ++ t5) (q + 1 + 1) ∧ (t ++ t5).size ≤ 4 * (q + 1) + 4 ∧ Wst w w.heap.size gR gW 1 (.slice (some ⟨b, off, none⟩) zs.length cp) nm tx gp ⟨1, a, t ++ t5, 0⟩ (w5.setCell ⟨gW, 2, none⟩ (.string (t ++ t5)))) := ⟨h5 t (q + 1) HNT.out (by omega), by rw [ByteArray.size_append]; omega, HWT.out _ B5 _⟩
          clear HWT HAZ HXC HKF hbel c0 x2 f2 p1 HNT x2b f2b p1b c0b b5 B5 h5
          generalize w5.setCell ⟨gW, 2, none⟩ (.string (t ++ t5)) = WN at HNX ⊢
          go_wp2
          go_roundw
          case rel => exact ⟨q + 1, t ++ t5, by omega, by omega, by go_num, HNX.out.1, by have := HNX.out.2.1; omega, HNX.out.2.2⟩
          case measure => simp [intOf]; omega
      · have HOK : Hid (Okw t 1 t 0) := okw_name HNT.out
        have h200 : t.size ≤ 200 := by omega
        clear HCZ HAO HNT
        obtain ⟨WB, hWB⟩ : ∃ WB, WB = wr := ⟨_, rfl⟩
        subst hWB
        have HZ2 := HZ4
        clear HZ4
        go_upto_region 18 with fail
        clear p1
        have Hz1 := HZ2.out
        obtain ⟨x0, x1, x2, x3⟩ := Hz1.x.cells
        obtain ⟨r0, r1, r2, r3⟩ := Hz1.r.cells
        simp only [zeroW] at r0 r1 r2 r3
        simp only at x0 x1 x2 x3
        have z0 := Hz1.r.frozen 0
        have z1 := Hz1.r.frozen 1
        have z2 := Hz1.r.frozen 2
        have z3 := Hz1.r.frozen 3
        have HEN : Hid (Wx (store4 WB gR ⟨1, a, t, 0⟩) gR ⟨1, a, t, 0⟩ ∧ Below w.heap.size w (store4 WB gR ⟨1, a, t, 0⟩)) := Hz1.done
        have hne1 : gR ≠ gW := Hz1.low.2.2.1
        have hne2 : gW ≠ gR := hne1.symm
        clear Hz1 HZ2
        go_region_held3 (fun w' => w'.cell? ⟨gW, 0, none⟩ = some (.int .i64 1) ∧ w'.cell? ⟨gW, 1, none⟩ = some (.int .i64 a) ∧ w'.cell? ⟨gW, 2, none⟩ = some (.string t) ∧ w'.cell? ⟨gW, 3, none⟩ = some (.int .i64 0)) (go_keep) (fail)
        obtain ⟨WE, hWE⟩ : ∃ WE, WE = store4 WB gR ⟨1, a, t, 0⟩ := ⟨_, rfl⟩
        rw [← hWE] at HEN
        have hWE2 : WE = ((((WB.setCell ⟨gR, 0, none⟩ (.int .i64 1)).setCell ⟨gR, 1, none⟩ (.int .i64 a)).setCell ⟨gR, 2, none⟩ (.string t)).setCell ⟨gR, 3, none⟩ (.int .i64 0)) := hWE
        rw [← hWE2]
        clear hWE hWE2 x0 x1 x2 x3 z0 z1 z2 z3 r0 r1 r2 r3
        obtain ⟨y0, y1, y2, y3⟩ := HEN.out.1.cells
        simp only at y0 y1 y2 y3
        have HB9 : Hid (Below w.heap.size w WE.drew) := Below.drew HEN.out.2
        have v0 : WE.drew.cell? ⟨gR, 0, none⟩ = some (.int .i64 1) := y0
        have v1 : WE.drew.cell? ⟨gR, 1, none⟩ = some (.int .i64 a) := y1
        have v2 : WE.drew.cell? ⟨gR, 2, none⟩ = some (.string t) := y2
        have v3 : WE.drew.cell? ⟨gR, 3, none⟩ = some (.int .i64 0) := y3
        clear HEN y0 y1 y2 y3
        generalize WE.drew = WF at HB9 v0 v1 v2 v3 ⊢
        clear hne1 hne2
        go_wp2
        (try simp only [Exit.inBlock, Exit.then])
        refine bodyPost_ret (by simp [results, Tryd.results8, go_sem, v0, v1, v2, v3]; try rfl) rfl ?_
        exact ⟨⟨t, t, 0, rfl, fun _ => HOK.out, fun h => absurd (by decide) h, by omega⟩, HB9.out⟩
    · have HOK : Hid (Okw t 1 t 0) := okw_name HNT.out
      have h200 : t.size ≤ 200 := by omega
      clear HCZ HAO HNT
      obtain ⟨WB, hWB⟩ : ∃ WB, WB = wr := ⟨_, rfl⟩
      subst hWB
      have HZ2 := HZ4
      clear HZ4
      go_upto_region 18 with fail
      clear p1
      have Hz1 := HZ2.out
      obtain ⟨x0, x1, x2, x3⟩ := Hz1.x.cells
      obtain ⟨r0, r1, r2, r3⟩ := Hz1.r.cells
      simp only [zeroW] at r0 r1 r2 r3
      simp only at x0 x1 x2 x3
      have z0 := Hz1.r.frozen 0
      have z1 := Hz1.r.frozen 1
      have z2 := Hz1.r.frozen 2
      have z3 := Hz1.r.frozen 3
      have HEN : Hid (Wx (store4 WB gR ⟨1, a, t, 0⟩) gR ⟨1, a, t, 0⟩ ∧ Below w.heap.size w (store4 WB gR ⟨1, a, t, 0⟩)) := Hz1.done
      have hne1 : gR ≠ gW := Hz1.low.2.2.1
      have hne2 : gW ≠ gR := hne1.symm
      clear Hz1 HZ2
      go_region_held3 (fun w' => w'.cell? ⟨gW, 0, none⟩ = some (.int .i64 1) ∧ w'.cell? ⟨gW, 1, none⟩ = some (.int .i64 a) ∧ w'.cell? ⟨gW, 2, none⟩ = some (.string t) ∧ w'.cell? ⟨gW, 3, none⟩ = some (.int .i64 0)) (go_keep) (fail)
      obtain ⟨WE, hWE⟩ : ∃ WE, WE = store4 WB gR ⟨1, a, t, 0⟩ := ⟨_, rfl⟩
      rw [← hWE] at HEN
      have hWE2 : WE = ((((WB.setCell ⟨gR, 0, none⟩ (.int .i64 1)).setCell ⟨gR, 1, none⟩ (.int .i64 a)).setCell ⟨gR, 2, none⟩ (.string t)).setCell ⟨gR, 3, none⟩ (.int .i64 0)) := hWE
      rw [← hWE2]
      clear hWE hWE2 x0 x1 x2 x3 z0 z1 z2 z3 r0 r1 r2 r3
      obtain ⟨y0, y1, y2, y3⟩ := HEN.out.1.cells
      simp only at y0 y1 y2 y3
      have HB9 : Hid (Below w.heap.size w WE.drew) := Below.drew HEN.out.2
      have v0 : WE.drew.cell? ⟨gR, 0, none⟩ = some (.int .i64 1) := y0
      have v1 : WE.drew.cell? ⟨gR, 1, none⟩ = some (.int .i64 a) := y1
      have v2 : WE.drew.cell? ⟨gR, 2, none⟩ = some (.string t) := y2
      have v3 : WE.drew.cell? ⟨gR, 3, none⟩ = some (.int .i64 0) := y3
      clear HEN y0 y1 y2 y3
      generalize WE.drew = WF at HB9 v0 v1 v2 v3 ⊢
      clear hne1 hne2
      go_wp2
      (try simp only [Exit.inBlock, Exit.then])
      refine bodyPost_ret (by simp [results, Tryd.results8, go_sem, v0, v1, v2, v3]; try rfl) rfl ?_
      exact ⟨⟨t, t, 0, rfl, fun _ => HOK.out, fun h => absurd (by decide) h, by omega⟩, HB9.out⟩
end Go.Proofs.YtneifdbcjicfgaaDoor
