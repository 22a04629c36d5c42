import Derived.Deep.RegionHeld3
import Derived.Deep.CutRange
import Derived.BigQuiet
import Derived.Test.YtneifdbcjicfgaaDoorQS4
import Derived.Test.YtneifdbcjicfgaaDoorQI
/-
  TextLine: written's walk.
-/
namespace Go.Proofs.YtneifdbcjicfgaaDoor
open Go Go.RowKit
open Tx

/-- what written answers: the text and the word -/
def WrA (k a : Int) (e : Ending) : Prop := ∃ (t tx : ByteArray) (n : Int), e = .returned (.tuple #[.string t, .agg #[.int .i64 k, .int .i64 a, .string tx, .int .i64 n]]) ∧ ((1 ≤ k ∧ k ≤ 4) → Okw t k tx n) ∧ (¬ (1 ≤ k ∧ k ≤ 4) → t = ⟨#[]⟩) ∧ t.size ≤ 2000000
set_option maxRecDepth 100000 in
set_option maxHeartbeats 8000000 in
theorem written_sign (pk : Value) (zs : List Int) (nm : Int) (tx : ByteArray) (gp a : Int) (w : World) (_hT : WTab w) (hp : Is w pk zs) (hn : -9223372036854775808 ≤ nm ∧ nm ≤ 9223372036854775807) :
    Calls Tryd.prog 8 #[.agg #[.int .i64 4, pk, .int .i64 nm, .string tx, .int .i64 gp], .int .i64 a] w fun e w' => WrA 4 a e ∧ Below w.heap.size w w' := by
  obtain ⟨ap, cp, rfl, hc1, hc2, hcz⟩ := hp
  unfold maxLen at hc2
  have HWN := wst_new w 4 (.slice ap zs.length cp) nm tx gp a
  obtain ⟨WA, hWA⟩ : ∃ WA, WA = (((w.alloc (.cells #[.int .i64 4, .slice ap zs.length cp, .int .i64 nm, .string tx, .int .i64 gp] 29)).alloc (.cells #[.int .i64 0, .int .i64 0, .string ⟨#[]⟩, .int .i64 0] 24)).alloc (.cells #[.int .i64 4, .int .i64 a, .string ⟨#[]⟩, .int .i64 0] 24)) := ⟨_, rfl⟩
  rw [← hWA] at HWN
  have HWE : Hid (WA = (((w.alloc (.cells #[.int .i64 4, .slice ap zs.length cp, .int .i64 nm, .string tx, .int .i64 gp] 29)).alloc (.cells #[.int .i64 0, .int .i64 0, .string ⟨#[]⟩, .int .i64 0] 24)).alloc (.cells #[.int .i64 4, .int .i64 a, .string ⟨#[]⟩, .int .i64 0] 24))) := hWA
  clear hWA
  obtain ⟨gW, hgW⟩ : ∃ g, g = w.heap.size + 1 + 1 := ⟨_, rfl⟩
  obtain ⟨gR, hgR⟩ : ∃ g, g = w.heap.size + 1 := ⟨_, rfl⟩
  rw [← hgW, ← hgR] at HWN
  have HG : Hid (gW = w.heap.size + 1 + 1 ∧ gR = w.heap.size + 1) := ⟨hgW, hgR⟩
  clear hgW hgR
  have HZ : Hid (Wst w w.heap.size gR gW 4 (.slice ap zs.length cp) nm tx gp ⟨4, a, ⟨#[]⟩, 0⟩ WA) := HWN
  have HCZ : Hid (∀ (k : Nat) (z : Int), zs[k]? = some z → (-9223372036854775808 ≤ z ∧ z ≤ 9223372036854775807) ∧ ∃ b off, ap = some ⟨b, off, none⟩ ∧ w.cell? ⟨b, off + k, none⟩ = some (.int .i64 z)) := hcz
  clear HWN hcz
  have HAS : Hid (∀ w', Calls Tryd.prog 25 #[.string ⟨#[58, 44, 59, 126, 33, 61, 47, 64, 42, 43, 40, 41]⟩, .int .i64 nm] w' fun e w'' => ∃ t, e = .returned (.string t) ∧ Okw t 4 t 0 ∧ t.size ≤ 4 ∧ Below w'.heap.size w' w'') := fun w' => atS_any nm w' hn
  clear hn _hT HCZ hc1 hc2
  go_enter Tryd.func8, Tryd.ntmps8
  go_upto_region 2 with fail
  rw [← HWE.out, ← HG.out.1, ← HG.out.2]
  clear HWE HG
  obtain ⟨p0, p1, p2, p3⟩ := HZ.out.cells
  obtain ⟨x0, x1, x2, x3⟩ := HZ.out.x.cells
  simp only at x0 x1 x2 x3
  go_wp2_with fail
  refine (HAS.out _).mono ?_
  rintro e w1 ⟨t, rfl, hok, hts, b1⟩
  have HZ1 : Hid (Wst w w.heap.size gR gW 4 (.slice ap zs.length cp) nm tx gp ⟨4, a, ⟨#[]⟩, 0⟩ w1) := HZ.out.kept b1
  clear HAS b1 HZ p0 p1 p2 p3 x0 x1 x2 x3
  obtain ⟨x0, x1, x2, x3⟩ := HZ1.out.x.cells
  simp only at x0 x1 x2 x3
  have f2 := HZ1.out.x.frozen 2
  obtain ⟨WB, hWB⟩ : ∃ WB, WB = w1.setCell ⟨gW, 2, none⟩ (.string t) := ⟨_, rfl⟩
  have HWB : Hid (WB = w1.setCell ⟨gW, 2, none⟩ (.string t)) := hWB
  have HZ2 : Hid (Wst w w.heap.size gR gW 4 (.slice ap zs.length cp) nm tx gp ⟨4, a, t, 0⟩ WB) := by
    show Wst _ _ _ _ _ _ _ _ _ _ _
    rw [hWB]
    exact HZ1.out.text t
  clear hWB HZ1
  go_upto_region 18 with fail
  rw [← HWB.out]
  clear HWB x0 x1 x2 x3 f2
  have Hz1 := HZ2.out
  obtain ⟨x0, x1, x2, x3⟩ := Hz1.x.cells
  obtain ⟨r0, r1, r2, r3⟩ := Hz1.r.cells
  simp only [zeroW] at r0 r1 r2 r3
  simp only at x0 x1 x2 x3
  have z0 := Hz1.r.frozen 0
  have z1 := Hz1.r.frozen 1
  have z2 := Hz1.r.frozen 2
  have z3 := Hz1.r.frozen 3
  have HEN : Hid (Wx (store4 WB gR ⟨4, a, t, 0⟩) gR ⟨4, a, t, 0⟩ ∧ Below w.heap.size w (store4 WB gR ⟨4, a, t, 0⟩)) := Hz1.done
  have hne1 : gR ≠ gW := Hz1.low.2.2.1
  have hne2 : gW ≠ gR := hne1.symm
  clear Hz1 HZ2
  go_region_held3 (fun w' => w'.cell? ⟨gW, 0, none⟩ = some (.int .i64 4) ∧ w'.cell? ⟨gW, 1, none⟩ = some (.int .i64 a) ∧ w'.cell? ⟨gW, 2, none⟩ = some (.string t) ∧ w'.cell? ⟨gW, 3, none⟩ = some (.int .i64 0)) (go_keep) (fail)
  obtain ⟨WE, hWE⟩ : ∃ WE, WE = store4 WB gR ⟨4, a, t, 0⟩ := ⟨_, rfl⟩
  rw [← hWE] at HEN
  have hWE2 : WE = ((((WB.setCell ⟨gR, 0, none⟩ (.int .i64 4)).setCell ⟨gR, 1, none⟩ (.int .i64 a)).setCell ⟨gR, 2, none⟩ (.string t)).setCell ⟨gR, 3, none⟩ (.int .i64 0)) := hWE
  rw [← hWE2]
  clear hWE hWE2 x0 x1 x2 x3 z0 z1 z2 z3 r0 r1 r2 r3
  obtain ⟨y0, y1, y2, y3⟩ := HEN.out.1.cells
  simp only at y0 y1 y2 y3
  have HB9 : Hid (Below w.heap.size w WE.drew) := Below.drew HEN.out.2
  have v0 : WE.drew.cell? ⟨gR, 0, none⟩ = some (.int .i64 4) := y0
  have v1 : WE.drew.cell? ⟨gR, 1, none⟩ = some (.int .i64 a) := y1
  have v2 : WE.drew.cell? ⟨gR, 2, none⟩ = some (.string t) := y2
  have v3 : WE.drew.cell? ⟨gR, 3, none⟩ = some (.int .i64 0) := y3
  clear HEN y0 y1 y2 y3
  generalize WE.drew = WF at HB9 v0 v1 v2 v3 ⊢
  clear hne1 hne2
  go_wp2
  (try simp only [Exit.inBlock, Exit.then])
  refine bodyPost_ret (by simp [results, Tryd.results8, go_sem, v0, v1, v2, v3]; try rfl) rfl ?_
  exact ⟨⟨t, t, 0, rfl, fun _ => hok, fun h => absurd (by decide) h, by omega⟩, HB9.out⟩
theorem itoa_size (v : Int) (h1 : -9223372036854775808 ≤ v) (h2 : v ≤ 9223372036854775807) : (⟨(Lib.itoa v).toArray⟩ : ByteArray).size ≤ 100 := by
  show (Lib.itoa v).toArray.size ≤ 100
  unfold Lib.itoa
  split
  · have := dec_len 18 v.natAbs (by omega)
    simp
    omega
  · have := dec_len 18 v.toNat (by omega)
    simp
    omega
set_option maxRecDepth 100000 in
set_option maxHeartbeats 8000000 in
theorem written_num (pk : Value) (zs : List Int) (nm : Int) (tx : ByteArray) (gp a : Int) (w : World) (_hT : WTab w) (hp : Is w pk zs) (hn : -9223372036854775808 ≤ nm ∧ nm ≤ 9223372036854775807) :
    Calls Tryd.prog 8 #[.agg #[.int .i64 2, pk, .int .i64 nm, .string tx, .int .i64 gp], .int .i64 a] w fun e w' => WrA 2 a e ∧ Below w.heap.size w w' := by
  obtain ⟨ap, cp, rfl, hc1, hc2, hcz⟩ := hp
  unfold maxLen at hc2
  have HWN := wst_new w 2 (.slice ap zs.length cp) nm tx gp a
  obtain ⟨WA, hWA⟩ : ∃ WA, WA = (((w.alloc (.cells #[.int .i64 2, .slice ap zs.length cp, .int .i64 nm, .string tx, .int .i64 gp] 29)).alloc (.cells #[.int .i64 0, .int .i64 0, .string ⟨#[]⟩, .int .i64 0] 24)).alloc (.cells #[.int .i64 2, .int .i64 a, .string ⟨#[]⟩, .int .i64 0] 24)) := ⟨_, rfl⟩
  rw [← hWA] at HWN
  have HWE : Hid (WA = (((w.alloc (.cells #[.int .i64 2, .slice ap zs.length cp, .int .i64 nm, .string tx, .int .i64 gp] 29)).alloc (.cells #[.int .i64 0, .int .i64 0, .string ⟨#[]⟩, .int .i64 0] 24)).alloc (.cells #[.int .i64 2, .int .i64 a, .string ⟨#[]⟩, .int .i64 0] 24))) := hWA
  clear hWA
  obtain ⟨gW, hgW⟩ : ∃ g, g = w.heap.size + 1 + 1 := ⟨_, rfl⟩
  obtain ⟨gR, hgR⟩ : ∃ g, g = w.heap.size + 1 := ⟨_, rfl⟩
  rw [← hgW, ← hgR] at HWN
  have HG : Hid (gW = w.heap.size + 1 + 1 ∧ gR = w.heap.size + 1) := ⟨hgW, hgR⟩
  clear hgW hgR
  have HZ : Hid (Wst w w.heap.size gR gW 2 (.slice ap zs.length cp) nm tx gp ⟨2, a, ⟨#[]⟩, 0⟩ WA) := HWN
  have HCZ : Hid (∀ (k : Nat) (z : Int), zs[k]? = some z → (-9223372036854775808 ≤ z ∧ z ≤ 9223372036854775807) ∧ ∃ b off, ap = some ⟨b, off, none⟩ ∧ w.cell? ⟨b, off + k, none⟩ = some (.int .i64 z)) := hcz
  clear HWN hcz
  have HAS : Hid (∀ w', Calls Tryd.prog 26 #[.int .i64 nm] w' fun e w'' => e = .returned (.string ⟨(Lib.itoa nm).toArray⟩) ∧ Below w'.heap.size w' w'') := fun w' => decimal_any nm w' hn.1 hn.2
  have hok := okw_num nm hn.1 hn.2
  have hts : (⟨(Lib.itoa nm).toArray⟩ : ByteArray).size ≤ 100 := itoa_size nm hn.1 hn.2
  generalize (⟨(Lib.itoa nm).toArray⟩ : ByteArray) = t at *
  clear hn _hT HCZ hc1 hc2
  go_enter Tryd.func8, Tryd.ntmps8
  go_upto_region 2 with fail
  rw [← HWE.out, ← HG.out.1, ← HG.out.2]
  clear HWE HG
  obtain ⟨p0, p1, p2, p3⟩ := HZ.out.cells
  obtain ⟨x0, x1, x2, x3⟩ := HZ.out.x.cells
  simp only at x0 x1 x2 x3
  go_wp2_with fail
  refine (HAS.out _).mono ?_
  rintro e w1 ⟨rfl, b1⟩
  have HZ1 : Hid (Wst w w.heap.size gR gW 2 (.slice ap zs.length cp) nm tx gp ⟨2, a, ⟨#[]⟩, 0⟩ w1) := HZ.out.kept b1
  clear HAS b1 HZ p0 p1 p2 p3 x0 x1 x2 x3
  obtain ⟨x0, x1, x2, x3⟩ := HZ1.out.x.cells
  simp only at x0 x1 x2 x3
  have f2 := HZ1.out.x.frozen 2
  obtain ⟨W1, hWB⟩ : ∃ WB, WB = w1.setCell ⟨gW, 2, none⟩ (.string t) := ⟨_, rfl⟩
  have HWB : Hid (W1 = w1.setCell ⟨gW, 2, none⟩ (.string t)) := hWB
  have HZ3 : Hid (Wst w w.heap.size gR gW 2 (.slice ap zs.length cp) nm tx gp ⟨2, a, t, 0⟩ W1) := by
    show Wst _ _ _ _ _ _ _ _ _ _ _
    rw [hWB]
    exact HZ1.out.text t
  clear hWB HZ1
  go_upto_region 12 with fail
  rw [← HWB.out]
  clear HWB x0 x1 x2 x3 f2
  obtain ⟨p0, p1, p2, p3⟩ := HZ3.out.cells
  obtain ⟨x0, x1, x2, x3⟩ := HZ3.out.x.cells
  simp only at x0 x1 x2 x3
  have f3 := HZ3.out.x.frozen 3
  obtain ⟨WB, hWB⟩ : ∃ WB, WB = W1.setCell ⟨gW, 3, none⟩ (.int .i64 nm) := ⟨_, rfl⟩
  have HWB : Hid (WB = W1.setCell ⟨gW, 3, none⟩ (.int .i64 nm)) := hWB
  have HZ2 : Hid (Wst w w.heap.size gR gW 2 (.slice ap zs.length cp) nm tx gp ⟨2, a, t, nm⟩ WB) := by
    show Wst _ _ _ _ _ _ _ _ _ _ _
    rw [hWB]
    exact HZ3.out.num nm
  clear hWB HZ3
  go_upto_region 18 with fail
  rw [← HWB.out]
  clear HWB x0 x1 x2 x3 f3 p0 p1 p2 p3
  have Hz1 := HZ2.out
  obtain ⟨x0, x1, x2, x3⟩ := Hz1.x.cells
  obtain ⟨r0, r1, r2, r3⟩ := Hz1.r.cells
  simp only [zeroW] at r0 r1 r2 r3
  simp only at x0 x1 x2 x3
  have z0 := Hz1.r.frozen 0
  have z1 := Hz1.r.frozen 1
  have z2 := Hz1.r.frozen 2
  have z3 := Hz1.r.frozen 3
  have HEN : Hid (Wx (store4 WB gR ⟨2, a, t, nm⟩) gR ⟨2, a, t, nm⟩ ∧ Below w.heap.size w (store4 WB gR ⟨2, a, t, nm⟩)) := Hz1.done
  have hne1 : gR ≠ gW := Hz1.low.2.2.1
  have hne2 : gW ≠ gR := hne1.symm
  clear Hz1 HZ2
  go_region_held3 (fun w' => w'.cell? ⟨gW, 0, none⟩ = some (.int .i64 2) ∧ w'.cell? ⟨gW, 1, none⟩ = some (.int .i64 a) ∧ w'.cell? ⟨gW, 2, none⟩ = some (.string t) ∧ w'.cell? ⟨gW, 3, none⟩ = some (.int .i64 nm)) (go_keep) (fail)
  obtain ⟨WE, hWE⟩ : ∃ WE, WE = store4 WB gR ⟨2, a, t, nm⟩ := ⟨_, rfl⟩
  rw [← hWE] at HEN
  have hWE2 : WE = ((((WB.setCell ⟨gR, 0, none⟩ (.int .i64 2)).setCell ⟨gR, 1, none⟩ (.int .i64 a)).setCell ⟨gR, 2, none⟩ (.string t)).setCell ⟨gR, 3, none⟩ (.int .i64 nm)) := hWE
  rw [← hWE2]
  clear hWE hWE2 x0 x1 x2 x3 z0 z1 z2 z3 r0 r1 r2 r3
  obtain ⟨y0, y1, y2, y3⟩ := HEN.out.1.cells
  simp only at y0 y1 y2 y3
  have HB9 : Hid (Below w.heap.size w WE.drew) := Below.drew HEN.out.2
  have v0 : WE.drew.cell? ⟨gR, 0, none⟩ = some (.int .i64 2) := y0
  have v1 : WE.drew.cell? ⟨gR, 1, none⟩ = some (.int .i64 a) := y1
  have v2 : WE.drew.cell? ⟨gR, 2, none⟩ = some (.string t) := y2
  have v3 : WE.drew.cell? ⟨gR, 3, none⟩ = some (.int .i64 nm) := y3
  clear HEN y0 y1 y2 y3
  generalize WE.drew = WF at HB9 v0 v1 v2 v3 ⊢
  clear hne1 hne2
  go_wp2
  (try simp only [Exit.inBlock, Exit.then])
  refine bodyPost_ret (by simp [results, Tryd.results8, go_sem, v0, v1, v2, v3]; try rfl) rfl ?_
  exact ⟨⟨t, t, nm, rfl, fun _ => hok, fun h => absurd (by decide) h, by omega⟩, HB9.out⟩
set_option maxRecDepth 100000 in
set_option maxHeartbeats 8000000 in
theorem written_other (k : Int) (pk : Value) (zs : List Int) (nm : Int) (tx : ByteArray) (gp a : Int) (w : World) (_hT : WTab w) (hp : Is w pk zs) (_hn : -9223372036854775808 ≤ nm ∧ nm ≤ 9223372036854775807) (hk : ¬ (1 ≤ k ∧ k ≤ 4)) :
    Calls Tryd.prog 8 #[.agg #[.int .i64 k, pk, .int .i64 nm, .string tx, .int .i64 gp], .int .i64 a] w fun e w' => WrA k a e ∧ Below w.heap.size w w' := by
  obtain ⟨ap, cp, rfl, hc1, hc2, hcz⟩ := hp
  unfold maxLen at hc2
  have HWN := wst_new w k (.slice ap zs.length cp) nm tx gp a
  obtain ⟨WA, hWA⟩ : ∃ WA, WA = (((w.alloc (.cells #[.int .i64 k, .slice ap zs.length cp, .int .i64 nm, .string tx, .int .i64 gp] 29)).alloc (.cells #[.int .i64 0, .int .i64 0, .string ⟨#[]⟩, .int .i64 0] 24)).alloc (.cells #[.int .i64 k, .int .i64 a, .string ⟨#[]⟩, .int .i64 0] 24)) := ⟨_, rfl⟩
  rw [← hWA] at HWN
  have HWE : Hid (WA = (((w.alloc (.cells #[.int .i64 k, .slice ap zs.length cp, .int .i64 nm, .string tx, .int .i64 gp] 29)).alloc (.cells #[.int .i64 0, .int .i64 0, .string ⟨#[]⟩, .int .i64 0] 24)).alloc (.cells #[.int .i64 k, .int .i64 a, .string ⟨#[]⟩, .int .i64 0] 24))) := hWA
  clear hWA
  obtain ⟨gW, hgW⟩ : ∃ g, g = w.heap.size + 1 + 1 := ⟨_, rfl⟩
  obtain ⟨gR, hgR⟩ : ∃ g, g = w.heap.size + 1 := ⟨_, rfl⟩
  rw [← hgW, ← hgR] at HWN
  have HG : Hid (gW = w.heap.size + 1 + 1 ∧ gR = w.heap.size + 1) := ⟨hgW, hgR⟩
  clear hgW hgR
  have HZ : Hid (Wst w w.heap.size gR gW k (.slice ap zs.length cp) nm tx gp ⟨k, a, ⟨#[]⟩, 0⟩ WA) := HWN
  have HCZ : Hid (∀ (k : Nat) (z : Int), zs[k]? = some z → (-9223372036854775808 ≤ z ∧ z ≤ 9223372036854775807) ∧ ∃ b off, ap = some ⟨b, off, none⟩ ∧ w.cell? ⟨b, off + k, none⟩ = some (.int .i64 z)) := hcz
  clear HWN hcz
  clear _hn _hT HCZ hc1 hc2
  have k1 : (k == 1) = false := by simp; omega
  have k2 : (k == 2) = false := by simp; omega
  have k3 : (k == 3) = false := by simp; omega
  have k4 : (k == 4) = false := by simp; omega
  go_enter Tryd.func8, Tryd.ntmps8
  go_upto_region 2 with fail
  rw [← HWE.out, ← HG.out.1, ← HG.out.2]
  clear HWE HG
  obtain ⟨p0, p1, p2, p3⟩ := HZ.out.cells
  obtain ⟨x0, x1, x2, x3⟩ := HZ.out.x.cells
  simp only at x0 x1 x2 x3
  have HZ2 := HZ
  clear HZ
  clear p1 p2 p3 x0 x1 x2 x3
  obtain ⟨WB, hWB⟩ : ∃ WB, WB = WA := ⟨_, rfl⟩
  subst hWB
  go_upto_region 3 with fail
  clear p0
  have Hz1 := HZ2.out
  obtain ⟨x0, x1, x2, x3⟩ := Hz1.x.cells
  obtain ⟨r0, r1, r2, r3⟩ := Hz1.r.cells
  simp only [zeroW] at r0 r1 r2 r3
  simp only at x0 x1 x2 x3
  have z0 := Hz1.r.frozen 0
  have z1 := Hz1.r.frozen 1
  have z2 := Hz1.r.frozen 2
  have z3 := Hz1.r.frozen 3
  have HEN : Hid (Wx (store4 WB gR ⟨k, a, ⟨#[]⟩, 0⟩) gR ⟨k, a, ⟨#[]⟩, 0⟩ ∧ Below w.heap.size w (store4 WB gR ⟨k, a, ⟨#[]⟩, 0⟩)) := Hz1.done
  have hne1 : gR ≠ gW := Hz1.low.2.2.1
  have hne2 : gW ≠ gR := hne1.symm
  clear Hz1 HZ2
  go_region_held3 (fun w' => w'.cell? ⟨gW, 0, none⟩ = some (.int .i64 k) ∧ w'.cell? ⟨gW, 1, none⟩ = some (.int .i64 a) ∧ w'.cell? ⟨gW, 2, none⟩ = some (.string ⟨#[]⟩) ∧ w'.cell? ⟨gW, 3, none⟩ = some (.int .i64 0)) (go_keep) (fail)
  obtain ⟨WE, hWE⟩ : ∃ WE, WE = store4 WB gR ⟨k, a, ⟨#[]⟩, 0⟩ := ⟨_, rfl⟩
  rw [← hWE] at HEN
  have hWE2 : WE = ((((WB.setCell ⟨gR, 0, none⟩ (.int .i64 k)).setCell ⟨gR, 1, none⟩ (.int .i64 a)).setCell ⟨gR, 2, none⟩ (.string ⟨#[]⟩)).setCell ⟨gR, 3, none⟩ (.int .i64 0)) := hWE
  rw [← hWE2]
  clear hWE hWE2 x0 x1 x2 x3 z0 z1 z2 z3 r0 r1 r2 r3
  obtain ⟨y0, y1, y2, y3⟩ := HEN.out.1.cells
  simp only at y0 y1 y2 y3
  have HB9 : Hid (Below w.heap.size w WE.drew) := Below.drew HEN.out.2
  have v0 : WE.drew.cell? ⟨gR, 0, none⟩ = some (.int .i64 k) := y0
  have v1 : WE.drew.cell? ⟨gR, 1, none⟩ = some (.int .i64 a) := y1
  have v2 : WE.drew.cell? ⟨gR, 2, none⟩ = some (.string ⟨#[]⟩) := y2
  have v3 : WE.drew.cell? ⟨gR, 3, none⟩ = some (.int .i64 0) := y3
  clear HEN y0 y1 y2 y3
  generalize WE.drew = WF at HB9 v0 v1 v2 v3 ⊢
  clear hne1 hne2
  go_wp2
  (try simp only [Exit.inBlock, Exit.then])
  refine bodyPost_ret (by simp [results, Tryd.results8, go_sem, v0, v1, v2, v3]; try rfl) rfl ?_
  exact ⟨⟨⟨#[]⟩, ⟨#[]⟩, 0, rfl, fun h => absurd h hk, fun _ => rfl, by decide⟩, HB9.out⟩
end Go.Proofs.YtneifdbcjicfgaaDoor

/-
  TextLine: written's walk.
-/
namespace Go.Proofs.YtneifdbcjicfgaaDoor
open Go Go.RowKit
open Tx

set_option maxRecDepth 100000 in
set_option maxHeartbeats 8000000 in
theorem written_lit (pk : Value) (zs : List Int) (nm : Int) (tx : ByteArray) (gp a : Int) (w : World) (hT : WTab w) (hp : Is w pk zs) (_hn : -9223372036854775808 ≤ nm ∧ nm ≤ 9223372036854775807) :
    Calls Tryd.prog 8 #[.agg #[.int .i64 3, pk, .int .i64 nm, .string tx, .int .i64 gp], .int .i64 a] w fun e w' => WrA 3 a e ∧ Below w.heap.size w w' := by
  obtain ⟨ap, cp, rfl, hc1, hc2, hcz⟩ := hp
  unfold maxLen at hc2
  have HWN := wst_new w 3 (.slice ap zs.length cp) nm tx gp a
  obtain ⟨WA, hWA⟩ : ∃ WA, WA = (((w.alloc (.cells #[.int .i64 3, .slice ap zs.length cp, .int .i64 nm, .string tx, .int .i64 gp] 29)).alloc (.cells #[.int .i64 0, .int .i64 0, .string ⟨#[]⟩, .int .i64 0] 24)).alloc (.cells #[.int .i64 3, .int .i64 a, .string ⟨#[]⟩, .int .i64 0] 24)) := ⟨_, rfl⟩
  rw [← hWA] at HWN
  have HWE : Hid (WA = (((w.alloc (.cells #[.int .i64 3, .slice ap zs.length cp, .int .i64 nm, .string tx, .int .i64 gp] 29)).alloc (.cells #[.int .i64 0, .int .i64 0, .string ⟨#[]⟩, .int .i64 0] 24)).alloc (.cells #[.int .i64 3, .int .i64 a, .string ⟨#[]⟩, .int .i64 0] 24))) := hWA
  clear hWA
  obtain ⟨gW, hgW⟩ : ∃ g, g = w.heap.size + 1 + 1 := ⟨_, rfl⟩
  obtain ⟨gR, hgR⟩ : ∃ g, g = w.heap.size + 1 := ⟨_, rfl⟩
  rw [← hgW, ← hgR] at HWN
  have HG : Hid (gW = w.heap.size + 1 + 1 ∧ gR = w.heap.size + 1) := ⟨hgW, hgR⟩
  clear hgW hgR
  have HZ : Hid (Wst w w.heap.size gR gW 3 (.slice ap zs.length cp) nm tx gp ⟨3, a, ⟨#[]⟩, 0⟩ WA) := HWN
  have HCZ : Hid (∀ (k : Nat) (z : Int), zs[k]? = some z → (-9223372036854775808 ≤ z ∧ z ≤ 9223372036854775807) ∧ ∃ b off, ap = some ⟨b, off, none⟩ ∧ w.cell? ⟨b, off + k, none⟩ = some (.int .i64 z)) := hcz
  clear HWN hcz
  have HCU : Hid (∀ w', Calls Tryd.prog 11 #[.string tx] w' fun e w'' => e = .returned (.string (cutT tx)) ∧ w'' = w') := fun w' => cut_any tx w'
  have hct := cutT_le tx
  have HQU : Hid (∀ w', Below w.heap.size w w' → Calls Tryd.prog 22 #[.string (cutT tx)] w' fun e w'' => e = .returned (.string (quo (cutT tx))) ∧ Below w'.heap.size w' w'') := fun w' hb => quote_any (cutT tx) w' (by omega) (hT.kept hb).hids (hT.kept hb).db
  have hok := okw_lit (cutT tx)
  have hqz : (quo (cutT tx)).size ≤ 2000000 := by
    have := qs_len (cutT tx) (cutT tx).size 0 (by omega)
    rw [quo_size]
    omega
  generalize quo (cutT tx) = Q at *
  generalize cutT tx = t at *
  clear _hn hT HCZ hc1 hc2
  go_enter Tryd.func8, Tryd.ntmps8
  go_upto_region 2 with fail
  rw [← HWE.out, ← HG.out.1, ← HG.out.2]
  clear HWE HG
  obtain ⟨p0, p1, p2, p3⟩ := HZ.out.cells
  obtain ⟨x0, x1, x2, x3⟩ := HZ.out.x.cells
  simp only at x0 x1 x2 x3
  go_wp2_with fail
  refine (HCU.out _).mono ?_
  rintro e w1 ⟨rfl, hw1⟩
  have hw2 := hw1.symm
  subst hw2
  clear HCU hw1 p0 p1 p2 p3 x0 x1 x2 x3
  obtain ⟨x0, x1, x2, x3⟩ := HZ.out.x.cells
  simp only at x0 x1 x2 x3
  have f2 := HZ.out.x.frozen 2
  obtain ⟨W1, hWB⟩ : ∃ WB, WB = WA.setCell ⟨gW, 2, none⟩ (.string t) := ⟨_, rfl⟩
  have HWB : Hid (W1 = WA.setCell ⟨gW, 2, none⟩ (.string t)) := hWB
  have HZ3 : Hid (Wst w w.heap.size gR gW 3 (.slice ap zs.length cp) nm tx gp ⟨3, a, t, 0⟩ W1) := by
    show Wst _ _ _ _ _ _ _ _ _ _ _
    rw [hWB]
    exact HZ.out.text t
  clear hWB HZ
  go_upto_region 15 with fail
  rw [← HWB.out]
  clear HWB x0 x1 x2 x3 f2
  obtain ⟨x0, x1, x2, x3⟩ := HZ3.out.x.cells
  simp only at x0 x1 x2 x3
  have HXC : Hid (∀ w', Below W1.heap.size W1 w' → w'.cell? ⟨gW, 0, none⟩ = some (.int .i64 3) ∧ w'.cell? ⟨gW, 1, none⟩ = some (.int .i64 a) ∧ w'.cell? ⟨gW, 2, none⟩ = some (.string t) ∧ w'.cell? ⟨gW, 3, none⟩ = some (.int .i64 0)) := fun w' hb => (HZ3.out.kept hb).x.cells
  have HRC : Hid (∀ w', Below W1.heap.size W1 w' → w'.cell? ⟨gR, 0, none⟩ = some (.int .i64 0) ∧ w'.cell? ⟨gR, 1, none⟩ = some (.int .i64 0) ∧ w'.cell? ⟨gR, 2, none⟩ = some (.string ⟨#[]⟩) ∧ w'.cell? ⟨gR, 3, none⟩ = some (.int .i64 0)) := fun w' hb => (HZ3.out.kept hb).r.cells
  have HRF : Hid (∀ w', Below W1.heap.size W1 w' → ∀ j, w'.frozen? ⟨gR, j, none⟩ = false) := fun w' hb j => (HZ3.out.kept hb).r.frozen j
  have HQ1 : Hid (∀ w', Below W1.heap.size W1 w' → Calls Tryd.prog 22 #[.string t] w' fun e w'' => e = .returned (.string Q) ∧ Below w'.heap.size w' w'') := fun w' hb => HQU.out w' (HZ3.out.kept hb).bel
  have HEE : Hid (∀ w', Below W1.heap.size W1 w' → Wx (store4 w' gR ⟨3, a, t, 0⟩) gR ⟨3, a, t, 0⟩ ∧ Below w.heap.size w (store4 w' gR ⟨3, a, t, 0⟩)) := fun w' hb => (HZ3.out.kept hb).done
  have hbel : Below W1.heap.size W1 W1 := Below.refl _ _
  have hne1 : gR ≠ gW := HZ3.out.low.2.2.1
  have hne2 : gW ≠ gR := hne1.symm
  clear HZ3 HQU
  go_region_held3 (fun w' => w'.cell? ⟨gW, 0, none⟩ = some (.int .i64 3) ∧ w'.cell? ⟨gW, 1, none⟩ = some (.int .i64 a) ∧ w'.cell? ⟨gW, 2, none⟩ = some (.string t) ∧ w'.cell? ⟨gW, 3, none⟩ = some (.int .i64 0)) (first | (exact HXC.out _ B2) | (exact HXC.out _ (Below.drew hbel)) | go_keep)
    ((go_at_call 22; refine (HQ1.out _ (Below.drew hbel)).mono ?_; rintro e w2 ⟨rfl, b2⟩; have B2 := andThen (Below.drew hbel) b2; have r0 := (HRC.out _ B2).1; have r1 := (HRC.out _ B2).2.1; have r2 := (HRC.out _ B2).2.2.1; have r3 := (HRC.out _ B2).2.2.2; have z0 := HRF.out _ B2 0; have z1 := HRF.out _ B2 1; have z2 := HRF.out _ B2 2; have z3 := HRF.out _ B2 3))
  have HEN : Hid (Wx (store4 w2 gR ⟨3, a, t, 0⟩) gR ⟨3, a, t, 0⟩ ∧ Below w.heap.size w (store4 w2 gR ⟨3, a, t, 0⟩)) := HEE.out _ B2
  clear HEE HRF HRC HXC HQ1 hbel B2 b2
  obtain ⟨WF, hWE⟩ : ∃ WE, WE = store4 w2 gR ⟨3, a, t, 0⟩ := ⟨_, rfl⟩
  rw [← hWE] at HEN
  have hWE2 : WF = ((((w2.setCell ⟨gR, 0, none⟩ (.int .i64 3)).setCell ⟨gR, 1, none⟩ (.int .i64 a)).setCell ⟨gR, 2, none⟩ (.string t)).setCell ⟨gR, 3, none⟩ (.int .i64 0)) := hWE
  rw [← hWE2]
  clear hWE hWE2 x0 x1 x2 x3 z0 z1 z2 z3 r0 r1 r2 r3
  obtain ⟨v0, v1, v2, v3⟩ := HEN.out.1.cells
  simp only at v0 v1 v2 v3
  have HB9 : Hid (Below w.heap.size w WF) := HEN.out.2
  clear HEN hne1 hne2
  go_wp2
  (try simp only [Exit.inBlock, Exit.then])
  refine bodyPost_ret (by simp [results, Tryd.results8, go_sem, v0, v1, v2, v3]; try rfl) rfl ?_
  exact ⟨⟨Q, t, 0, rfl, fun _ => hok, fun h => absurd (by decide) h, hqz⟩, HB9.out⟩
end Go.Proofs.YtneifdbcjicfgaaDoor
