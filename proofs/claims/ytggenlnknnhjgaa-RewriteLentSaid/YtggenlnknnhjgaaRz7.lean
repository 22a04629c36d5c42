/-
  The Marks: hold.
-/
import Derived.Test.YtggenlnknnhjgaaRz6
import Derived.BigQuiet
namespace Go.Proofs.Ytggenlnknnhjgaa
open Go Go.RowKit Go.ChangeShapes
open Wb
open Cb
theorem bel_drewN {B : Nat} {a w : World} (h : Below B a w) (n : Nat) : Below B a (w.drewN n) := h.trans ⟨rfl, rfl, rfl, Nat.le_refl _, fun _ _ => rfl⟩
set_option maxRecDepth 100000 in
set_option maxHeartbeats 16000000 in
theorem mkhold_any (B g : Nat) (C0 : Nat → Option Cl) (V0 : List Value) (l f : List En) (lh0 fh0 : List (Value × Nat)) (w0 : World) (h : Bk B w0 C0 g V0 l f lh0 fh0) (hl : l.length ≤ 10000000) (hf : f.length ≤ 10000000) (hB : B ≤ w0.heap.size) :
    Calls Try.prog 11 #[.pointer (some ⟨g, 0, none⟩)] w0 fun e w' => e = .returned (.bool true) ∧ ∃ C' V' lh' fh', Bk B w' C' g V' l f lh' fh' ∧ lh'.length = l.length ∧ fh'.length = f.length ∧ St w0 w' C0 C' g V0 V' (fun _ => False) := by
  have HG : Hid (Calls Try.prog 10 #[.pointer (some ⟨g, 0, none⟩)] w0 fun e w' => e = .returned (.tuple #[]) ∧ ∃ C' V' lh' fh', Bk B w' C' g V' l f lh' fh' ∧ lh'.length = l.length ∧ fh'.length = f.length ∧ St w0 w' C0 C' g V0 V' (fun _ => False)) := mkgrow_any B g C0 V0 l f lh0 fh0 w0 h hl hf hB
  have HL0 : Hid (l.length ≤ 10000000 ∧ f.length ≤ 10000000) := ⟨hl, hf⟩
  clear h hl hf hB
  go_enter Try.func11, Try.ntmps11
  go_wp2_with fail
  refine HG.out.mono ?_
  rintro e w ⟨rfl, C, V, lh, fh, hbk, el, ef, hst⟩
  have HL : Hid ((l.length ≤ 10000000 ∧ f.length ≤ 10000000) ∧ lh.length = l.length ∧ fh.length = f.length) := ⟨HL0.out, el, ef⟩
  have H0 : Hid (Bk B w C g V l f lh fh) := hbk
  have HST : Hid (St w0 w C0 C g V0 V (fun _ => False)) := hst
  clear hbk el ef hst HG HL0
  obtain ⟨nL1, hnL1⟩ : ∃ m9, m9 = l.length := ⟨_, rfl⟩
  have hn11 : nL1 ≤ 10000000 := by rw [hnL1]; exact HL.out.1.1
  have HN1 : Hid (nL1 = l.length) := hnL1
  clear hnL1
  obtain ⟨aL1, cL1, aM1, cM1, aH1, cH1, hR1⟩ : ∃ aL cL aM cM aH cH, ∀ W, Below w.heap.size w W → W.cell? ⟨g, 0, none⟩ = some (.slice aL nL1 cL) ∧ W.cell? ⟨g, 1, none⟩ = some (.slice aM nL1 cM) ∧ W.cell? ⟨g, 4, none⟩ = some (.slice aH nL1 cH) ∧ ∀ (i : Nat) (x : En) (y : Value × Nat), l[i]? = some x → lh[i]? = some y → ∃ bL bM bH, aL = some ⟨bL, 0, none⟩ ∧ aM = some ⟨bM, 0, none⟩ ∧ aH = some ⟨bH, 0, none⟩ ∧ W.cell? ⟨bL, i, none⟩ = some x.1 ∧ W.cell? ⟨bM, i, none⟩ = some x.2.2 ∧ W.cell? ⟨bH, i, none⟩ = some y.1 := by
    obtain ⟨v0, v1, v2, v3, v4, v5, hV⟩ := H0.out.six
    obtain ⟨a, c, e, -⟩ := H0.out.bm.at_ 0 v0 23 (l.map (·.1)) (by rw [hV]; rfl) rfl
    obtain ⟨a2, c2, e2, -⟩ := H0.out.bm.at_ 1 v1 5 (l.map (·.2.2)) (by rw [hV]; rfl) rfl
    obtain ⟨a3, c3, e3, -⟩ := H0.out.bm.at_ 4 v4 23 (lh.map (·.1)) (by rw [hV]; rfl) rfl
    rw [List.length_map] at e e2 e3
    refine ⟨a, c, a2, c2, a3, c3, fun W hW => ?_⟩
    have hb := H0.out.kept hW
    refine ⟨?_, ?_, ?_, fun i x y hx hy => ?_⟩
    · rw [HN1.out, ← e]; exact hb.bm.cell 0 v0 (by rw [hV]; rfl)
    · rw [HN1.out, ← e2]; exact hb.bm.cell 1 v1 (by rw [hV]; rfl)
    · rw [HN1.out, ← HL.out.2.1, ← e3]; exact hb.bm.cell 4 v4 (by rw [hV]; rfl)
    · obtain ⟨k, k2, l1, -, -, h9⟩ := hb.bm.at_ 0 v0 23 (l.map (·.1)) (by rw [hV]; rfl) rfl
      obtain ⟨m, m2, l2, -, -, h92⟩ := hb.bm.at_ 1 v1 5 (l.map (·.2.2)) (by rw [hV]; rfl) rfl
      obtain ⟨q, q2, l3, -, -, h93⟩ := hb.bm.at_ 4 v4 23 (lh.map (·.1)) (by rw [hV]; rfl) rfl
      rw [List.length_map] at l1 l2 l3
      rw [e] at l1
      rw [e2] at l2
      rw [e3] at l3
      simp only [Value.slice.injEq] at l1 l2 l3
      obtain ⟨b1, u1, u2⟩ := h9 i x.1 (by rw [List.getElem?_map, hx]; rfl)
      obtain ⟨b2, u3, u4⟩ := h92 i x.2.2 (by rw [List.getElem?_map, hx]; rfl)
      obtain ⟨b3, u5, u6⟩ := h93 i y.1 (by rw [List.getElem?_map, hy]; rfl)
      exact ⟨b1, b2, b3, l1.1.trans u1, l2.1.trans u3, l3.1.trans u5, u2, u4, u6⟩
  have HR1 : Hid (∀ W, Below w.heap.size w W → W.cell? ⟨g, 0, none⟩ = some (.slice aL1 nL1 cL1) ∧ W.cell? ⟨g, 1, none⟩ = some (.slice aM1 nL1 cM1) ∧ W.cell? ⟨g, 4, none⟩ = some (.slice aH1 nL1 cH1) ∧ ∀ (i : Nat) (x : En) (y : Value × Nat), l[i]? = some x → lh[i]? = some y → ∃ bL bM bH, aL1 = some ⟨bL, 0, none⟩ ∧ aM1 = some ⟨bM, 0, none⟩ ∧ aH1 = some ⟨bH, 0, none⟩ ∧ W.cell? ⟨bL, i, none⟩ = some x.1 ∧ W.cell? ⟨bM, i, none⟩ = some x.2.2 ∧ W.cell? ⟨bH, i, none⟩ = some y.1) := hR1
  clear hR1
  go_wp2_with fail
  go_loopw [3] (fun i wr => ∃ k : Nat, k ≤ nL1 ∧ i = .int .i64 (k : Int) ∧ Below w.heap.size w wr) (fun i _ => nL1 - (intOf i).toNat)
  case atStart => exact ⟨0, Nat.zero_le _, rfl, Below.refl _ _⟩
  case round =>
    obtain ⟨i, hi, rfl, hb⟩ := hrel
    have HB : Hid (Below w.heap.size w wr) := hb
    clear hb
    obtain ⟨r1, r2, r3, -⟩ := HR1.out wr HB.out
    by_cases hlt : i < nL1
    · obtain ⟨x, hx⟩ : ∃ x, l[i]? = some x := ⟨l[i]'(by rw [← HN1.out]; exact hlt), List.getElem?_eq_getElem _⟩
      obtain ⟨y, hy⟩ : ∃ y, lh[i]? = some y := ⟨lh[i]'(by rw [HL.out.2.1, ← HN1.out]; exact hlt), List.getElem?_eq_getElem _⟩
      have hxm := List.mem_of_getElem? hx
      obtain ⟨⟨mz, hmz⟩, hxn⟩ := H0.out.ml x hxm
      have hvx := H0.out.vl x hxm
      have hvy := H0.out.hl.2 i x y hx hy
      obtain ⟨ax, cx, ex, -, -⟩ := hvx.sh H0.out.col
      obtain ⟨ay, cy, ey, y8, y9⟩ := hvy.sh H0.out.col
      obtain ⟨bL, bM, bH, e1, e2, e3, -⟩ := (HR1.out wr HB.out).2.2.2 i x y hx hy
      obtain ⟨xv, xn, xm⟩ := x
      obtain ⟨yv, yn⟩ := y
      simp only at hmz hxn hvx hvy ex ey y8
      subst hmz ex ey e1 e2 e3
      have HC : Hid (∀ W, Below w.heap.size w W → W.cell? ⟨bL, i, none⟩ = some (.slice ax xn cx) ∧ W.cell? ⟨bM, i, none⟩ = some (.int .u8 mz) ∧ W.cell? ⟨bH, i, none⟩ = some (.slice ay yn cy) ∧ (∀ j, j < xn → ∃ b, ax = some ⟨b, 0, none⟩ ∧ W.cell? ⟨b, j, none⟩ = some (.int .u8 mz)) ∧ ∀ j, j < yn → ∃ b, ay = some ⟨b, 0, none⟩ ∧ W.cell? ⟨b, j, none⟩ = some (.int .u8 mz)) := fun W hW => by
        obtain ⟨q1, q2, q3, a1, a2, a3, p1, p2, p3⟩ := (HR1.out W hW).2.2.2 i _ _ hx hy
        simp only [Option.some.injEq, Addr.mk.injEq, and_true] at a1 a2 a3
        subst a1 a2 a3
        refine ⟨p1, p2, p3, fun j hj => ?_, fun j hj => ?_⟩
        · obtain ⟨b, cap, z, k1, k2, k3, k4⟩ := hvx.read (H0.out.col.kept hW) j hj
          simp only [Value.slice.injEq] at k1
          refine ⟨b, k1.1, ?_⟩
          have k5 := k4 0 (show 0 < kB.c by decide)
          have k6 : z[0]? = some (.int .u8 mz) := k3
          rw [k6] at k5
          have k7 : W.cell? ⟨b, j * 1 + 0, none⟩ = some (.int .u8 mz) := k5
          simp only [Nat.mul_one, Nat.add_zero] at k7
          exact k7
        · obtain ⟨b, cap, z, k1, k2, k3, k4⟩ := hvy.read (H0.out.col.kept hW) j hj
          simp only [Value.slice.injEq] at k1
          refine ⟨b, k1.1, ?_⟩
          have k5 := k4 0 (show 0 < kB.c by decide)
          have k6 : z[0]? = some (.int .u8 mz) := k3
          rw [k6] at k5
          have k7 : W.cell? ⟨b, j * 1 + 0, none⟩ = some (.int .u8 mz) := k5
          simp only [Nat.mul_one, Nat.add_zero] at k7
          exact k7
      unfold maxLen at y9
      clear hx hy hxm hvx hvy
      go_wp2_with fail
      clear r1 r2 r3
      obtain ⟨wo, hwo⟩ : ∃ x, x = wr := ⟨_, rfl⟩
      subst hwo
      go_loopw [4] (fun q w2 => ∃ j : Nat, j ≤ yn ∧ q = .int .i64 (j : Int) ∧ Below w.heap.size w w2) (fun q _ => yn - (intOf q).toNat)
      case atStart => exact ⟨0, Nat.zero_le _, rfl, HB.out⟩
      case round =>
        obtain ⟨j, hj, rfl, hb2⟩ := hrel
        have HB2 : Hid (Below w.heap.size w wr) := hb2
        clear hb2
        obtain ⟨r1, r2, r3, -⟩ := HR1.out wr HB2.out
        obtain ⟨s1, s2, s3, s4, s5⟩ := HC.out wr HB2.out
        by_cases hjl : j < yn
        · obtain ⟨by_, rfl, t5⟩ := s5 j hjl
          by_cases hjx : j < xn
          · obtain ⟨bx, rfl, t4⟩ := s4 j hjx
            have d1 : ((j : Int) < (xn : Int)) = True := eq_true (by omega)
            have d2 : decide ((j : Int) < (xn : Int)) = true := decide_eq_true (by omega)
            clear s4 s5
            go_wp2_with fail
            go_quiet (fail)
            go_wp2_with fail
            go_roundw
            case rel => exact ⟨j + 1, by omega, by go_num, bel_drewN HB2.out _⟩
            case measure => simp [intOf]; omega
          · have d1 : ((j : Int) < (xn : Int)) = False := eq_false (by omega)
            have d2 : decide ((j : Int) < (xn : Int)) = false := decide_eq_false (by omega)
            clear s4 s5
            go_wp2_with fail
            go_quiet (fail)
            go_wp2_with fail
            go_roundw
            case rel => exact ⟨j + 1, by omega, by go_num, bel_drewN HB2.out _⟩
            case measure => simp [intOf]; omega
        · clear s4 s5
          go_wp2_with fail
          go_roundw
          case rel => exact ⟨i + 1, by omega, by go_num, HB2.out⟩
          case measure => simp [intOf]; omega
    · obtain ⟨wA1, hwA1⟩ : ∃ x, x = wr := ⟨_, rfl⟩
      have HA1 : Hid (Below w.heap.size w wA1) := by rw [hwA1]; exact HB.out
      rw [← hwA1] at r1 ⊢
      clear hwA1 HB r2 r3
      obtain ⟨nL2, hnL2⟩ : ∃ m9, m9 = f.length := ⟨_, rfl⟩
      have hn12 : nL2 ≤ 10000000 := by rw [hnL2]; exact HL.out.1.2
      have HN2 : Hid (nL2 = f.length) := hnL2
      clear hnL2
      obtain ⟨aL2, cL2, aM2, cM2, aH2, cH2, hR2⟩ : ∃ aL cL aM cM aH cH, ∀ W, Below w.heap.size w W → W.cell? ⟨g, 2, none⟩ = some (.slice aL nL2 cL) ∧ W.cell? ⟨g, 3, none⟩ = some (.slice aM nL2 cM) ∧ W.cell? ⟨g, 5, none⟩ = some (.slice aH nL2 cH) ∧ ∀ (i : Nat) (x : En) (y : Value × Nat), f[i]? = some x → fh[i]? = some y → ∃ bL bM bH, aL = some ⟨bL, 0, none⟩ ∧ aM = some ⟨bM, 0, none⟩ ∧ aH = some ⟨bH, 0, none⟩ ∧ W.cell? ⟨bL, i, none⟩ = some x.1 ∧ W.cell? ⟨bM, i, none⟩ = some x.2.2 ∧ W.cell? ⟨bH, i, none⟩ = some y.1 := by
        obtain ⟨v0, v1, v2, v3, v4, v5, hV⟩ := H0.out.six
        obtain ⟨a, c, e, -⟩ := H0.out.bm.at_ 2 v2 22 (f.map (·.1)) (by rw [hV]; rfl) rfl
        obtain ⟨a2, c2, e2, -⟩ := H0.out.bm.at_ 3 v3 3 (f.map (·.2.2)) (by rw [hV]; rfl) rfl
        obtain ⟨a3, c3, e3, -⟩ := H0.out.bm.at_ 5 v5 22 (fh.map (·.1)) (by rw [hV]; rfl) rfl
        rw [List.length_map] at e e2 e3
        refine ⟨a, c, a2, c2, a3, c3, fun W hW => ?_⟩
        have hb := H0.out.kept hW
        refine ⟨?_, ?_, ?_, fun i x y hx hy => ?_⟩
        · rw [HN2.out, ← e]; exact hb.bm.cell 2 v2 (by rw [hV]; rfl)
        · rw [HN2.out, ← e2]; exact hb.bm.cell 3 v3 (by rw [hV]; rfl)
        · rw [HN2.out, ← HL.out.2.2, ← e3]; exact hb.bm.cell 5 v5 (by rw [hV]; rfl)
        · obtain ⟨k, k2, l1, -, -, h9⟩ := hb.bm.at_ 2 v2 22 (f.map (·.1)) (by rw [hV]; rfl) rfl
          obtain ⟨m, m2, l2, -, -, h92⟩ := hb.bm.at_ 3 v3 3 (f.map (·.2.2)) (by rw [hV]; rfl) rfl
          obtain ⟨q, q2, l3, -, -, h93⟩ := hb.bm.at_ 5 v5 22 (fh.map (·.1)) (by rw [hV]; rfl) rfl
          rw [List.length_map] at l1 l2 l3
          rw [e] at l1
          rw [e2] at l2
          rw [e3] at l3
          simp only [Value.slice.injEq] at l1 l2 l3
          obtain ⟨b1, u1, u2⟩ := h9 i x.1 (by rw [List.getElem?_map, hx]; rfl)
          obtain ⟨b2, u3, u4⟩ := h92 i x.2.2 (by rw [List.getElem?_map, hx]; rfl)
          obtain ⟨b3, u5, u6⟩ := h93 i y.1 (by rw [List.getElem?_map, hy]; rfl)
          exact ⟨b1, b2, b3, l1.1.trans u1, l2.1.trans u3, l3.1.trans u5, u2, u4, u6⟩
      have HR2 : Hid (∀ W, Below w.heap.size w W → W.cell? ⟨g, 2, none⟩ = some (.slice aL2 nL2 cL2) ∧ W.cell? ⟨g, 3, none⟩ = some (.slice aM2 nL2 cM2) ∧ W.cell? ⟨g, 5, none⟩ = some (.slice aH2 nL2 cH2) ∧ ∀ (i : Nat) (x : En) (y : Value × Nat), f[i]? = some x → fh[i]? = some y → ∃ bL bM bH, aL2 = some ⟨bL, 0, none⟩ ∧ aM2 = some ⟨bM, 0, none⟩ ∧ aH2 = some ⟨bH, 0, none⟩ ∧ W.cell? ⟨bL, i, none⟩ = some x.1 ∧ W.cell? ⟨bM, i, none⟩ = some x.2.2 ∧ W.cell? ⟨bH, i, none⟩ = some y.1) := hR2
      clear hR2
      go_wp2_with fail
      go_loopw [5] (fun i wr => ∃ k : Nat, k ≤ nL2 ∧ i = .int .i64 (k : Int) ∧ Below w.heap.size w wr) (fun i _ => nL2 - (intOf i).toNat)
      case atStart => exact ⟨0, Nat.zero_le _, rfl, HA1.out⟩
      case round =>
        obtain ⟨i, hi, rfl, hb⟩ := hrel
        have HB : Hid (Below w.heap.size w wr) := hb
        clear hb
        obtain ⟨r1, r2, r3, -⟩ := HR2.out wr HB.out
        by_cases hlt : i < nL2
        · obtain ⟨x, hx⟩ : ∃ x, f[i]? = some x := ⟨f[i]'(by rw [← HN2.out]; exact hlt), List.getElem?_eq_getElem _⟩
          obtain ⟨y, hy⟩ : ∃ y, fh[i]? = some y := ⟨fh[i]'(by rw [HL.out.2.2, ← HN2.out]; exact hlt), List.getElem?_eq_getElem _⟩
          have hxm := List.mem_of_getElem? hx
          obtain ⟨⟨mz, hmz⟩, hxn⟩ := H0.out.mf x hxm
          have hvx := H0.out.vf x hxm
          have hvy := H0.out.hf.2 i x y hx hy
          obtain ⟨ax, cx, ex, -, -⟩ := hvx.sh H0.out.col
          obtain ⟨ay, cy, ey, y8, y9⟩ := hvy.sh H0.out.col
          obtain ⟨bL, bM, bH, e1, e2, e3, -⟩ := (HR2.out wr HB.out).2.2.2 i x y hx hy
          obtain ⟨xv, xn, xm⟩ := x
          obtain ⟨yv, yn⟩ := y
          simp only at hmz hxn hvx hvy ex ey y8
          subst hmz ex ey e1 e2 e3
          have HC : Hid (∀ W, Below w.heap.size w W → W.cell? ⟨bL, i, none⟩ = some (.slice ax xn cx) ∧ W.cell? ⟨bM, i, none⟩ = some (.int .i64 mz) ∧ W.cell? ⟨bH, i, none⟩ = some (.slice ay yn cy) ∧ (∀ j, j < xn → ∃ b, ax = some ⟨b, 0, none⟩ ∧ W.cell? ⟨b, j * 12 + 2, none⟩ = some (.int .i64 mz)) ∧ ∀ j, j < yn → ∃ b, ay = some ⟨b, 0, none⟩ ∧ W.cell? ⟨b, j * 12 + 2, none⟩ = some (.int .i64 mz)) := fun W hW => by
            obtain ⟨q1, q2, q3, a1, a2, a3, p1, p2, p3⟩ := (HR2.out W hW).2.2.2 i _ _ hx hy
            simp only [Option.some.injEq, Addr.mk.injEq, and_true] at a1 a2 a3
            subst a1 a2 a3
            refine ⟨p1, p2, p3, fun j hj => ?_, fun j hj => ?_⟩
            · obtain ⟨b, cap, z, k1, k2, k3, k4⟩ := hvx.read (H0.out.col.kept hW) j hj
              simp only [Value.slice.injEq] at k1
              refine ⟨b, k1.1, ?_⟩
              have k5 := k4 2 (show 2 < kR.c by decide)
              have k6 : z[2]? = some (.int .i64 mz) := k3
              rw [k6] at k5
              have k7 : W.cell? ⟨b, j * 12 + 2, none⟩ = some (.int .i64 mz) := k5
              exact k7
            · obtain ⟨b, cap, z, k1, k2, k3, k4⟩ := hvy.read (H0.out.col.kept hW) j hj
              simp only [Value.slice.injEq] at k1
              refine ⟨b, k1.1, ?_⟩
              have k5 := k4 2 (show 2 < kR.c by decide)
              have k6 : z[2]? = some (.int .i64 mz) := k3
              rw [k6] at k5
              have k7 : W.cell? ⟨b, j * 12 + 2, none⟩ = some (.int .i64 mz) := k5
              exact k7
          unfold maxLen at y9
          clear hx hy hxm hvx hvy
          go_wp2_with fail
          clear r1 r2 r3
          obtain ⟨wo, hwo⟩ : ∃ x, x = wr := ⟨_, rfl⟩
          subst hwo
          go_loopw [6] (fun q w2 => ∃ j : Nat, j ≤ yn ∧ q = .int .i64 (j : Int) ∧ Below w.heap.size w w2) (fun q _ => yn - (intOf q).toNat)
          case atStart => exact ⟨0, Nat.zero_le _, rfl, HB.out⟩
          case round =>
            obtain ⟨j, hj, rfl, hb2⟩ := hrel
            have HB2 : Hid (Below w.heap.size w wr) := hb2
            clear hb2
            obtain ⟨r1, r2, r3, -⟩ := HR2.out wr HB2.out
            obtain ⟨s1, s2, s3, s4, s5⟩ := HC.out wr HB2.out
            by_cases hjl : j < yn
            · obtain ⟨by_, rfl, t5⟩ := s5 j hjl
              by_cases hjx : j < xn
              · obtain ⟨bx, rfl, t4⟩ := s4 j hjx
                have d1 : ((j : Int) < (xn : Int)) = True := eq_true (by omega)
                have d2 : decide ((j : Int) < (xn : Int)) = true := decide_eq_true (by omega)
                clear s4 s5
                go_wp2_with fail
                go_quiet (fail)
                go_wp2_with fail
                go_roundw
                case rel => exact ⟨j + 1, by omega, by go_num, bel_drewN HB2.out _⟩
                case measure => simp [intOf]; omega
              · have d1 : ((j : Int) < (xn : Int)) = False := eq_false (by omega)
                have d2 : decide ((j : Int) < (xn : Int)) = false := decide_eq_false (by omega)
                clear s4 s5
                go_wp2_with fail
                go_quiet (fail)
                go_wp2_with fail
                go_roundw
                case rel => exact ⟨j + 1, by omega, by go_num, bel_drewN HB2.out _⟩
                case measure => simp [intOf]; omega
            · clear s4 s5
              go_wp2_with fail
              go_roundw
              case rel => exact ⟨i + 1, by omega, by go_num, HB2.out⟩
              case measure => simp [intOf]; omega
        · obtain ⟨wA2, hwA2⟩ : ∃ x, x = wr := ⟨_, rfl⟩
          have HA2 : Hid (Below w.heap.size w wA2) := by rw [hwA2]; exact HB.out
          rw [← hwA2] at r1 ⊢
          clear hwA2 HB r2 r3
          go_wp2_with fail
          go_returns
          exact ⟨rfl, C, V, lh, fh, H0.out.kept HA2.out, HL.out.2.1, HL.out.2.2, (HST.out.trans (St.kept (P := fun _ => False) HA2.out)).mono fun q e => e.elim id id⟩
end Go.Proofs.Ytggenlnknnhjgaa
