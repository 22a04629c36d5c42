/-
  LiftEmpty, LiftOwn: stand.
-/
import Derived.Test.YtppgijgmhjfdfaaDoorLo8
namespace Go.Proofs.YtppgijgmhjfdfaaDoor
open Go Go.RowKit
open Wb

/-- a row of values, to be read -/
def RowV (w : World) (v : Value) (xs : List Value) : Prop := ∃ ao, ∃ cap : Nat, v = .slice ao xs.length cap ∧ ∀ (k : Nat) (x : Value), xs[k]? = some x → ∃ g, ao = some ⟨g, 0, none⟩ ∧ w.cell? ⟨g, k, none⟩ = some x
theorem rowV_of {B : Nat} {w : World} {v : Value} {xs : List Value} (h : w.ownsRow B 25 1 v xs.length xs) : RowV w v xs := by
  rcases h.2 with ⟨rfl, h1⟩ | ⟨g, cap, cur, rfl, hb, hg, h1, h2, h3, h4⟩
  · exact ⟨none, 0, by rw [h1], fun k x hx => by have := (List.getElem?_eq_some_iff.1 hx).1; omega⟩
  · refine ⟨some ⟨g, 0, none⟩, cap, rfl, fun k x hx => ⟨g, rfl, ?_⟩⟩
    have hk : k < xs.length := (List.getElem?_eq_some_iff.1 hx).1
    rw [World.ownsRow.cellAt h k (by omega)]
    exact hx
theorem flat3_len : ∀ fs : List (Value × Value × Value), (fs.flatMap vw).length = 3 * fs.length
  | [] => rfl
  | x :: fs => by
    rw [List.flatMap_cons, List.length_append, flat3_len fs, List.length_cons]
    show 3 + 3 * fs.length = 3 * (fs.length + 1)
    omega
theorem flat3_get : ∀ (fs : List (Value × Value × Value)) (i : Nat) (x : Value × Value × Value) (r : Nat), fs[i]? = some x → r < 3 → (fs.flatMap vw)[3 * i + r]? = (vw x)[r]?
  | y :: fs, 0, x, r, hx, hr => by
    obtain rfl : y = x := by simpa using hx
    rw [List.flatMap_cons, List.getElem?_append_left (by show 3 * 0 + r < 3; omega)]
    simp
  | y :: fs, i + 1, x, r, hx, hr => by
    rw [List.flatMap_cons, List.getElem?_append_right (by show 3 ≤ _; omega), show 3 * (i + 1) + r - (vw y).length = 3 * i + r by show 3 * (i + 1) + r - 3 = _; omega]
    exact flat3_get fs i x r (by simpa using hx) hr
/-- the marks stand, to be read -/
structure Stn (w : World) (vl vm : Value) (ds : List Value) (n : Nat → Nat) (fs : List (Value × Value × Value)) : Prop where
  rl : RowV w vl ds
  rm : RowV w vm (fs.flatMap vw)
  len : fs.length = ds.length
  base : ∀ (i : Nat) (d : Value), ds[i]? = some d → Bs w d (mks (n i) (mkA i) 0 (mkT i))
  v1 : ∀ (i : Nat) (x : Value × Value × Value), fs[i]? = some x → Bs w x.1 (mks (n i) (mkA i) 1 (mkT i)) ∧ Bs w x.2.1 (mks (n i) (mkA i) 2 (mkT i)) ∧ Bs w x.2.2 (mks (n i) (mkA i) 70 (mkT i))
theorem mk_cell {w : World} {ao : Option Addr} {q cap n a k t : Nat} (h : Bs w (.slice ao q cap) (mks n a k t)) (hk : 0 < n + k) : q = n + k ∧ q ≤ cap ∧ cap ≤ 9223372036854775807 ∧ ∃ b off, ao = some ⟨b, off, none⟩ ∧ ∀ j, j < n + k → w.cell? ⟨b, off + j, none⟩ = some (.int .u8 (((if j < n then a else t) : Nat) : Int)) := by
  obtain ⟨ao', cap', e, hl, hm, _, hc⟩ := h.shape
  simp only [Value.slice.injEq] at e
  obtain ⟨rfl, rfl, rfl⟩ := e
  rw [mks_len] at hl ⊢
  unfold maxLen at hm
  refine ⟨rfl, hl, by omega, ?_⟩
  obtain ⟨b, off, e2, hcell⟩ := hc (fun e => by have := congrArg List.length e; rw [mks_len] at this; simp at this; omega)
  refine ⟨b, off, e2, fun j hj => ?_⟩
  have h1 := hcell j (by rw [mks_len]; exact hj)
  have h2 := mks_get n a k t j hj
  rw [List.getElem?_eq_getElem (by rw [mks_len]; exact hj)] at h2
  rw [h1, Option.some.inj h2]
set_option maxRecDepth 100000 in
set_option maxHeartbeats 8000000 in
theorem stand_any (vl vm : Value) (ds : List Value) (n : Nat → Nat) (fs : List (Value × Value × Value)) (w : World) (h : Stn w vl vm ds n fs) (hN : ds.length ≤ 9000000) (hn : ∀ i, n i ≤ 8388608) :
    Calls Tryd.prog 12 #[vl, vm] w fun e w' => e = .returned (.bool true) ∧ w' = w := by
  have HS : Hid (Stn w vl vm ds n fs) := h
  have HN : Hid (∀ i, n i ≤ 8388608) := hn
  obtain ⟨al, cl, rfl, hcl⟩ := h.rl
  obtain ⟨am, cm, e9, hcm⟩ := h.rm
  have hfl := h.len
  rw [flat3_len, hfl] at e9
  subst e9
  have HCL : Hid (∀ (k : Nat) (x : Value), ds[k]? = some x → ∃ g, al = some ⟨g, 0, none⟩ ∧ w.cell? ⟨g, k, none⟩ = some x) := hcl
  have HCM : Hid (∀ (k : Nat) (x : Value), (fs.flatMap vw)[k]? = some x → ∃ g, am = some ⟨g, 0, none⟩ ∧ w.cell? ⟨g, k, none⟩ = some x) := hcm
  clear h hn hcl hcm
  go_enter Tryd.func12, Tryd.ntmps12
  go_wp2
  go_loopw [5] (fun i wr => wr = w ∧ ∃ k : Nat, k ≤ ds.length ∧ i = .int .i64 (k : Int)) (fun i _ => ds.length - (intOf i).toNat)
  case atStart => exact ⟨rfl, 0, Nat.zero_le _, rfl⟩
  case round =>
    obtain ⟨rfl, k, hk, rfl⟩ := hrel
    by_cases hlt : k < ds.length
    · obtain ⟨d, hd⟩ : ∃ d, ds[k]? = some d := ⟨ds[k], List.getElem?_eq_getElem hlt⟩
      obtain ⟨x, hx⟩ : ∃ x, fs[k]? = some x := ⟨fs[k]'(by omega), List.getElem?_eq_getElem _⟩
      obtain ⟨gl, rfl, cl0⟩ := HCL.out k d hd
      have f0 := flat3_get fs k x 0 hx (by decide)
      have f1 := flat3_get fs k x 1 hx (by decide)
      have f2 := flat3_get fs k x 2 hx (by decide)
      obtain ⟨gm, rfl, cm0⟩ := HCM.out _ x.1 f0
      obtain ⟨gm', e1, cm1⟩ := HCM.out _ x.2.1 f1
      obtain ⟨gm'', e2, cm2⟩ := HCM.out _ x.2.2 f2
      simp only [Option.some.injEq, Addr.mk.injEq, and_true] at e1 e2
      subst e1 e2
      have hnk := HN.out k
      obtain ⟨m, hm⟩ : ∃ m, n k = m := ⟨_, rfl⟩
      have hbd := HS.out.base k d hd
      obtain ⟨hb1, hb2, hb3⟩ := HS.out.v1 k x hx
      rw [hm] at hnk hbd hb1 hb2 hb3
      obtain ⟨x1, x2, x3⟩ := x
      simp only at cm0 cm1 cm2 hb1 hb2 hb3
      obtain ⟨ad, cd, e3, _⟩ := hbd.shape
      rw [mks_len, Nat.add_zero] at e3
      subst e3
      obtain ⟨a1, c1, e3, _⟩ := hb1.shape
      rw [mks_len] at e3
      subst e3
      obtain ⟨a2, c2, e3, _⟩ := hb2.shape
      rw [mks_len] at e3
      subst e3
      obtain ⟨a3, c3, e3, _⟩ := hb3.shape
      rw [mks_len] at e3
      subst e3
      rw [Nat.add_zero] at cm0
      have HV : Hid (∀ r, r < 3 → ∃ ar, ∃ er cr : Nat, 1 ≤ er ∧ er ≤ 70 ∧ wr.cell? ⟨gm, 3 * k + r, none⟩ = some (.slice ar (m + er) cr) ∧ Bs wr (.slice ar (m + er) cr) (mks m (mkA k) er (mkT k))) := fun r hr => by
        obtain rfl | rfl | rfl : r = 0 ∨ r = 1 ∨ r = 2 := by omega
        · exact ⟨a1, 1, c1, by decide, by decide, cm0, hb1⟩
        · exact ⟨a2, 2, c2, by decide, by decide, cm1, hb2⟩
        · exact ⟨a3, 70, c3, by decide, by decide, cm2, hb3⟩
      have HBD : Hid (Bs wr (.slice ad m cd) (mks m (mkA k) 0 (mkT k))) := hbd
      have e250 := rem250 k
      have e5 := rem5 k
      have h250 : k % 250 < 250 := Nat.mod_lt _ (by decide)
      have h5 : k % 5 < 5 := Nat.mod_lt _ (by decide)
      have HAT : Hid (mkA k = 1 + k % 250 ∧ mkT k = 251 + k % 5) := ⟨rfl, rfl⟩
      generalize k % 250 = m250 at *
      generalize k % 5 = m5 at *
      clear hbd hb1 hb2 hb3 f0 f1 f2 hd hx hm HS HN HCL HCM
      generalize wr = w9 at *
      go_wp2
      clear cm0 cm1 cm2
      go_loopw [7] (fun i wx => wx = w9 ∧ ∃ r : Nat, r ≤ 3 ∧ i = .int .i64 (3 * (k : Int) + (r : Int))) (fun i _ => 3 * k + 3 - (intOf i).toNat)
      case atStart => exact ⟨rfl, 0, by decide, by simp⟩
      case round =>
        obtain ⟨rfl, r, hr, rfl⟩ := hrel
        by_cases hlr : r < 3
        · obtain ⟨ar, er, cr, he1, he70, cmr, hbr⟩ := HV.out r hlr
          obtain ⟨_, hcr1, hcr2, br, offr, rfl, hcr⟩ := mk_cell hbr (by omega)
          have HCR : Hid (∀ j, j < m + er → wr.cell? ⟨br, offr + j, none⟩ = some (.int .u8 (((if j < m then mkA k else mkT k) : Nat) : Int))) := hcr
          have HDC : Hid (∀ j, j < m → ∃ bd offd, ad = some ⟨bd, offd, none⟩ ∧ wr.cell? ⟨bd, offd + j, none⟩ = some (.int .u8 ((mkA k : Nat) : Int))) := fun j hj => by
            obtain ⟨_, _, _, bd, offd, e, hcd⟩ := mk_cell HBD.out (by omega)
            refine ⟨bd, offd, e, ?_⟩
            have := hcd j (by omega)
            rwa [if_pos hj] at this
          have HCD : Hid (m = 0 ∨ m ≤ cd ∧ cd ≤ 9223372036854775807) := by
            by_cases h0 : m = 0
            · exact .inl h0
            · obtain ⟨_, h1, h2, _⟩ := mk_cell HBD.out (by omega)
              exact .inr ⟨h1, h2⟩
          have cmr' : wr.cell? ⟨gm, 3 * k + r, none⟩ = some (.slice (some ⟨br, offr, none⟩) (m + er) cr) := cmr
          have hnat : (3 * (k : Int) + (r : Int)) = ((3 * k + r : Nat) : Int) := by omega
          clear hbr hcr cmr HV
          rw [hnat]
          generalize hq : 3 * k + r = q at *
          generalize wr = w9 at *
          go_wp2
          go_loopw [8] (fun i wx => wx = w9 ∧ ∃ p : Nat, p ≤ m + er ∧ i = .int .i64 (p : Int)) (fun i _ => m + er - (intOf i).toNat)
          case atStart => exact ⟨rfl, 0, Nat.zero_le _, rfl⟩
          case round =>
            obtain ⟨rfl, p, hp, rfl⟩ := hrel
            by_cases hlp : p < m + er
            · have cp := HCR.out p hlp
              by_cases hpm : p < m
              · rw [if_pos hpm, HAT.out.1] at cp
                obtain ⟨bd, offd, rfl, cdp⟩ := HDC.out p hpm
                rw [HAT.out.1] at cdp
                obtain h0 | ⟨hcd1, hcd2⟩ := HCD.out
                · omega
                have hpm2 : ¬ ((m : Int) ≤ (p : Int)) := by omega
                clear HCR HDC HBD HCD
                go_wp2
                go_roundw
                case rel => exact ⟨trivial, p + 1, by omega, by go_num⟩
                case measure => simp [intOf]; omega
              · rw [if_neg hpm, HAT.out.2] at cp
                have hpm2 : ((m : Int) ≤ (p : Int)) := by omega
                clear HCR HDC HBD HCD
                go_wp2
                go_roundw
                case rel => exact ⟨trivial, p + 1, by omega, by go_num⟩
                case measure => simp [intOf]; omega
            · obtain rfl : p = m + er := by omega
              clear HCR HDC HBD HCD
              go_wp2
              go_roundw
              case rel => exact ⟨trivial, r + 1, by omega, by congr 1; omega⟩
              case measure => simp [intOf]; omega
        · obtain rfl : r = 3 := by omega
          clear HV HBD
          go_wp2
          go_roundw
          case rel => exact ⟨trivial, k + 1, by omega, by go_num⟩
          case measure => simp [intOf]; omega
    · go_wp2
      go_ret
      exact ⟨rfl, rfl⟩
end Go.Proofs.YtppgijgmhjfdfaaDoor
