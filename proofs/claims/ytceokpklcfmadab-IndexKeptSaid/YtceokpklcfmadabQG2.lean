import Derived.Test.YtceokpklcfmadabQG0
import Derived.Test.YtceokpklcfmadabQS1
/-
  IndexKept: apart.
-/
namespace Go.Proofs.Ytceokpklcfmadab
open Go Go.RowKit
open Wb

def cI (j : Nat) : List Value := [.int .i64 (-900 - (j : Int))]
def cB (j : Nat) : List Value := [.int .u8 (100 + (j : Int))]
theorem st_grown {ops : Array Oper} {o : Oper} {a : Act} {W : World} {K : Act → World → Prop} {Q : Exit → Act → World → Prop} {E : Prop} (hgd : o.guard = none) (p q : Nat) (ho : o.op = .call { callee := .value (.func 27), args := #[.tmp p, .tmp q], argTypes := #[27, 3] }) {u1 u2 : Value} (hp : a.tmps[p]?.getD undef = u1) (hq : a.tmps[q]?.getD undef = u2) {R : Value → World → Prop} (hC : Calls Try.prog 27 #[u1, u2] W fun e W' => ∃ v', e = .returned v' ∧ R v' W') (h : ∀ v' W', R v' W' → K (a.put o.dst v') W') : if Region.wanted o (yielded ops a.tmps) = true then Oper.wp Try.prog o a W K Q else E := by
  rw [if_pos (by simp [Region.wanted, hgd])]
  obtain ⟨dst, op', ty, pos, after, guard⟩ := o
  simp only at ho hgd
  subst ho hgd
  have HC : Hid (Calls Try.prog 27 #[u1, u2] W fun e W' => ∃ v', e = .returned v' ∧ R v' W') := hC
  clear hC
  go_simp
  refine HC.out.mono ?_
  rintro e W' ⟨v', rfl, r⟩
  exact h v' W' r
theorem app2cI (W : World) (B : Nat) (vG : Value) (G : List Value) (hG : W.ownsRow B 27 1 vG G.length G) (gx : Nat) (a1 a2 : Option Addr) (m1 m2 k1 k2 : Nat) (hx : LB W gx 27 [.slice a1 m1 k1, .slice a2 m2 k2]) (hl : G.length ≤ 1000) (hB : B ≤ W.heap.size) :
    ∃ v' W', (Builtin.append_ #[30, 30] 30 #[vG, .slice (some ⟨gx, 0, none⟩) 2 2]).run Try.prog W = .ok v' W' ∧ W'.ownsRow B 27 1 v' (G.length + 2) (G ++ [.slice a1 m1 k1, .slice a2 m2 k2]) ∧ W.grownBy W' vG.ownBlock := by
  have hin : (Try.prog.info? 27).map (fun i => (i.zero, i.size, i.bytes)) = some (some (.slice none 0 0), 1, 24) := by kernel_rfl
  obtain ⟨i0, hi, hq⟩ := Option.map_eq_some_iff.1 hin
  simp only [Prod.mk.injEq] at hq
  obtain ⟨v', W', hr, h1, h2, -, -⟩ := run_append_own_at (P := Try.prog) W B 30 30 27 i0 (.slice none 0 0) 1 24 Try.underlying30 hi hq.1 hq.2.1 hq.2.2 rfl (by omega) vG G.length G hG ⟨gx, 0, none⟩ 2 2 [.slice a1 m1 k1, .slice a2 m2 k2] rfl (fun j u hj => by
    rw [Addr.add_lit, Nat.zero_add]
    exact hx.cell j u hj) (fun u hu => by
    simp only [List.mem_cons, List.not_mem_nil, or_false] at hu
    rcases hu with rfl | rfl <;> rfl) (by unfold maxLen; omega) (by omega) hB
  exact ⟨v', W', hr, h1, h2⟩
theorem st_grownb {ops : Array Oper} {o : Oper} {a : Act} {W : World} {K : Act → World → Prop} {Q : Exit → Act → World → Prop} {E : Prop} (hgd : o.guard = none) (p q : Nat) (ho : o.op = .call { callee := .value (.func 28), args := #[.tmp p, .tmp q], argTypes := #[34, 5] }) {u1 u2 : Value} (hp : a.tmps[p]?.getD undef = u1) (hq : a.tmps[q]?.getD undef = u2) {R : Value → World → Prop} (hC : Calls Try.prog 28 #[u1, u2] W fun e W' => ∃ v', e = .returned v' ∧ R v' W') (h : ∀ v' W', R v' W' → K (a.put o.dst v') W') : if Region.wanted o (yielded ops a.tmps) = true then Oper.wp Try.prog o a W K Q else E := by
  rw [if_pos (by simp [Region.wanted, hgd])]
  obtain ⟨dst, op', ty, pos, after, guard⟩ := o
  simp only at ho hgd
  subst ho hgd
  have HC : Hid (Calls Try.prog 28 #[u1, u2] W fun e W' => ∃ v', e = .returned v' ∧ R v' W') := hC
  clear hC
  go_simp
  refine HC.out.mono ?_
  rintro e W' ⟨v', rfl, r⟩
  exact h v' W' r
theorem app2cB (W : World) (B : Nat) (vG : Value) (G : List Value) (hG : W.ownsRow B 34 1 vG G.length G) (gx : Nat) (a1 a2 : Option Addr) (m1 m2 k1 k2 : Nat) (hx : LB W gx 34 [.slice a1 m1 k1, .slice a2 m2 k2]) (hl : G.length ≤ 1000) (hB : B ≤ W.heap.size) :
    ∃ v' W', (Builtin.append_ #[42, 42] 42 #[vG, .slice (some ⟨gx, 0, none⟩) 2 2]).run Try.prog W = .ok v' W' ∧ W'.ownsRow B 34 1 v' (G.length + 2) (G ++ [.slice a1 m1 k1, .slice a2 m2 k2]) ∧ W.grownBy W' vG.ownBlock := by
  have hin : (Try.prog.info? 34).map (fun i => (i.zero, i.size, i.bytes)) = some (some (.slice none 0 0), 1, 24) := by kernel_rfl
  obtain ⟨i0, hi, hq⟩ := Option.map_eq_some_iff.1 hin
  simp only [Prod.mk.injEq] at hq
  obtain ⟨v', W', hr, h1, h2, -, -⟩ := run_append_own_at (P := Try.prog) W B 42 42 34 i0 (.slice none 0 0) 1 24 Try.underlying42 hi hq.1 hq.2.1 hq.2.2 rfl (by omega) vG G.length G hG ⟨gx, 0, none⟩ 2 2 [.slice a1 m1 k1, .slice a2 m2 k2] rfl (fun j u hj => by
    rw [Addr.add_lit, Nat.zero_add]
    exact hx.cell j u hj) (fun u hu => by
    simp only [List.mem_cons, List.not_mem_nil, or_false] at hu
    rcases hu with rfl | rfl <;> rfl) (by unfold maxLen; omega) (by omega) hB
  exact ⟨v', W', hr, h1, h2⟩
set_option maxRecDepth 100000 in
set_option maxHeartbeats 8000000 in
theorem ixapart_any (B : Nat) (vL vT : Value) (L T : List Value) (n nT : Nat → Nat) (X XT : Nat → List Value) (w : World) (hL : w.ownsRow B 27 1 vL L.length L) (hT : w.ownsRow B 34 1 vT T.length T) (fL : Mg.Fam B w 3 1 n L X) (fT : Mg.Fam B w 5 1 nT T XT) (aL : Mg.Apt L) (aT : Mg.Apt T) (hl : L.length ≤ 100) (ht : T.length ≤ 100) (hn : ∀ j, n j ≤ 100000) (hnT : ∀ j, nT j ≤ 100000) (hB : B ≤ w.heap.size) :
    Calls Try.prog 15 #[vL, vT] w fun e w' => e = .returned (.bool true) ∧ FrK w w' (Ap.Of L T) := by
  have HF : Hid (Ap.Fi B w vL vT L T n nT X XT w) := ⟨hL, hT, fL, fT, FrK.refl _ _⟩
  have HA : Hid (Mg.Apt L ∧ Mg.Apt T) := ⟨aL, aT⟩
  have HN : Hid ((∀ j, n j ≤ 100000) ∧ ∀ j, nT j ≤ 100000) := ⟨hn, hnT⟩
  have HB : Hid (B ≤ w.heap.size) := hB
  clear aL aT
  obtain ⟨aL, kL, rfl, hL1, hL2⟩ := Mg.row_shape hL
  obtain ⟨aT, kT, rfl, hT1, hT2⟩ := Mg.row_shape hT
  unfold maxLen at hL2 hT2
  clear hL hT fL fT hn hnT hB
  go_enter Try.func15, Try.ntmps15
  go_wp2_with fail
  go_loopw [5] (fun i wr => ∃ j : Nat, ∃ X1, j ≤ L.length ∧ i = .int .i64 (j : Int) ∧ Ap.Fi B w (.slice aL L.length kL) (.slice aT T.length kT) L T n nT X1 XT wr ∧ ∀ q, q < j → X1 q = Mg.pat (cI q) (n q)) (fun i _ => L.length - (intOf i).toNat)
  case atStart => exact ⟨0, X, Nat.zero_le _, rfl, HF.out, fun q hq => by omega⟩
  case round =>
    obtain ⟨j, X1, hj, rfl, hf, hx⟩ := hrel
    have HX : Hid (∀ q, q < j → X1 q = Mg.pat (cI q) (n q)) := hx
    clear hx
    by_cases hlt : j < L.length
    · obtain ⟨v, hv⟩ : ∃ v, L[j]? = some v := ⟨_, List.getElem?_eq_getElem hlt⟩
      obtain ⟨av, cv, rfl, hv1, hv2⟩ := Mg.row_shape (hf.fL j v hv)
      have HLX : Hid ((X1 j).length = n j * (cI j).length) := (hf.fL j _ hv).1
      obtain ⟨m, hm⟩ : ∃ m, m = n j := ⟨_, rfl⟩
      rw [← hm] at hv hv1
      have HV : Hid (L[j]? = some (.slice av m cv) ∧ m = n j) := ⟨hv, hm⟩
      have hmb : m ≤ 100000 := by rw [hm]; exact HN.out.1 j
      unfold maxLen at hv2
      obtain ⟨gl, rfl⟩ : ∃ gl, aL = some ⟨gl, 0, none⟩ := by
        rcases hf.rL.2 with ⟨e, h0⟩ | ⟨gl, c', cur, e, -⟩
        · omega
        · simp only [Value.slice.injEq] at e
          exact ⟨gl, e.1⟩
      have HC : Hid (∀ W X2, Ap.Fi B w (.slice (some ⟨gl, 0, none⟩) L.length kL) (.slice aT T.length kT) L T n nT X2 XT W → W.cell? ⟨gl, j, none⟩ = some (.slice av m cv)) := fun W X2 h9 => by
        have e := World.ownsRow.cellAt h9.rL j (by rw [Nat.mul_one]; omega)
        rw [e]
        exact HV.out.1
      have x0 := HC.out wr X1 hf
      have HF9 : Hid (Ap.Fi B w (.slice (some ⟨gl, 0, none⟩) L.length kL) (.slice aT T.length kT) L T n nT X1 XT wr) := hf
      have HST : Hid (Ap.Fi B w (.slice (some ⟨gl, 0, none⟩) L.length kL) (.slice aT T.length kT) L T n nT (fun q => if q = j then Mg.fil (cI j) (X1 j) 0 else X1 q) XT wr) := by
        have e : (fun q => if q = j then Mg.fil (cI j) (X1 j) 0 else X1 q) = X1 := by
          funext q
          by_cases hq : q = j
          · subst hq
            rw [if_pos rfl, Mg.fil_zero]
          · rw [if_neg hq]
        show Ap.Fi B w (.slice (some ⟨gl, 0, none⟩) L.length kL) (.slice aT T.length kT) L T n nT (fun q => if q = j then Mg.fil (cI j) (X1 j) 0 else X1 q) XT wr
        rw [e]
        exact hf
      clear hf hv hm
      go_wp2_with fail
      go_loopw [6] (fun i wr2 => ∃ k : Nat, k ≤ m ∧ i = .int .i64 (k : Int) ∧ Ap.Fi B w (.slice (some ⟨gl, 0, none⟩) L.length kL) (.slice aT T.length kT) L T n nT (fun q => if q = j then Mg.fil (cI j) (X1 j) k else X1 q) XT wr2) (fun i _ => m - (intOf i).toNat)
      case atStart => exact ⟨0, Nat.zero_le _, rfl, HST.out⟩
      case round =>
        clear HST x0 HF9
        obtain ⟨k, hk, rfl, hf⟩ := hrel
        have x0 := HC.out wr _ hf
        have hrow : wr.ownsRow B 3 (cI j).length (.slice av m cv) m (Mg.fil (cI j) (X1 j) k) := by
          have h9 := hf.fL j _ HV.out.1
          rw [← HV.out.2] at h9
          simp only [if_true] at h9
          exact h9
        have hxl : (X1 j).length = m * (cI j).length := by rw [HV.out.2]; exact HLX.out
        by_cases hkl : k < m
        · obtain ⟨g, rfl, hth, hrow2, hgr2, -⟩ := Mg.fill_step (show 0 < (cI j).length from Nat.one_pos) hxl hrow hkl
          have e1 : k * (cI j).length = k := by simp [cI]
          rw [e1] at hth hrow2 hgr2
          obtain ⟨u0, hu0⟩ := Option.isSome_iff_exists.1 (hth 0 Nat.one_pos).1
          have f0 : wr.frozen? ⟨g, k, none⟩ = false := (hth 0 Nat.one_pos).2
          have e2 : wr.setCells g k (cI j) = wr.setCell ⟨g, k, none⟩ (.int .i64 (-900 - (j : Int))) := rfl
          rw [e2] at hrow2 hgr2
          have hu1 : wr.cell? ⟨g, k, none⟩ = some u0 := hu0
          have HR : Hid (Ap.Fi B w (.slice (some ⟨gl, 0, none⟩) L.length kL) (.slice aT T.length kT) L T n nT (fun q => if q = j then Mg.fil (cI j) (X1 j) (k + 1) else X1 q) XT (wr.setCell ⟨g, k, none⟩ (.int .i64 (-900 - (j : Int))))) := by
            have h9 := hf.putL HA.out.1 j _ HV.out.1 hgr2 (Mg.fil (cI j) (X1 j) (k + 1)) (by rw [← HV.out.2]; exact hrow2)
            have e : (fun q => if q = j then Mg.fil (cI j) (X1 j) (k + 1) else if q = j then Mg.fil (cI j) (X1 j) k else X1 q) = fun q => if q = j then Mg.fil (cI j) (X1 j) (k + 1) else X1 q := by
              funext q
              by_cases hq : q = j
              · rw [if_pos hq, if_pos hq]
              · rw [if_neg hq, if_neg hq, if_neg hq]
            rw [e] at h9
            exact h9
          clear hf hrow hth hrow2 hgr2 e1 e2 hu0 hxl
          go_wp2_with fail
          go_roundw
          case rel => exact ⟨k + 1, by omega, by go_num, HR.out⟩
          case measure => simp [intOf]; omega
        · obtain rfl : k = m := by omega
          have HR : Hid (Ap.Fi B w (.slice (some ⟨gl, 0, none⟩) L.length kL) (.slice aT T.length kT) L T n nT (fun q => if q = j then Mg.fil (cI j) (X1 j) k else X1 q) XT wr) := hf
          have HE : Hid (∀ q, q < j + 1 → (if q = j then Mg.fil (cI j) (X1 j) k else X1 q) = Mg.pat (cI q) (n q)) := fun q hq => by
            by_cases hqj : q = j
            · subst hqj
              rw [if_pos rfl, Mg.fil_end _ _ _ hxl, HV.out.2]
            · rw [if_neg hqj]
              exact HX.out q (by omega)
          clear hf hrow hxl
          go_wp2_with fail
          go_roundw
          case rel => exact ⟨j + 1, _, by omega, by go_num, HR.out, HE.out⟩
          case measure => simp [intOf]; omega
    · obtain rfl : j = L.length := by omega
      have HF1 : Hid (Ap.Fi B w (.slice aL L.length kL) (.slice aT T.length kT) L T n nT X1 XT wr) := hf
      have HXI : Hid (∀ q, q < L.length → X1 q = Mg.pat (cI q) (n q)) := HX.out
      obtain ⟨XI, hXI⟩ : ∃ XI, XI = X1 := ⟨_, rfl⟩
      rw [← hXI] at HF1 HXI
      clear hXI hf HX HF hj hlt
      go_wp2_with fail
      go_loopw [7] (fun i wr => ∃ j : Nat, ∃ Y1, j ≤ T.length ∧ i = .int .i64 (j : Int) ∧ Ap.Fi B w (.slice aL L.length kL) (.slice aT T.length kT) L T n nT XI Y1 wr ∧ ∀ q, q < j → Y1 q = Mg.pat (cB q) (nT q)) (fun i _ => T.length - (intOf i).toNat)
      case atStart => exact ⟨0, XT, Nat.zero_le _, rfl, HF1.out, fun q hq => by omega⟩
      case round =>
        obtain ⟨j, Y1, hj, rfl, hf, hx⟩ := hrel
        have HX : Hid (∀ q, q < j → Y1 q = Mg.pat (cB q) (nT q)) := hx
        clear hx
        by_cases hlt : j < T.length
        · obtain ⟨v, hv⟩ : ∃ v, T[j]? = some v := ⟨_, List.getElem?_eq_getElem hlt⟩
          obtain ⟨av, cv, rfl, hv1, hv2⟩ := Mg.row_shape (hf.fT j v hv)
          have HLX : Hid ((Y1 j).length = nT j * (cB j).length) := (hf.fT j _ hv).1
          obtain ⟨m, hm⟩ : ∃ m, m = nT j := ⟨_, rfl⟩
          rw [← hm] at hv hv1
          have HV : Hid (T[j]? = some (.slice av m cv) ∧ m = nT j) := ⟨hv, hm⟩
          have hmb : m ≤ 100000 := by rw [hm]; exact HN.out.2 j
          unfold maxLen at hv2
          obtain ⟨gl, rfl⟩ : ∃ gl, aT = some ⟨gl, 0, none⟩ := by
            rcases hf.rT.2 with ⟨e, h0⟩ | ⟨gl, c', cur, e, -⟩
            · omega
            · simp only [Value.slice.injEq] at e
              exact ⟨gl, e.1⟩
          have HC : Hid (∀ W X2, Ap.Fi B w (.slice aL L.length kL) (.slice (some ⟨gl, 0, none⟩) T.length kT) L T n nT XI X2 W → W.cell? ⟨gl, j, none⟩ = some (.slice av m cv)) := fun W X2 h9 => by
            have e := World.ownsRow.cellAt h9.rT j (by rw [Nat.mul_one]; omega)
            rw [e]
            exact HV.out.1
          have x0 := HC.out wr Y1 hf
          have HF9 : Hid (Ap.Fi B w (.slice aL L.length kL) (.slice (some ⟨gl, 0, none⟩) T.length kT) L T n nT XI Y1 wr) := hf
          have HST : Hid (Ap.Fi B w (.slice aL L.length kL) (.slice (some ⟨gl, 0, none⟩) T.length kT) L T n nT XI (fun q => if q = j then Mg.fil (cB j) (Y1 j) 0 else Y1 q) wr) := by
            have e : (fun q => if q = j then Mg.fil (cB j) (Y1 j) 0 else Y1 q) = Y1 := by
              funext q
              by_cases hq : q = j
              · subst hq
                rw [if_pos rfl, Mg.fil_zero]
              · rw [if_neg hq]
            show Ap.Fi B w (.slice aL L.length kL) (.slice (some ⟨gl, 0, none⟩) T.length kT) L T n nT XI (fun q => if q = j then Mg.fil (cB j) (Y1 j) 0 else Y1 q) wr
            rw [e]
            exact hf
          clear hf hv hm
          go_wp2_with fail
          go_loopw [8] (fun i wr2 => ∃ k : Nat, k ≤ m ∧ i = .int .i64 (k : Int) ∧ Ap.Fi B w (.slice aL L.length kL) (.slice (some ⟨gl, 0, none⟩) T.length kT) L T n nT XI (fun q => if q = j then Mg.fil (cB j) (Y1 j) k else Y1 q) wr2) (fun i _ => m - (intOf i).toNat)
          case atStart => exact ⟨0, Nat.zero_le _, rfl, HST.out⟩
          case round =>
            clear HST x0 HF9
            obtain ⟨k, hk, rfl, hf⟩ := hrel
            have x0 := HC.out wr _ hf
            have hrow : wr.ownsRow B 5 (cB j).length (.slice av m cv) m (Mg.fil (cB j) (Y1 j) k) := by
              have h9 := hf.fT j _ HV.out.1
              rw [← HV.out.2] at h9
              simp only [if_true] at h9
              exact h9
            have hxl : (Y1 j).length = m * (cB j).length := by rw [HV.out.2]; exact HLX.out
            by_cases hkl : k < m
            · obtain ⟨g, rfl, hth, hrow2, hgr2, -⟩ := Mg.fill_step (show 0 < (cB j).length from Nat.one_pos) hxl hrow hkl
              have e1 : k * (cB j).length = k := by simp [cB]
              rw [e1] at hth hrow2 hgr2
              obtain ⟨u0, hu0⟩ := Option.isSome_iff_exists.1 (hth 0 Nat.one_pos).1
              have f0 : wr.frozen? ⟨g, k, none⟩ = false := (hth 0 Nat.one_pos).2
              have e2 : wr.setCells g k (cB j) = wr.setCell ⟨g, k, none⟩ (.int .u8 (100 + (j : Int))) := rfl
              rw [e2] at hrow2 hgr2
              have hu1 : wr.cell? ⟨g, k, none⟩ = some u0 := hu0
              have HR : Hid (Ap.Fi B w (.slice aL L.length kL) (.slice (some ⟨gl, 0, none⟩) T.length kT) L T n nT XI (fun q => if q = j then Mg.fil (cB j) (Y1 j) (k + 1) else Y1 q) (wr.setCell ⟨g, k, none⟩ (.int .u8 (100 + (j : Int))))) := by
                have h9 := hf.putT HA.out.2 j _ HV.out.1 hgr2 (Mg.fil (cB j) (Y1 j) (k + 1)) (by rw [← HV.out.2]; exact hrow2)
                have e : (fun q => if q = j then Mg.fil (cB j) (Y1 j) (k + 1) else if q = j then Mg.fil (cB j) (Y1 j) k else Y1 q) = fun q => if q = j then Mg.fil (cB j) (Y1 j) (k + 1) else Y1 q := by
                  funext q
                  by_cases hq : q = j
                  · rw [if_pos hq, if_pos hq]
                  · rw [if_neg hq, if_neg hq, if_neg hq]
                rw [e] at h9
                exact h9
              clear hf hrow hth hrow2 hgr2 e1 e2 hu0 hxl
              have hwu : IntKind.u8.wrap (100 + (j : Int)) = 100 + (j : Int) := IntWalk.u8_in _ (by omega)
              go_wp2_with fail
              go_roundw
              case rel => exact ⟨k + 1, by omega, by go_num, HR.out⟩
              case measure => simp [intOf]; omega
            · obtain rfl : k = m := by omega
              have HR : Hid (Ap.Fi B w (.slice aL L.length kL) (.slice (some ⟨gl, 0, none⟩) T.length kT) L T n nT XI (fun q => if q = j then Mg.fil (cB j) (Y1 j) k else Y1 q) wr) := hf
              have HE : Hid (∀ q, q < j + 1 → (if q = j then Mg.fil (cB j) (Y1 j) k else Y1 q) = Mg.pat (cB q) (nT q)) := fun q hq => by
                by_cases hqj : q = j
                · subst hqj
                  rw [if_pos rfl, Mg.fil_end _ _ _ hxl, HV.out.2]
                · rw [if_neg hqj]
                  exact HX.out q (by omega)
              clear hf hrow hxl
              go_wp2_with fail
              go_roundw
              case rel => exact ⟨j + 1, _, by omega, by go_num, HR.out, HE.out⟩
              case measure => simp [intOf]; omega
        · obtain rfl : j = T.length := by omega
          have hXB : ∀ q, q < T.length → Y1 q = Mg.pat (cB q) (nT q) := HX.out
          have HL0 : Hid (Ap.Ls B wr.heap.size w (.slice aL L.length kL) (.slice aT T.length kT) L T n nT cI cB (.slice none 0 0) (.slice none 0 0) [] [] wr) := ⟨hf.rL, hf.rT, fun k e => (World.ownsRow.lt hf.rL k e).2, fun k e => (World.ownsRow.lt hf.rT k e).2, Ap.Le.begin hf.fL HA.out.1 (Nat.le_trans HB.out hf.fr.size) (fun _ => rfl) HXI.out, Ap.Le.begin hf.fT HA.out.2 (Nat.le_trans HB.out hf.fr.size) (fun _ => rfl) hXB, World.ownsRow_nil _ _ _ _, World.ownsRow_nil _ _ _ _, hf.fr, hf.fr.size⟩
          generalize wr.heap.size = H0 at HL0
          clear hXB hf HX HF1 HXI hj hlt
          go_wp2_with fail
          go_loopw [9, 10] (fun s9 i wr => ∃ j : Nat, ∃ G, j ≤ L.length ∧ i = .int .i64 (j : Int) ∧ G.length = 2 * j ∧ (∃ a9, ∃ m9 c9 : Nat, s9 = .slice a9 m9 c9) ∧ Ap.Ls B H0 w (.slice aL L.length kL) (.slice aT T.length kT) L T n nT cI cB s9 (.slice none 0 0) G [] wr) (fun _ i _ => L.length - (intOf i).toNat)
          case atStart => exact ⟨0, [], Nat.zero_le _, rfl, rfl, ⟨_, _, _, rfl⟩, HL0.out⟩
          case round =>
            obtain ⟨j, G, hj, rfl, hGl, ⟨a9, m9, c9, rfl⟩, hs⟩ := hrel
            by_cases hlt : j < L.length
            · obtain ⟨v, hv⟩ : ∃ v, L[j]? = some v := ⟨_, List.getElem?_eq_getElem hlt⟩
              obtain ⟨av, cv, rfl, hv1, hv2⟩ := Mg.row_shape (hs.iI.l j v hv)
              have HV : Hid (L[j]? = some (.slice av (n j) cv) ∧ n j ≤ 100000) := ⟨hv, HN.out.1 j⟩
              obtain ⟨gl, rfl⟩ : ∃ gl, aL = some ⟨gl, 0, none⟩ := by
                rcases hs.rL.2 with ⟨e, h0⟩ | ⟨gl, c', cur, e, -⟩
                · omega
                · simp only [Value.slice.injEq] at e
                  exact ⟨gl, e.1⟩
              have HC : Hid (∀ W, Ap.Ls B H0 w (.slice (some ⟨gl, 0, none⟩) L.length kL) (.slice aT T.length kT) L T n nT cI cB (.slice a9 m9 c9) (.slice none 0 0) G [] W → W.cell? ⟨gl, j, none⟩ = some (.slice av (n j) cv)) := fun W h9 => by
                have e := World.ownsRow.cellAt h9.rL j (by rw [Nat.mul_one]; omega)
                rw [e]
                exact HV.out.1
              have hs2 := hs.kept (show Below wr.heap.size wr wr.drew from ⟨rfl, rfl, rfl, Nat.le_refl _, fun _ _ => rfl⟩)
              obtain ⟨W0, hW0⟩ : ∃ x, x = wr.drew := ⟨_, rfl⟩
              rw [← hW0] at hs2
              have HS : Hid (Ap.Ls B H0 w (.slice (some ⟨gl, 0, none⟩) L.length kL) (.slice aT T.length kT) L T n nT cI cB (.slice a9 m9 c9) (.slice none 0 0) G [] W0) := hs2
              have HH0 : Hid (H0 ≤ W0.heap.size ∧ B ≤ H0) := ⟨hs2.iI.sz, hs2.iI.low⟩
              have hS9 := HC.out W0 hs2
              have HGL : Hid (G.length = 2 * j ∧ G.length ≤ 1000) := ⟨hGl, by omega⟩
              clear hs hs2 hv hGl
              have hwi : IntKind.i64.wrap (-900 - (j : Int)) = -900 - (j : Int) := IntWalk.i64_in _ (by omega)
              go_upto_region 19 with fail
              refine wp_region_held_drew (S := fun W : World => W.cell? ⟨gl, j, none⟩ = some (.slice av (n j) cv)) (by kernel_rfl) (by rw [← hW0]; exact hS9) (fun _ => ?_)
              rw [← hW0]
              clear hW0
              refine zqk 0 rfl hS9 ?_
              simp only [Act.put, zq1, zq2, zq3, zq4, zq5]
              refine zqk 1 rfl hS9 ?_
              simp only [Act.put, zq1, zq2, zq3, zq4, zq5, zq6]
              refine zqk 2 rfl hS9 ?_
              simp only [Act.put, zq1, zq2, zq3, zq4, zq5, zq6]
              refine zqk 3 rfl hS9 ?_
              simp only [Act.put, zq1, zq2, zq3, zq4, zq5, zq6]
              refine zqk 4 rfl hS9 ?_
              simp only [Act.put, zq1, zq2, zq3, zq4, zq5, zq6]
              refine zqk 5 rfl hS9 ?_
              simp only [Act.put, zq1, zq2, zq3, zq4, zq5, zq6]
              refine zqk 6 rfl hS9 ?_
              simp only [Act.put, zq1, zq2, zq3, zq4, zq5, zq6]
              refine zqk 9 rfl hS9 ?_
              simp only [Act.put, zq1, zq2, zq3, zq4, zq5, zq6]
              refine zqk 10 rfl hS9 ?_
              simp only [Act.put, zq1, zq2, zq3, zq4, zq5, zq6]
              refine zqk 11 rfl hS9 ?_
              simp only [Act.put, zq1, zq2, zq3, zq4, zq5, zq6]
              refine zqk 12 rfl hS9 ?_
              simp only [Act.put, zq1, zq2, zq3, zq4, zq5, zq6]
              refine zqk 13 rfl hS9 ?_
              simp only [Act.put, zq1, zq2, zq3, zq4, zq5, zq6]
              refine zqk 14 rfl hS9 ?_
              simp only [Act.put, zq1, zq2, zq3, zq4, zq5, zq6]
              refine zqr 7 rfl (fun K hK => ?_)
              have hb1 := up0 W0 (.cells #[.int .i64 (-900 - (j : Int))] 3)
              have hl1 := lb_new W0 [.int .i64 (-900 - (j : Int))] 3
              go_simp
              obtain ⟨W1, hW1⟩ : ∃ x, x = W0.alloc (.cells #[.int .i64 (-900 - (j : Int))] 3) := ⟨_, rfl⟩
              have hl1' : LB W1 W0.heap.size 3 [.int .i64 (-900 - (j : Int))] := by rw [hW1]; exact hl1
              rw [← hW1] at hb1 ⊢
              have s1 := HS.out.kept hb1
              refine hK.out _ _ (HC.out W1 s1) fun _ => ?_
              try simp only [Act.put, zq1, zq2, zq3, zq4, zq5, zq6]
              clear hK K hl1 hW1
              refine zqr 8 rfl (fun K hK => ?_)
              obtain ⟨v2, W2, hr2, m2a, g2, at2, kp2⟩ := Mg.append_mk (P := Try.prog) W1 B 3 27 27 (cI j) (.int .i64 0) 8 Nat.one_pos (by intro u hu; rw [List.mem_singleton.1 hu]; rfl) infoI rfl Try.underlying27 (.slice av (n j) cv) (n j) 1 (s1.iI.l j _ HV.out.1) W0.heap.size 1 (fun q u hq => hl1'.cell q u (by simpa [Mg.pat, cI] using hq)) (by have := HV.out.2; omega) (by have := HV.out.2; omega) (Nat.le_trans HH0.out.2 (Nat.le_trans HH0.out.1 hb1.size))
              have gr2 : Ap.Gr 3 (cI j) B W1 W2 (.slice av (n j) cv) v2 (n j) 1 := by
                have h9 := (Ap.Gr.start (s1.iI.l j _ HV.out.1)).step (q := 1) m2a g2 at2 kp2
                rwa [Nat.zero_add] at h9
              obtain ⟨b1, k1, e1, -, -⟩ := Mg.row_shape m2a
              generalize n j + 1 = m1 at e1
              subst e1
              have s2 := s1.lenI HV.out.1 gr2
              refine st_appR rfl 27 (.tmp 74) (.tmp 77) rfl rfl rfl hr2 ?_
              refine hK.out _ _ (HC.out W2 s2) fun _ => ?_
              simp only [Act.put, zq1, zq2, zq3, zq4, zq5, zq6]
              clear hK K hr2 m2a g2 at2 kp2
              refine zqr 15 rfl (fun K hK => ?_)
              refine st_grown rfl 82 84 rfl rfl rfl (R := fun v' W' => ∃ a, ∃ m c : Nat, v' = .slice a m c ∧ Ap.Gr 3 (cI j) B W2 W' (.slice av (n j) cv) (.slice a m c) (n j) 80) ((ixgrown_any B (.slice av (n j) cv) _ (n j) W2 (s2.iI.l j _ HV.out.1) (by have := HV.out.2; omega) (Nat.le_trans HH0.out.2 s2.iI.sz)).mono fun e W' ⟨a, m, c, h1, h2⟩ => ⟨_, h1, a, m, c, rfl, h2⟩) ?_
              rintro v3 W3 ⟨b2, m2, k2, rfl, gr3⟩
              have s3 := s2.lenI HV.out.1 gr3
              refine hK.out _ _ (HC.out W3 s3) fun _ => ?_
              simp only [Act.put, zq1, zq2, zq3, zq4, zq5, zq6]
              clear hK K
              refine zqr 16 rfl (fun K hK => ?_)
              have hb4 := up0 W3 (.cells #[.slice b1 m1 k1, .slice b2 m2 k2] 27)
              have hl4 := lb_new W3 [.slice b1 m1 k1, .slice b2 m2 k2] 27
              go_simp
              obtain ⟨W4, hW4⟩ : ∃ x, x = W3.alloc (.cells #[.slice b1 m1 k1, .slice b2 m2 k2] 27) := ⟨_, rfl⟩
              have hl4' : LB W4 W3.heap.size 27 [.slice b1 m1 k1, .slice b2 m2 k2] := by rw [hW4]; exact hl4
              rw [← hW4] at hb4 ⊢
              have s4 := s3.kept hb4
              refine hK.out _ _ (HC.out W4 s4) fun _ => ?_
              try simp only [Act.put, zq1, zq2, zq3, zq4, zq5, zq6]
              clear hK K hl4 hW4
              refine zqr 17 rfl (fun K hK => ?_)
              obtain ⟨v5, W5, hr5, r5, g5⟩ := app2cI W4 H0 (.slice a9 m9 c9) G s4.rG W3.heap.size b1 b2 m1 m2 k1 k2 hl4' HGL.out.2 s4.iI.sz
              obtain ⟨b5, k5, e5, -, -⟩ := Mg.row_shape r5
              have hlen5 := HGL.out.1
              obtain ⟨m5, hm5⟩ : ∃ m5, m5 = G.length + 2 := ⟨_, rfl⟩
              rw [← hm5] at e5
              subst e5
              have s5 : Ap.Ls B H0 w (.slice (some ⟨gl, 0, none⟩) L.length kL) (.slice aT T.length kT) L T n nT cI cB (.slice b5 m5 k5) (.slice none 0 0) (G ++ [.slice b1 m1 k1, .slice b2 m2 k2]) [] W5 := s4.moreI HV.out.1 HGL.out.1 (by
                have h9 := gr3.keep _ _ gr2.cur
                exact Mg.row_kept h9 hb4) (Mg.row_kept gr3.cur hb4) (by
                rcases gr2.new with h9 | h9
                · exact .inl h9
                · exact .inr fun q hq => Nat.le_trans HH0.out.1 (Nat.le_trans hb1.size (h9 q hq))) (by
                rcases gr3.new with h9 | h9
                · exact .inl h9
                · exact .inr fun q hq => Nat.le_trans s2.iI.sz (h9 q hq)) g5 r5
              refine st_appR rfl 30 (.tmp 70) (.tmp 86) rfl rfl rfl hr5 ?_
              refine hK.out _ _ (by
                have e := World.ownsRow.cellAt s5.rL j (by rw [Nat.mul_one]; omega)
                rw [e]
                exact HV.out.1) fun hS5 => ?_
              simp only [Act.put, zq1, zq2, zq3, zq4, zq5, zq6]
              have H5 : Hid (Ap.Ls B H0 w (.slice (some ⟨gl, 0, none⟩) L.length kL) (.slice aT T.length kT) L T n nT cI cB (.slice b5 m5 k5) (.slice none 0 0) (G ++ [.slice b1 m1 k1, .slice b2 m2 k2]) [] W5) := s5
              clear hK K hr5 r5 g5 s1 s2 s3 s4 s5 gr2 gr3 hb1 hb4 hl1' hl4' HS hlen5 hm5
              refine zqk 18 rfl hS5 ?_
              simp only [Act.put, zq1, zq2, zq3, zq4, zq5, zq6]
              refine wpAnyH_done (by kernel_rfl) ?_ _
              clear hS5 hS9
              go_wp2_with fail
              go_roundw
              case rel => exact ⟨j + 1, _, by omega, by go_num, by rw [List.length_append, HGL.out.1]; simp; omega, ⟨_, _, _, rfl⟩, H5.out⟩
              case measure => simp [intOf]; omega
            · obtain rfl : j = L.length := by omega
              have HL1 : Hid (Ap.Ls B H0 w (.slice aL L.length kL) (.slice aT T.length kT) L T n nT cI cB (.slice a9 m9 c9) (.slice none 0 0) G [] wr) := hs
              have HGI : Hid (G.length = 2 * L.length ∧ (Value.slice a9 m9 c9) = .slice a9 m9 c9) := ⟨hGl, rfl⟩
              clear hs HL0 hj hlt hGl
              generalize a9 = aG at *
              generalize m9 = mG at *
              generalize c9 = cG at *
              go_wp2_with fail
              go_loopw [11, 12] (fun s9 i wr => ∃ j : Nat, ∃ H, j ≤ T.length ∧ i = .int .i64 (j : Int) ∧ H.length = 2 * j ∧ (∃ a9, ∃ m9 c9 : Nat, s9 = .slice a9 m9 c9) ∧ Ap.Ls B H0 w (.slice aL L.length kL) (.slice aT T.length kT) L T n nT cI cB (.slice aG mG cG) s9 G H wr) (fun _ i _ => T.length - (intOf i).toNat)
              case atStart => exact ⟨0, [], Nat.zero_le _, rfl, rfl, ⟨_, _, _, rfl⟩, HL1.out⟩
              case round =>
                obtain ⟨j, H, hj, rfl, hGl, ⟨a9, m9, c9, rfl⟩, hs⟩ := hrel
                by_cases hlt : j < T.length
                · obtain ⟨v, hv⟩ : ∃ v, T[j]? = some v := ⟨_, List.getElem?_eq_getElem hlt⟩
                  obtain ⟨av, cv, rfl, hv1, hv2⟩ := Mg.row_shape (hs.iB.l j v hv)
                  have HV : Hid (T[j]? = some (.slice av (nT j) cv) ∧ nT j ≤ 100000) := ⟨hv, HN.out.2 j⟩
                  obtain ⟨gl, rfl⟩ : ∃ gl, aT = some ⟨gl, 0, none⟩ := by
                    rcases hs.rT.2 with ⟨e, h0⟩ | ⟨gl, c', cur, e, -⟩
                    · omega
                    · simp only [Value.slice.injEq] at e
                      exact ⟨gl, e.1⟩
                  have HC : Hid (∀ W, Ap.Ls B H0 w (.slice aL L.length kL) (.slice (some ⟨gl, 0, none⟩) T.length kT) L T n nT cI cB (.slice aG mG cG) (.slice a9 m9 c9) G H W → W.cell? ⟨gl, j, none⟩ = some (.slice av (nT j) cv)) := fun W h9 => by
                    have e := World.ownsRow.cellAt h9.rT j (by rw [Nat.mul_one]; omega)
                    rw [e]
                    exact HV.out.1
                  have hs2 := hs.kept (show Below wr.heap.size wr wr.drew from ⟨rfl, rfl, rfl, Nat.le_refl _, fun _ _ => rfl⟩)
                  obtain ⟨W0, hW0⟩ : ∃ x, x = wr.drew := ⟨_, rfl⟩
                  rw [← hW0] at hs2
                  have HS : Hid (Ap.Ls B H0 w (.slice aL L.length kL) (.slice (some ⟨gl, 0, none⟩) T.length kT) L T n nT cI cB (.slice aG mG cG) (.slice a9 m9 c9) G H W0) := hs2
                  have HH0 : Hid (H0 ≤ W0.heap.size ∧ B ≤ H0) := ⟨hs2.iB.sz, hs2.iB.low⟩
                  have hS9 := HC.out W0 hs2
                  have HGL : Hid (H.length = 2 * j ∧ H.length ≤ 1000) := ⟨hGl, by omega⟩
                  clear hs hs2 hv hGl
                  have hwu : IntKind.u8.wrap (100 + (j : Int)) = 100 + (j : Int) := IntWalk.u8_in _ (by omega)
                  have hwi : IntKind.i64.wrap (100 + (j : Int)) = 100 + (j : Int) := IntWalk.i64_in _ (by omega)
                  go_upto_region 24 with fail
                  refine wp_region_held_drew (S := fun W : World => W.cell? ⟨gl, j, none⟩ = some (.slice av (nT j) cv)) (by kernel_rfl) (by rw [← hW0]; exact hS9) (fun _ => ?_)
                  rw [← hW0]
                  clear hW0
                  refine zqk 0 rfl hS9 ?_
                  simp only [Act.put, zq1, zq2, zq3, zq4, zq5]
                  refine zqk 1 rfl hS9 ?_
                  simp only [Act.put, zq1, zq2, zq3, zq4, zq5, zq6]
                  refine zqk 2 rfl hS9 ?_
                  simp only [Act.put, zq1, zq2, zq3, zq4, zq5, zq6]
                  refine zqk 3 rfl hS9 ?_
                  simp only [Act.put, zq1, zq2, zq3, zq4, zq5, zq6]
                  refine zqk 4 rfl hS9 ?_
                  simp only [Act.put, zq1, zq2, zq3, zq4, zq5, zq6]
                  refine zqk 5 rfl hS9 ?_
                  simp only [Act.put, zq1, zq2, zq3, zq4, zq5, zq6]
                  refine zqk 6 rfl hS9 ?_
                  simp only [Act.put, zq1, zq2, zq3, zq4, zq5, zq6]
                  refine zqk 7 rfl hS9 ?_
                  simp only [Act.put, zq1, zq2, zq3, zq4, zq5, zq6]
                  refine zqk 10 rfl hS9 ?_
                  simp only [Act.put, zq1, zq2, zq3, zq4, zq5, zq6]
                  refine zqk 11 rfl hS9 ?_
                  simp only [Act.put, zq1, zq2, zq3, zq4, zq5, zq6]
                  refine zqk 12 rfl hS9 ?_
                  simp only [Act.put, zq1, zq2, zq3, zq4, zq5, zq6]
                  refine zqk 13 rfl hS9 ?_
                  simp only [Act.put, zq1, zq2, zq3, zq4, zq5, zq6]
                  refine zqk 14 rfl hS9 ?_
                  simp only [Act.put, zq1, zq2, zq3, zq4, zq5, zq6]
                  refine zqk 15 rfl hS9 ?_
                  simp only [Act.put, zq1, zq2, zq3, zq4, zq5, zq6]
                  refine zqk 16 rfl hS9 ?_
                  simp only [Act.put, zq1, zq2, zq3, zq4, zq5, zq6]
                  refine zqr 8 rfl (fun K hK => ?_)
                  have hb1 := up0 W0 (.cells #[.int .u8 (100 + (j : Int))] 5)
                  have hl1 := lb_new W0 [.int .u8 (100 + (j : Int))] 5
                  go_simp
                  obtain ⟨W1, hW1⟩ : ∃ x, x = W0.alloc (.cells #[.int .u8 (100 + (j : Int))] 5) := ⟨_, rfl⟩
                  have hl1' : LB W1 W0.heap.size 5 [.int .u8 (100 + (j : Int))] := by rw [hW1]; exact hl1
                  rw [← hW1] at hb1 ⊢
                  have s1 := HS.out.kept hb1
                  refine hK.out _ _ (HC.out W1 s1) fun _ => ?_
                  try simp only [Act.put, zq1, zq2, zq3, zq4, zq5, zq6]
                  clear hK K hl1 hW1
                  refine zqr 9 rfl (fun K hK => ?_)
                  obtain ⟨v2, W2, hr2, m2a, g2, at2, kp2⟩ := Mg.append_mk (P := Try.prog) W1 B 5 34 34 (cB j) (.int .u8 0) 1 Nat.one_pos (by intro u hu; rw [List.mem_singleton.1 hu]; rfl) info5 rfl Try.underlying34 (.slice av (nT j) cv) (nT j) 1 (s1.iB.l j _ HV.out.1) W0.heap.size 1 (fun q u hq => hl1'.cell q u (by simpa [Mg.pat, cB] using hq)) (by have := HV.out.2; omega) (by have := HV.out.2; omega) (Nat.le_trans HH0.out.2 (Nat.le_trans HH0.out.1 hb1.size))
                  have gr2 : Ap.Gr 5 (cB j) B W1 W2 (.slice av (nT j) cv) v2 (nT j) 1 := by
                    have h9 := (Ap.Gr.start (s1.iB.l j _ HV.out.1)).step (q := 1) m2a g2 at2 kp2
                    rwa [Nat.zero_add] at h9
                  obtain ⟨b1, k1, e1, -, -⟩ := Mg.row_shape m2a
                  generalize nT j + 1 = m1 at e1
                  subst e1
                  have s2 := s1.lenB HV.out.1 gr2
                  refine st_appR rfl 34 (.tmp 98) (.tmp 102) rfl rfl rfl hr2 ?_
                  refine hK.out _ _ (HC.out W2 s2) fun _ => ?_
                  simp only [Act.put, zq1, zq2, zq3, zq4, zq5, zq6]
                  clear hK K hr2 m2a g2 at2 kp2
                  refine zqr 17 rfl (fun K hK => ?_)
                  refine st_grownb rfl 107 110 rfl rfl rfl (R := fun v' W' => ∃ a, ∃ m c : Nat, v' = .slice a m c ∧ Ap.Gr 5 (cB j) B W2 W' (.slice av (nT j) cv) (.slice a m c) (nT j) 80) ((ixgrownb_any B (.slice av (nT j) cv) _ (nT j) W2 (s2.iB.l j _ HV.out.1) (by have := HV.out.2; omega) (Nat.le_trans HH0.out.2 s2.iB.sz)).mono fun e W' ⟨a, m, c, h1, h2⟩ => ⟨_, h1, a, m, c, rfl, h2⟩) ?_
                  rintro v3 W3 ⟨b2, m2, k2, rfl, gr3⟩
                  have s3 := s2.lenB HV.out.1 gr3
                  refine hK.out _ _ (HC.out W3 s3) fun _ => ?_
                  simp only [Act.put, zq1, zq2, zq3, zq4, zq5, zq6]
                  clear hK K
                  refine zqr 18 rfl (fun K hK => ?_)
                  have hb4 := up0 W3 (.cells #[.slice b1 m1 k1, .slice b2 m2 k2] 34)
                  have hl4 := lb_new W3 [.slice b1 m1 k1, .slice b2 m2 k2] 34
                  go_simp
                  obtain ⟨W4, hW4⟩ : ∃ x, x = W3.alloc (.cells #[.slice b1 m1 k1, .slice b2 m2 k2] 34) := ⟨_, rfl⟩
                  have hl4' : LB W4 W3.heap.size 34 [.slice b1 m1 k1, .slice b2 m2 k2] := by rw [hW4]; exact hl4
                  rw [← hW4] at hb4 ⊢
                  have s4 := s3.kept hb4
                  refine hK.out _ _ (HC.out W4 s4) fun _ => ?_
                  try simp only [Act.put, zq1, zq2, zq3, zq4, zq5, zq6]
                  clear hK K hl4 hW4
                  refine zqr 19 rfl (fun K hK => ?_)
                  obtain ⟨v5, W5, hr5, r5, g5⟩ := app2cB W4 H0 (.slice a9 m9 c9) H s4.rH W3.heap.size b1 b2 m1 m2 k1 k2 hl4' HGL.out.2 s4.iB.sz
                  obtain ⟨b5, k5, e5, -, -⟩ := Mg.row_shape r5
                  have hlen5 := HGL.out.1
                  obtain ⟨m5, hm5⟩ : ∃ m5, m5 = H.length + 2 := ⟨_, rfl⟩
                  rw [← hm5] at e5
                  subst e5
                  have s5 : Ap.Ls B H0 w (.slice aL L.length kL) (.slice (some ⟨gl, 0, none⟩) T.length kT) L T n nT cI cB (.slice aG mG cG) (.slice b5 m5 k5) G (H ++ [.slice b1 m1 k1, .slice b2 m2 k2]) W5 := s4.moreB HV.out.1 HGL.out.1 (by
                    have h9 := gr3.keep _ _ gr2.cur
                    exact Mg.row_kept h9 hb4) (Mg.row_kept gr3.cur hb4) (by
                    rcases gr2.new with h9 | h9
                    · exact .inl h9
                    · exact .inr fun q hq => Nat.le_trans HH0.out.1 (Nat.le_trans hb1.size (h9 q hq))) (by
                    rcases gr3.new with h9 | h9
                    · exact .inl h9
                    · exact .inr fun q hq => Nat.le_trans s2.iB.sz (h9 q hq)) g5 r5
                  refine st_appR rfl 42 (.tmp 94) (.tmp 112) rfl rfl rfl hr5 ?_
                  refine hK.out _ _ (by
                    have e := World.ownsRow.cellAt s5.rT j (by rw [Nat.mul_one]; omega)
                    rw [e]
                    exact HV.out.1) fun hS5 => ?_
                  simp only [Act.put, zq1, zq2, zq3, zq4, zq5, zq6]
                  have H5 : Hid (Ap.Ls B H0 w (.slice aL L.length kL) (.slice (some ⟨gl, 0, none⟩) T.length kT) L T n nT cI cB (.slice aG mG cG) (.slice b5 m5 k5) G (H ++ [.slice b1 m1 k1, .slice b2 m2 k2]) W5) := s5
                  clear hK K hr5 r5 g5 s1 s2 s3 s4 s5 gr2 gr3 hb1 hb4 hl1' hl4' HS hlen5 hm5
                  refine zqk 20 rfl hS5 ?_
                  simp only [Act.put, zq1, zq2, zq3, zq4, zq5, zq6]
                  refine wpAnyH_done (by kernel_rfl) ?_ _
                  clear hS5 hS9
                  go_wp2_with fail
                  go_roundw
                  case rel => exact ⟨j + 1, _, by omega, by go_num, by rw [List.length_append, HGL.out.1]; simp; omega, ⟨_, _, _, rfl⟩, H5.out⟩
                  case measure => simp [intOf]; omega
                · obtain rfl : j = T.length := by omega
                  have hmH : m9 = H.length := by
                    obtain ⟨a2, c2, e2, -⟩ := Mg.row_shape hs.rH
                    simp only [Value.slice.injEq] at e2
                    exact e2.2.1
                  have hmG : mG = G.length := by
                    obtain ⟨a2, c2, e2, -⟩ := Mg.row_shape hs.rG
                    simp only [Value.slice.injEq] at e2
                    exact e2.2.1
                  subst hmH hmG
                  have hG200 : G.length ≤ 200 := by have := HGI.out.1; omega
                  have hH200 : H.length ≤ 200 := by omega
                  generalize a9 = aH at *
                  generalize c9 = cH at *
                  obtain ⟨W1, hW1⟩ : ∃ x, x = wr := ⟨_, rfl⟩
                  rw [← hW1] at hs ⊢
                  clear hW1
                  have HK : Hid (∀ W, Below W1.heap.size W1 W → Ap.Ls B H0 w (.slice aL L.length kL) (.slice aT T.length kT) L T n nT cI cB (.slice aG G.length cG) (.slice aH H.length cH) G H W) := fun W hW => hs.kept hW
                  have HFR : Hid (∀ W, Below W1.heap.size W1 W → FrK w W (Ap.Of L T)) := fun W hW => (hs.kept hW).fr
                  have HB1 : Hid (Below W1.heap.size W1 W1) := Below.refl _ _
                  clear hs HL1 hj hlt hGl
                  go_wp2_with fail
                  go_loopw [13] (fun i W => ∃ j : Nat, j ≤ G.length ∧ i = .int .i64 (j : Int) ∧ Below W1.heap.size W1 W) (fun i _ => G.length - (intOf i).toNat)
                  case atStart => exact ⟨0, Nat.zero_le _, rfl, HB1.out⟩
                  case round =>
                    obtain ⟨j, hj, rfl, hb⟩ := hrel
                    by_cases hlt : j < G.length
                    · have hs := HK.out wr hb
                      obtain ⟨u, hu⟩ : ∃ u, G[j]? = some u := ⟨_, List.getElem?_eq_getElem hlt⟩
                      obtain ⟨p, hp⟩ : ∃ p, p = j / 2 := ⟨_, rfl⟩
                      have hpl : p < L.length := by have := hs.iI.few; omega
                      have hp100 : p ≤ 100 := by omega
                      obtain ⟨v, hv⟩ : ∃ v, L[p]? = some v := ⟨_, List.getElem?_eq_getElem hpl⟩
                      have gu := hs.iI.g j u hu
                      rw [← hp] at gu
                      have lu := hs.iI.l p v hv
                      obtain ⟨au, cu, rfl, hu1, hu2⟩ := Mg.row_shape gu
                      obtain ⟨av, cv, rfl, hv1, hv2⟩ := Mg.row_shape lu
                      unfold maxLen at hu2 hv2
                      obtain ⟨m, hm⟩ : ∃ m, m = n p + Ap.dl j := ⟨_, rfl⟩
                      obtain ⟨q, hq⟩ : ∃ q, q = n p := ⟨_, rfl⟩
                      rw [← hm] at hu hu1 gu
                      rw [← hq] at hv hv1 lu
                      have hqb : q ≤ 100000 := by rw [hq]; exact HN.out.1 p
                      have hmb : m ≤ 100080 := by
                        rw [hm, ← hq]
                        unfold Ap.dl
                        split <;> omega
                      obtain ⟨gg, rfl⟩ : ∃ gg, aG = some ⟨gg, 0, none⟩ := by
                        rcases hs.rG.2 with ⟨e, h0⟩ | ⟨gl, c', cur, e, -⟩
                        · omega
                        · simp only [Value.slice.injEq] at e
                          exact ⟨gl, e.1⟩
                      obtain ⟨gl, rfl⟩ : ∃ gl, aL = some ⟨gl, 0, none⟩ := by
                        rcases hs.rL.2 with ⟨e, h0⟩ | ⟨gl, c', cur, e, -⟩
                        · omega
                        · simp only [Value.slice.injEq] at e
                          exact ⟨gl, e.1⟩
                      have HC : Hid (∀ W, Below W1.heap.size W1 W → W.cell? ⟨gg, j, none⟩ = some (.slice au m cu) ∧ W.cell? ⟨gl, p, none⟩ = some (.slice av q cv) ∧ (∀ k, k < m → ∃ g, au = some ⟨g, 0, none⟩ ∧ W.cell? ⟨g, k, none⟩ = some (.int .i64 (-900 - (p : Int)))) ∧ (∀ k, k < q → ∃ g, av = some ⟨g, 0, none⟩ ∧ W.cell? ⟨g, k, none⟩ = some (.int .i64 (-900 - (p : Int))))) := fun W hW => by
                        have h9 := HK.out W hW
                        refine ⟨?_, ?_, fun k hk => ?_, fun k hk => ?_⟩
                        · have e := World.ownsRow.cellAt h9.rG j (by rw [Nat.mul_one]; omega)
                          rw [e]
                          exact hu
                        · have e := World.ownsRow.cellAt h9.rL p (by rw [Nat.mul_one]; omega)
                          rw [e]
                          exact hv
                        · have hr := h9.iI.g j _ hu
                          rw [← hp, ← hm] at hr
                          obtain ⟨g, rfl⟩ : ∃ g, au = some ⟨g, 0, none⟩ := by
                            rcases hr.2 with ⟨e, h0⟩ | ⟨g, c', cur, e, -⟩
                            · omega
                            · simp only [Value.slice.injEq] at e
                              exact ⟨g, e.1⟩
                          refine ⟨g, rfl, ?_⟩
                          have e6 := World.ownsRow.cellAt hr k (by simp [cI]; omega)
                          rw [e6, Mg.pat_get _ _ _ (by simp [cI]; omega)]
                          simp [cI, Nat.mod_one]
                        · have hr := h9.iI.l p _ hv
                          rw [← hq] at hr
                          obtain ⟨g, rfl⟩ : ∃ g, av = some ⟨g, 0, none⟩ := by
                            rcases hr.2 with ⟨e, h0⟩ | ⟨g, c', cur, e, -⟩
                            · omega
                            · simp only [Value.slice.injEq] at e
                              exact ⟨g, e.1⟩
                          refine ⟨g, rfl, ?_⟩
                          have e6 := World.ownsRow.cellAt hr k (by simp [cI]; omega)
                          rw [e6, Mg.pat_get _ _ _ (by simp [cI]; omega)]
                          simp [cI, Nat.mod_one]
                      obtain ⟨x0, x1, -, -⟩ := HC.out wr hb
                      have HB2 : Hid (Below W1.heap.size W1 wr) := hb
                      have hdv : (j : Int).tdiv 2 = (p : Int) := by
                        rw [hp]
                        exact (Int.ofNat_tdiv j 2).symm
                      have HP : Hid (p = j / 2) := hp
                      clear hs hu hv hm hq gu lu hb hp
                      go_wp2_with fail
                      go_loopw [14] (fun i W => ∃ k : Nat, k ≤ m ∧ i = .int .i64 (k : Int) ∧ Below W1.heap.size W1 W) (fun i _ => m - (intOf i).toNat)
                      case atStart => exact ⟨0, Nat.zero_le _, rfl, HB2.out⟩
                      case round =>
                        clear x0 x1 HB2
                        obtain ⟨k, hk, rfl, hb⟩ := hrel
                        obtain ⟨x0, x1, hx2, hx3⟩ := HC.out wr hb
                        have HB3 : Hid (Below W1.heap.size W1 wr) := hb
                        clear hb
                        by_cases hkm : k < m
                        · obtain ⟨g1, rfl, x2⟩ := hx2 k hkm
                          clear hx2
                          by_cases hkq : k < q
                          · obtain ⟨g2, rfl, x3⟩ := hx3 k hkq
                            clear hx3
                            have d1 : ((k : Int) < (q : Int)) = True := by simp; omega
                            go_wp2_with fail
                            go_roundw
                            case rel => exact ⟨k + 1, by omega, by go_num, HB3.out⟩
                            case measure => simp [intOf]; omega
                          · clear hx3
                            have d1 : ((k : Int) < (q : Int)) = False := by simp; omega
                            go_wp2_with fail
                            go_roundw
                            case rel => exact ⟨k + 1, by omega, by go_num, HB3.out⟩
                            case measure => simp [intOf]; omega
                        · obtain rfl : k = m := by omega
                          clear hx2 hx3
                          go_wp2_with fail
                          go_roundw
                          case rel => exact ⟨j + 1, by omega, by go_num, HB3.out⟩
                          case measure => simp [intOf]; omega
                    · obtain rfl : j = G.length := by omega
                      have HB1 : Hid (Below W1.heap.size W1 wr) := hb
                      clear hb hj hlt
                      go_wp2_with fail
                      go_loopw [15] (fun i W => ∃ j : Nat, j ≤ H.length ∧ i = .int .i64 (j : Int) ∧ Below W1.heap.size W1 W) (fun i _ => H.length - (intOf i).toNat)
                      case atStart => exact ⟨0, Nat.zero_le _, rfl, HB1.out⟩
                      case round =>
                        obtain ⟨j, hj, rfl, hb⟩ := hrel
                        by_cases hlt : j < H.length
                        · have hs := HK.out wr hb
                          obtain ⟨u, hu⟩ : ∃ u, H[j]? = some u := ⟨_, List.getElem?_eq_getElem hlt⟩
                          obtain ⟨p, hp⟩ : ∃ p, p = j / 2 := ⟨_, rfl⟩
                          have hpl : p < T.length := by have := hs.iB.few; omega
                          have hp100 : p ≤ 100 := by omega
                          obtain ⟨v, hv⟩ : ∃ v, T[p]? = some v := ⟨_, List.getElem?_eq_getElem hpl⟩
                          have gu := hs.iB.g j u hu
                          rw [← hp] at gu
                          have lu := hs.iB.l p v hv
                          obtain ⟨au, cu, rfl, hu1, hu2⟩ := Mg.row_shape gu
                          obtain ⟨av, cv, rfl, hv1, hv2⟩ := Mg.row_shape lu
                          unfold maxLen at hu2 hv2
                          obtain ⟨m, hm⟩ : ∃ m, m = nT p + Ap.dl j := ⟨_, rfl⟩
                          obtain ⟨q, hq⟩ : ∃ q, q = nT p := ⟨_, rfl⟩
                          rw [← hm] at hu hu1 gu
                          rw [← hq] at hv hv1 lu
                          have hqb : q ≤ 100000 := by rw [hq]; exact HN.out.2 p
                          have hmb : m ≤ 100080 := by
                            rw [hm, ← hq]
                            unfold Ap.dl
                            split <;> omega
                          obtain ⟨gg, rfl⟩ : ∃ gg, aH = some ⟨gg, 0, none⟩ := by
                            rcases hs.rH.2 with ⟨e, h0⟩ | ⟨gl, c', cur, e, -⟩
                            · omega
                            · simp only [Value.slice.injEq] at e
                              exact ⟨gl, e.1⟩
                          obtain ⟨gl, rfl⟩ : ∃ gl, aT = some ⟨gl, 0, none⟩ := by
                            rcases hs.rT.2 with ⟨e, h0⟩ | ⟨gl, c', cur, e, -⟩
                            · omega
                            · simp only [Value.slice.injEq] at e
                              exact ⟨gl, e.1⟩
                          have HC : Hid (∀ W, Below W1.heap.size W1 W → W.cell? ⟨gg, j, none⟩ = some (.slice au m cu) ∧ W.cell? ⟨gl, p, none⟩ = some (.slice av q cv) ∧ (∀ k, k < m → ∃ g, au = some ⟨g, 0, none⟩ ∧ W.cell? ⟨g, k, none⟩ = some (.int .u8 (100 + (p : Int)))) ∧ (∀ k, k < q → ∃ g, av = some ⟨g, 0, none⟩ ∧ W.cell? ⟨g, k, none⟩ = some (.int .u8 (100 + (p : Int))))) := fun W hW => by
                            have h9 := HK.out W hW
                            refine ⟨?_, ?_, fun k hk => ?_, fun k hk => ?_⟩
                            · have e := World.ownsRow.cellAt h9.rH j (by rw [Nat.mul_one]; omega)
                              rw [e]
                              exact hu
                            · have e := World.ownsRow.cellAt h9.rT p (by rw [Nat.mul_one]; omega)
                              rw [e]
                              exact hv
                            · have hr := h9.iB.g j _ hu
                              rw [← hp, ← hm] at hr
                              obtain ⟨g, rfl⟩ : ∃ g, au = some ⟨g, 0, none⟩ := by
                                rcases hr.2 with ⟨e, h0⟩ | ⟨g, c', cur, e, -⟩
                                · omega
                                · simp only [Value.slice.injEq] at e
                                  exact ⟨g, e.1⟩
                              refine ⟨g, rfl, ?_⟩
                              have e6 := World.ownsRow.cellAt hr k (by simp [cB]; omega)
                              rw [e6, Mg.pat_get _ _ _ (by simp [cB]; omega)]
                              simp [cB, Nat.mod_one]
                            · have hr := h9.iB.l p _ hv
                              rw [← hq] at hr
                              obtain ⟨g, rfl⟩ : ∃ g, av = some ⟨g, 0, none⟩ := by
                                rcases hr.2 with ⟨e, h0⟩ | ⟨g, c', cur, e, -⟩
                                · omega
                                · simp only [Value.slice.injEq] at e
                                  exact ⟨g, e.1⟩
                              refine ⟨g, rfl, ?_⟩
                              have e6 := World.ownsRow.cellAt hr k (by simp [cB]; omega)
                              rw [e6, Mg.pat_get _ _ _ (by simp [cB]; omega)]
                              simp [cB, Nat.mod_one]
                          obtain ⟨x0, x1, -, -⟩ := HC.out wr hb
                          have HB2 : Hid (Below W1.heap.size W1 wr) := hb
                          have hdv : (j : Int).tdiv 2 = (p : Int) := by
                            rw [hp]
                            exact (Int.ofNat_tdiv j 2).symm
                          have HP : Hid (p = j / 2) := hp
                          clear hs hu hv hm hq gu lu hb hp
                          have hwu : IntKind.u8.wrap (100 + (p : Int)) = 100 + (p : Int) := IntWalk.u8_in _ (by omega)
                          go_wp2_with fail
                          go_loopw [16] (fun i W => ∃ k : Nat, k ≤ m ∧ i = .int .i64 (k : Int) ∧ Below W1.heap.size W1 W) (fun i _ => m - (intOf i).toNat)
                          case atStart => exact ⟨0, Nat.zero_le _, rfl, HB2.out⟩
                          case round =>
                            clear x0 x1 HB2
                            obtain ⟨k, hk, rfl, hb⟩ := hrel
                            obtain ⟨x0, x1, hx2, hx3⟩ := HC.out wr hb
                            have HB3 : Hid (Below W1.heap.size W1 wr) := hb
                            clear hb
                            by_cases hkm : k < m
                            · obtain ⟨g1, rfl, x2⟩ := hx2 k hkm
                              clear hx2
                              by_cases hkq : k < q
                              · obtain ⟨g2, rfl, x3⟩ := hx3 k hkq
                                clear hx3
                                have d1 : ((k : Int) < (q : Int)) = True := by simp; omega
                                go_wp2_with fail
                                go_roundw
                                case rel => exact ⟨k + 1, by omega, by go_num, HB3.out⟩
                                case measure => simp [intOf]; omega
                              · clear hx3
                                have d1 : ((k : Int) < (q : Int)) = False := by simp; omega
                                go_wp2_with fail
                                go_roundw
                                case rel => exact ⟨k + 1, by omega, by go_num, HB3.out⟩
                                case measure => simp [intOf]; omega
                            · obtain rfl : k = m := by omega
                              clear hx2 hx3
                              go_wp2_with fail
                              go_roundw
                              case rel => exact ⟨j + 1, by omega, by go_num, HB3.out⟩
                              case measure => simp [intOf]; omega
                        · obtain rfl : j = H.length := by omega
                          have HB9 : Hid (Below W1.heap.size W1 wr) := hb
                          clear hb hj hlt
                          go_wp2_with fail
                          go_ret
                          exact ⟨rfl, HFR.out _ HB9.out⟩
end Go.Proofs.Ytceokpklcfmadab
