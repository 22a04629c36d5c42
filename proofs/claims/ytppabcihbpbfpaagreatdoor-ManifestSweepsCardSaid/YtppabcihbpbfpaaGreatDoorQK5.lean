import Derived.Test.YtppabcihbpbfpaaGreatDoorQK4
/-
  Package disk: Sync, Append.
-/
namespace Go.Proofs.YtppabcihbpbfpaaGreatDoor
open Go Go.RowKit Go.ChangeShapes
open Wb

namespace Dk
theorem find_cases (S : DS) (l : List UInt8) : (∃ f, findE S l = (0, some f) ∧ get S.nm l = some f) ∨ ∃ e, e ≠ 0 ∧ findE S l = (e, none) := by
  unfold findE
  by_cases h : askE S [l] = 0
  · rw [if_pos h]
    cases hg : get S.nm l with
    | none => exact .inr ⟨63, by decide, rfl⟩
    | some f => exact .inl ⟨f, rfl, rfl⟩
  · rw [if_neg h]
    exact .inr ⟨_, h, rfl⟩
def fil (S : DS) (l : List UInt8) : Nat := (findE S l).2.getD 0
/-- Sync -/
def synE (S : DS) (s : List UInt8) : Int := if (findE S s).1 = 0 then (cnt S).1 else (findE S s).1
def syn (S : DS) (s : List UInt8) : DS := if (findE S s).1 = 0 then (if (cnt S).1 = 0 then { (cnt S).2 with fo := upd (cnt S).2.fo (fil S s) ⟨((cnt S).2.fo (fil S s)).data, ((cnt S).2.fo (fil S s)).data.length⟩ } else (cnt S).2) else S
/-- Append -/
def appE (S : DS) (s : List UInt8) (l : List Nat) : Int := if (findE S s).1 = 0 then (if (l.length : Int) > S.quota - S.taken then 64 else (cnt S).1) else (findE S s).1
def app (S : DS) (s : List UInt8) (l : List Nat) : DS := if (findE S s).1 = 0 ∧ ¬ ((l.length : Int) > S.quota - S.taken) then (if (cnt S).1 = 0 then { (cnt S).2 with fo := upd (cnt S).2.fo (fil S s) ⟨((cnt S).2.fo (fil S s)).data ++ l, ((cnt S).2.fo (fil S s)).syn⟩, taken := S.taken + (l.length : Int) } else (cnt S).2) else S
theorem cnt_taken (S : DS) : (cnt S).2.taken = S.taken := by
  unfold cnt
  split
  · rfl
  · split <;> rfl
theorem cnt_quota (S : DS) : (cnt S).2.quota = S.quota := by
  unfold cnt
  split
  · rfl
  · split <;> rfl
end Dk
theorem DPost.cnt {B : Nat} {w w' : World} {g : Nat} {S : Dk.DS} {M : Mm} (hb : IFr w w' (Ft g S M)) (h : DM B w' g (Dk.cnt S).2 M) : DPost B g S M w (Dk.cnt S).2 w' := ⟨M, h, hb, fun _q hq => .inl (ft_cnt hq)⟩
set_option maxRecDepth 100000 in
set_option maxHeartbeats 8000000 in
theorem dksync_any (B g : Nat) (S : Dk.DS) (M : Mm) (s : ByteArray) (w : World) (h : DM B w g S M) (hB : B ≤ w.heap.size) (hs : s.size ≤ maxLen) (hl : S.armed = true → 0 ≤ S.left ∧ S.left ≤ 9223372036854775807) (hid : ∀ p ∈ S.nm, p.2 ∈ S.ids) :
    Calls Tryz.prog 25 #[.pointer (some ⟨g, 0, none⟩), .string s] w fun e w' => e = .returned (.int .i64 (Dk.synE S s.data.toList)) ∧ DPost B g S M w (Dk.syn S s.data.toList) w' := by
  have H0 : Hid (∀ W, Below w.heap.size w W → DM B W g S M) := fun W hW => h.kept hW
  have HB : Hid (B ≤ w.heap.size) := hB
  have cF := dkfind_any B g S M s w h hs
  have HCT : Hid (∀ W, Below w.heap.size w W → Calls Tryz.prog 40 #[.pointer (some ⟨g, 0, none⟩)] W fun e w' => e = .returned (.int .i64 (Dk.cnt S).1) ∧ DM B w' g (Dk.cnt S).2 M ∧ IFr W w' (· = g)) := fun W hW => dkcount_any B g S M W (H0.out W hW) hl
  clear h hB hl
  rcases Dk.find_cases S s.data.toList with ⟨f, hE, hg⟩ | ⟨ae, hne, hE⟩
  · have HFE : Hid (Dk.findE S s.data.toList = (0, some f)) := hE
    have HFI : Hid (f ∈ S.ids) := hid _ (Dk.get_mem hg)
    rw [hE] at cF
    dsimp only [fpo, fp] at cF
    clear hE hg hid hs
    go_enter Tryz.func25, Tryz.ntmps25
    go_wp2_with fail
    refine cF.mono ?_
    rintro e W1 ⟨rfl, b1⟩
    have HB1 : Hid (Below w.heap.size w W1) := b1
    clear b1
    go_wp2_with fail
    refine (HCT.out W1 HB1.out).mono ?_
    rintro e W2 ⟨rfl, d2, f2⟩
    have HD2 : Hid (DM B W2 g (Dk.cnt S).2 M ∧ IFr w W2 (Ft g S M)) := ⟨d2, (IFr.kept HB1.out).trans f2 fun _ _ e => .inl e⟩
    clear d2 f2
    have HFC : Hid (f ∈ (Dk.cnt S).2.ids) := by rw [Dk.cnt_ids]; exact HFI.out
    by_cases hc0 : (Dk.cnt S).1 = 0
    · have HC0 : Hid ((Dk.cnt S).1 = 0) := hc0
      rw [hc0]
      clear hc0
      have fb := HD2.out.1.fb f HFC.out
      obtain ⟨a1, c1, hdv, hc1, hc2⟩ := Mg.row_shape (HD2.out.1.fd f HFC.out).row
      rw [hdv] at fb
      have x0 := fb.cell 0 _ rfl
      have x1 := fb.cell 1 _ rfl
      have f1 := fb.free 1
      have k9 := HD2.out.1.syn HFC.out ((Dk.cnt S).2.fo f).data.length
      have HFIN : Hid (DPost B g S M w (Dk.syn S s.data.toList) (W2.setCell ⟨f, 1, none⟩ (.int .i64 (((Dk.cnt S).2.fo f).data.length : Int)))) := by
        have e9 : Dk.syn S s.data.toList = { (Dk.cnt S).2 with fo := Dk.upd (Dk.cnt S).2.fo f ⟨((Dk.cnt S).2.fo f).data, ((Dk.cnt S).2.fo f).data.length⟩ } := by
          unfold Dk.syn Dk.fil
          rw [HFE.out, if_pos rfl, if_pos HC0.out]
          rfl
        rw [e9]
        exact ⟨M, k9.1, HD2.out.2.trans k9.2 fun _ _ e => ft_cnt e, fun q hq => .inl (ft_cnt hq)⟩
      have HE : Hid (Dk.synE S s.data.toList = 0) := by
        show Dk.synE _ _ = 0
        unfold Dk.synE
        rw [HFE.out, if_pos rfl]
        exact HC0.out
      clear k9 fb hdv hc1 hc2
      generalize ((Dk.cnt S).2.fo f).data.length = n at *
      go_wp2_with fail
      go_returns
      rw [HE.out]
      exact ⟨rfl, HFIN.out⟩
    · obtain ⟨ce, hce⟩ : ∃ ce, ce = (Dk.cnt S).1 := ⟨_, rfl⟩
      have HE : Hid (Dk.synE S s.data.toList = ce ∧ Dk.syn S s.data.toList = (Dk.cnt S).2) := by
        refine ⟨?_, ?_⟩
        · unfold Dk.synE
          rw [HFE.out, if_pos rfl, hce]
        · unfold Dk.syn
          rw [HFE.out, if_pos rfl, if_neg hc0]
      rw [← hce] at hc0 ⊢
      have hd : (ce != 0) = true := by simp only [bne_iff_ne, ne_eq]; exact hc0
      clear hc0 hce
      go_wp2_with fail
      go_returns
      refine ⟨?_, ?_⟩
      · rw [HE.out.1]
        rfl
      · rw [HE.out.2]
        exact DPost.cnt HD2.out.2 HD2.out.1
  · have HE : Hid (Dk.synE S s.data.toList = ae ∧ Dk.syn S s.data.toList = S) := by
      refine ⟨?_, ?_⟩
      · unfold Dk.synE
        rw [hE, if_neg hne]
      · unfold Dk.syn
        rw [hE, if_neg hne]
    rw [hE] at cF
    dsimp only [fpo] at cF
    have hd : (ae != 0) = true := by simp only [bne_iff_ne, ne_eq]; exact hne
    clear hE hne hid hs HCT
    go_enter Tryz.func25, Tryz.ntmps25
    go_wp2_with fail
    refine cF.mono ?_
    rintro e W1 ⟨rfl, b1⟩
    have HB1 : Hid (Below w.heap.size w W1) := b1
    clear b1
    go_wp2_with fail
    go_returns
    refine ⟨?_, ?_⟩
    · rw [HE.out.1]
      rfl
    · rw [HE.out.2]
      exact DPost.same (H0.out w (Below.refl _ _)) HB1.out
/-- append by its run -/
theorem wpList_appRun {P : Program} {w W : World} {ops : Array Oper} {rest : List Oper} {o : Oper} {a : Act} {Q : Exit → Act → World → Prop} {v u y : Value} (hgd : o.guard = none) (s x : Operand) (t : TypeId) (ho : o.op = .call { callee := .builtin .append, args := #[s, x], argTypes := #[t, t] }) (hs : a.eval s = u) (hx : a.eval x = y) (hr : (Builtin.append_ #[t, t] o.type #[u, y]).run P w = .ok v W) (h : wpList P ops Q rest (a.put o.dst v) W) : wpList P ops Q (o :: rest) a w := by
  refine wpList_plain hgd fun _ hK' => ?_
  unfold Oper.wp
  simp [execOp, ho, resolve, invoke, builtin, hs, hx, hr, Result.andThen]
  exact hK' _ _ h
/-- bytes whose block stays -/
theorem bs_blk {w w' : World} {v : Value} {l : List Nat} (h : Bs w v l) (hb : ∀ q, (∃ off n c, v = .slice (some ⟨q, off, none⟩) n c) → q < w.heap.size → w'.heap[q]? = w.heap[q]?) : Bs w' v l := by
  refine ⟨?_, h.good⟩
  obtain ⟨a, c, e, h1, h2, h3, h4⟩ := h.shape
  refine ⟨a, c, e, h1, h2, h3, fun hne => ?_⟩
  obtain ⟨b, off, e2, hcell⟩ := h4 hne
  refine ⟨b, off, e2, fun j hj => ?_⟩
  have h9 := hcell j hj
  have hlt : b < w.heap.size := World.block_lt_of_cell? _ _ h9
  have hk := hb b ⟨off, _, _, by rw [e, e2]⟩ hlt
  simp only [World.cell?] at h9 ⊢
  rw [hk]
  exact h9
theorem bs_blk0 {w w' : World} {v : Value} {l : List Nat} (h : Bs w v l) (hb : l ≠ [] → ∀ q, (∃ off n c, v = .slice (some ⟨q, off, none⟩) n c) → q < w.heap.size → w'.heap[q]? = w.heap[q]?) : Bs w' v l := by
  by_cases e0 : l = []
  · subst e0
    obtain ⟨a, c, e, h1, h2, h3, -⟩ := h.shape
    exact ⟨⟨a, c, e, h1, h2, h3, fun h => absurd rfl h⟩, h.good⟩
  · exact bs_blk h (hb e0)
set_option maxRecDepth 100000 in
set_option maxHeartbeats 8000000 in
theorem dkappend_any (B g : Nat) (S : Dk.DS) (M : Mm) (s : ByteArray) (v : Value) (l : List Nat) (w : World) (h : DM B w g S M) (hB : B ≤ w.heap.size) (hs : s.size ≤ maxLen) (hl : S.armed = true → 0 ≤ S.left ∧ S.left ≤ 9223372036854775807) (hid : ∀ p ∈ S.nm, p.2 ∈ S.ids) (hv : Bs w v l) (hap : l ≠ [] → ∀ q, (∃ off n c, v = .slice (some ⟨q, off, none⟩) n c) → ¬ Ft g S M q) (hq : 0 ≤ S.taken ∧ S.taken ≤ S.quota ∧ S.quota ≤ 4194304) (hln : ∀ f ∈ S.ids, (S.fo f).data.length ≤ 1000000000) :
    Calls Tryz.prog 24 #[.pointer (some ⟨g, 0, none⟩), .string s, v] w fun e w' => e = .returned (.int .i64 (Dk.appE S s.data.toList l)) ∧ DPost B g S M w (Dk.app S s.data.toList l) w' := by
  have H0 : Hid (∀ W, Below w.heap.size w W → DM B W g S M) := fun W hW => h.kept hW
  have HB : Hid (B ≤ w.heap.size) := hB
  have cF := dkfind_any B g S M s w h hs
  have HCT : Hid (∀ W, Below w.heap.size w W → Calls Tryz.prog 40 #[.pointer (some ⟨g, 0, none⟩)] W fun e w' => e = .returned (.int .i64 (Dk.cnt S).1) ∧ DM B w' g (Dk.cnt S).2 M ∧ IFr W w' (· = g)) := fun W hW => dkcount_any B g S M W (H0.out W hW) hl
  clear h hB hl
  rcases Dk.find_cases S s.data.toList with ⟨f, hE, hg⟩ | ⟨ae, hne, hE⟩
  · have HFE : Hid (Dk.findE S s.data.toList = (0, some f)) := hE
    have HFI : Hid (f ∈ S.ids) := hid _ (Dk.get_mem hg)
    rw [hE] at cF
    dsimp only [fpo, fp] at cF
    clear hE hg hid hs
    obtain ⟨av, cv, hve, hv1, hv2, -⟩ := hv.shape
    have HLB : Hid (∀ W, IFr w W (Ft g S M) → Bs W v l) := fun W hW => bs_blk0 hv fun hne q hq hlt => hW.block q hlt fun e => hap hne q hq e
    have HQ : Hid (0 ≤ S.taken ∧ S.taken ≤ S.quota ∧ S.quota ≤ 4194304) := hq
    have HLN0 : Hid (∀ f ∈ S.ids, (S.fo f).data.length ≤ 1000000000) := hln
    have hwq : IntKind.i64.wrap (S.quota - S.taken) = S.quota - S.taken := IntWalk.i64_in _ (by omega)
    clear hq hap hln hv
    subst hve
    unfold maxLen at hv2
    by_cases hrm : (l.length : Int) > S.quota - S.taken
    · have hd : (S.quota - S.taken < (l.length : Int)) = True := by simp; omega
      have HE : Hid (Dk.appE S s.data.toList l = 64 ∧ Dk.app S s.data.toList l = S) := by
        refine ⟨?_, ?_⟩
        · unfold Dk.appE
          rw [HFE.out, if_pos rfl, if_pos hrm]
        · unfold Dk.app
          rw [if_neg (fun e => e.2 hrm)]
      clear hrm HCT
      go_enter Tryz.func24, Tryz.ntmps24
      go_wp2_with fail
      refine cF.mono ?_
      rintro e W1 ⟨rfl, b1⟩
      have HB1 : Hid (Below w.heap.size w W1) := b1
      have q0 := (H0.out W1 b1).box.cell 0 _ rfl
      have q1 := (H0.out W1 b1).box.cell 1 _ rfl
      clear b1
      generalize S.quota = qt at *
      generalize S.taken = tk at *
      go_wp2_with fail
      go_quiet (fail)
      go_wp2_with fail
      go_returns
      refine ⟨?_, ?_⟩
      · rw [HE.out.1]
        rfl
      · rw [HE.out.2]
        exact DPost.same (H0.out w (Below.refl _ _)) (bel_drewN HB1.out _)
    · have hd : (S.quota - S.taken < (l.length : Int)) = False := by simp; omega
      have HRM : Hid ((l.length : Int) ≤ S.quota - S.taken) := Int.not_lt.1 hrm
      have HLN : Hid ((∀ f ∈ S.ids, (S.fo f).data.length ≤ 1000000000) ∧ (l.length : Int) ≤ 4194304) := ⟨HLN0.out, by have := HQ.out; omega⟩
      have hl4 : (l.length : Int) ≤ 4194304 := HLN.out.2
      clear hrm
      go_enter Tryz.func24, Tryz.ntmps24
      go_wp2_with fail
      refine cF.mono ?_
      rintro e W1a ⟨rfl, b1⟩
      have HB1a : Hid (Below w.heap.size w W1a) := b1
      have q0 := (H0.out W1a b1).box.cell 0 _ rfl
      have q1 := (H0.out W1a b1).box.cell 1 _ rfl
      clear b1
      go_wp2_with fail
      go_quiet (fail)
      go_wp2_with fail
      have HB1 : Hid (Below w.heap.size w (W1a.drewN nq)) := bel_drewN HB1a.out nq
      clear q0 q1 HB1a
      generalize W1a.drewN nq = W1 at HB1 ⊢
      refine (HCT.out W1 HB1.out).mono ?_
      rintro e W2 ⟨rfl, d2, f2⟩
      have HD2 : Hid (DM B W2 g (Dk.cnt S).2 M ∧ IFr w W2 (Ft g S M)) := ⟨d2, (IFr.kept HB1.out).trans f2 fun _ _ e => .inl e⟩
      clear d2 f2
      have HFC : Hid (f ∈ (Dk.cnt S).2.ids) := by rw [Dk.cnt_ids]; exact HFI.out
      by_cases hc0 : (Dk.cnt S).1 = 0
      · have HC0 : Hid ((Dk.cnt S).1 = 0) := hc0
        rw [hc0]
        clear hc0
        have fb := HD2.out.1.fb f HFC.out
        obtain ⟨v9, W3, hr3, o3, g3, v3⟩ := run_appB W2 32 B (M.dv f) ((Dk.cnt S).2.fo f).data (HD2.out.1.fd f HFC.out) _ l (HLB.out W2 HD2.out.2) (by have h1 := HLN.out.1 f HFI.out; rw [Dk.cnt_fo]; omega) (Nat.le_trans HB.out HD2.out.2.size)
        obtain ⟨a3, k3, c3, hv9⟩ : ∃ (x : Option Addr) (y z : Nat), v9 = .slice x y z := by
          obtain ⟨x, z, e, -⟩ := Mg.row_shape o3.row
          exact ⟨x, _, z, e⟩
        subst hv9
        have x0 := fb.cell 0 _ rfl
        have fb3 : LB W3 f 75 [M.dv f, .int .i64 (((Dk.cnt S).2.fo f).syn : Int)] := (g3.block f fb.lt fun e => (HD2.out.1.fne HFC.out).2.2.2.2 f HFC.out e.symm).trans fb
        have y0 := fb3.cell 0 _ rfl
        have g0 := fb3.free 0
        have k9 := HD2.out.1.dat HFC.out (IFr.of (F := fun q => (M.dv f).ownBlock = some q) g3 fun _ _ e => e) o3 (fun q e => by
          rcases v3 with h9 | h9
          · exact .inl (by rw [← h9]; exact e)
          · rw [h9] at e
            exact .inr (by have := Option.some.inj e; omega))
        have z1 := k9.1.box.cell 1 _ rfl
        have h1f := k9.1.box.free 1
        have htk : (Dk.cnt S).2.taken = S.taken := Dk.cnt_taken S
        rw [htk] at z1
        have hwr : IntKind.i64.wrap (S.taken + (l.length : Int)) = S.taken + (l.length : Int) := IntWalk.i64_in _ (by have := HQ.out; omega)
        have k10 := k9.1.num 1 (.int .i64 (S.taken + (l.length : Int))) { (Dk.cnt S).2 with fo := Dk.upd (Dk.cnt S).2.fo f ⟨((Dk.cnt S).2.fo f).data ++ l, ((Dk.cnt S).2.fo f).syn⟩, taken := S.taken + (l.length : Int) } rfl rfl rfl rfl rfl rfl
        have HFIN : Hid (DPost B g S M w (Dk.app S s.data.toList l) ((W3.setCell ⟨f, 0, none⟩ (.slice a3 k3 c3)).setCell ⟨g, 1, none⟩ (.int .i64 (S.taken + (l.length : Int))))) := by
          have e9 : Dk.app S s.data.toList l = { (Dk.cnt S).2 with fo := Dk.upd (Dk.cnt S).2.fo f ⟨((Dk.cnt S).2.fo f).data ++ l, ((Dk.cnt S).2.fo f).syn⟩, taken := S.taken + (l.length : Int) } := by
            unfold Dk.app Dk.fil
            rw [HFE.out, if_pos ⟨rfl, (Int.not_lt.2 HRM.out)⟩, if_pos HC0.out]
            rfl
          rw [e9]
          exact DPost.trans (S' := (Dk.cnt S).2) (M' := M) HD2.out.2 (fun q hq => .inl (ft_cnt hq)) ⟨_, k10, k9.2.1.trans (ifr_set _ _ _ _) fun _ _ e => .inl e, k9.2.2⟩
        have HE : Hid (Dk.appE S s.data.toList l = 0) := by
          show Dk.appE _ _ _ = 0
          unfold Dk.appE
          rw [HFE.out, if_pos rfl, if_neg (Int.not_lt.2 HRM.out)]
          exact HC0.out
        clear k9 k10 fb fb3 o3 g3 v3 htk
        generalize S.taken = tk at *
        generalize M.dv f = dvf at *
        go_wp2_with (at_builtin; refine wpList_appRun rfl (.tmp 40) (.tmp 41) 32 rfl rfl rfl hr3 ?_)
        go_wp2_with fail
        go_returns
        rw [HE.out]
        exact ⟨rfl, HFIN.out⟩
      · obtain ⟨ce, hce⟩ : ∃ ce, ce = (Dk.cnt S).1 := ⟨_, rfl⟩
        have HE : Hid (Dk.appE S s.data.toList l = ce ∧ Dk.app S s.data.toList l = (Dk.cnt S).2) := by
          refine ⟨?_, ?_⟩
          · unfold Dk.appE
            rw [HFE.out, if_pos rfl, if_neg (Int.not_lt.2 HRM.out), hce]
          · unfold Dk.app
            rw [HFE.out, if_pos ⟨rfl, (Int.not_lt.2 HRM.out)⟩, if_neg hc0]
        rw [← hce] at hc0 ⊢
        have hd : (ce != 0) = true := by simp only [bne_iff_ne, ne_eq]; exact hc0
        clear hc0 hce
        go_wp2_with fail
        go_returns
        refine ⟨?_, ?_⟩
        · rw [HE.out.1]
          rfl
        · rw [HE.out.2]
          exact DPost.cnt HD2.out.2 HD2.out.1
  · have HE : Hid (Dk.appE S s.data.toList l = ae ∧ Dk.app S s.data.toList l = S) := by
      refine ⟨?_, ?_⟩
      · unfold Dk.appE
        rw [hE, if_neg hne]
      · unfold Dk.app
        rw [if_neg (fun e => hne (by rw [hE] at e; exact e.1))]
    rw [hE] at cF
    dsimp only [fpo] at cF
    have hd : (ae != 0) = true := by simp only [bne_iff_ne, ne_eq]; exact hne
    clear hE hne hid hs HCT hv hap hq hln
    go_enter Tryz.func24, Tryz.ntmps24
    go_wp2_with fail
    refine cF.mono ?_
    rintro e W1 ⟨rfl, b1⟩
    have HB1 : Hid (Below w.heap.size w W1) := b1
    clear b1
    go_wp2_with fail
    go_returns
    refine ⟨?_, ?_⟩
    · rw [HE.out.1]
      rfl
    · rw [HE.out.2]
      exact DPost.same (H0.out w (Below.refl _ _)) HB1.out
end Go.Proofs.YtppabcihbpbfpaaGreatDoor

/-
  Package disk: Remove, Rename, Truncate.
-/
namespace Go.Proofs.YtppabcihbpbfpaaGreatDoor
open Go Go.RowKit Go.ChangeShapes
open Wb

namespace Dk
/-- Remove -/
def rem (S : DS) (s : List UInt8) : DS := if (findE S s).1 = 0 then (if (cnt S).1 = 0 then { (cnt S).2 with nm := Ch.app ⟨s, [], none⟩ (cnt S).2.nm, ch := (cnt S).2.ch ++ [⟨s, [], none⟩] } else (cnt S).2) else S
/-- Rename -/
def renE (S : DS) (a b : List UInt8) : Int := if askE S [a, b] = 0 then synE S a else askE S [a, b]
def ren (S : DS) (a b : List UInt8) : DS := if askE S [a, b] = 0 ∧ (findE S a).1 = 0 then (if (cnt S).1 = 0 then { (cnt S).2 with nm := Ch.app ⟨a, b, some (fil S a)⟩ (cnt S).2.nm, ch := (cnt S).2.ch ++ [⟨a, b, some (fil S a)⟩] } else (cnt S).2) else S
end Dk
set_option maxRecDepth 100000 in
set_option maxHeartbeats 8000000 in
theorem dkremove_any (B g : Nat) (S : Dk.DS) (M : Mm) (s : ByteArray) (w : World) (h : DM B w g S M) (hB : B ≤ w.heap.size) (hs : s.size ≤ maxLen) (hl : S.armed = true → 0 ≤ S.left ∧ S.left ≤ 9223372036854775807) (hid : ∀ p ∈ S.nm, p.2 ∈ S.ids) (hsz : s.size ≤ maxLen) (hn : S.nm.length ≤ 1000000000) (hc : S.ch.length ≤ 1000000000) :
    Calls Tryz.prog 29 #[.pointer (some ⟨g, 0, none⟩), .string s] w fun e w' => e = .returned (.int .i64 (Dk.synE S s.data.toList)) ∧ DPost B g S M w (Dk.rem S s.data.toList) w' := by
  have H0 : Hid (∀ W, Below w.heap.size w W → DM B W g S M) := fun W hW => h.kept hW
  have HB : Hid (B ≤ w.heap.size) := hB
  have cF := dkfind_any B g S M s w h hs
  have HCT : Hid (∀ W, Below w.heap.size w W → Calls Tryz.prog 40 #[.pointer (some ⟨g, 0, none⟩)] W fun e w' => e = .returned (.int .i64 (Dk.cnt S).1) ∧ DM B w' g (Dk.cnt S).2 M ∧ IFr W w' (· = g)) := fun W hW => dkcount_any B g S M W (H0.out W hW) hl
  clear h hB hl
  rcases Dk.find_cases S s.data.toList with ⟨f, hE, hg⟩ | ⟨ae, hne, hE⟩
  · have HFE : Hid (Dk.findE S s.data.toList = (0, some f)) := hE
    have HFI : Hid (f ∈ S.ids) := hid _ (Dk.get_mem hg)
    rw [hE] at cF
    dsimp only [fpo, fp] at cF
    clear hE hg hid hs
    have HSZ : Hid (s.size ≤ maxLen) := hsz
    have HNC : Hid (S.nm.length ≤ 1000000000 ∧ S.ch.length ≤ 1000000000) := ⟨hn, hc⟩
    clear hsz hn hc
    go_enter Tryz.func29, Tryz.ntmps29
    go_wp2_with fail
    refine cF.mono ?_
    rintro e W1 ⟨rfl, b1⟩
    have HB1 : Hid (Below w.heap.size w W1) := b1
    clear b1
    go_wp2_with fail
    refine (HCT.out W1 HB1.out).mono ?_
    rintro e W2 ⟨rfl, d2, f2⟩
    have HD2 : Hid (DM B W2 g (Dk.cnt S).2 M ∧ IFr w W2 (Ft g S M)) := ⟨d2, (IFr.kept HB1.out).trans f2 fun _ _ e => .inl e⟩
    clear d2 f2
    have HFC : Hid (f ∈ (Dk.cnt S).2.ids) := by rw [Dk.cnt_ids]; exact HFI.out
    by_cases hc0 : (Dk.cnt S).1 = 0
    · have HC0 : Hid ((Dk.cnt S).1 = 0) := hc0
      rw [hc0]
      clear hc0
      have HCH : Hid (Calls Tryz.prog 41 #[.pointer (some ⟨g, 0, none⟩), .agg #[.string s, .string ⟨#[]⟩, .pointer none]] W2 fun e w' => e = .returned (.tuple #[]) ∧ DPost B g S M w (Dk.rem S s.data.toList) w') := by
        refine (dkchange_any B g _ _ s ⟨#[]⟩ none _ HD2.out.1 (Nat.le_trans HB.out HD2.out.2.size) HSZ.out (show (⟨#[]⟩ : ByteArray).size ≤ maxLen from Nat.zero_le _) (fun e => absurd rfl e) (by rw [Dk.cnt_nm]; exact HNC.out.1) (by rw [Dk.cnt_ch]; exact HNC.out.2)).mono ?_
        rintro e w' ⟨rfl, vc', k1, k2, k3⟩
        refine ⟨rfl, ?_⟩
        have e9 : Dk.rem S s.data.toList = { (Dk.cnt S).2 with nm := Dk.Ch.app ⟨s.data.toList, [], none⟩ (Dk.cnt S).2.nm, ch := (Dk.cnt S).2.ch ++ [⟨s.data.toList, [], none⟩] } := by
          unfold Dk.rem
          rw [HFE.out, if_pos rfl, if_pos HC0.out]
        rw [e9]
        exact DPost.trans (S' := (Dk.cnt S).2) (M' := M) HD2.out.2 (fun q hq => .inl (ft_cnt hq)) ⟨_, k1, k2, k3⟩
      go_wp2_with fail
      refine HCH.out.mono ?_
      rintro e w' ⟨rfl, hpost⟩
      have HPO : Hid (DPost B g S M w (Dk.rem S s.data.toList) w') := hpost
      have HE : Hid (Dk.synE S s.data.toList = 0) := by
        show Dk.synE _ _ = 0
        unfold Dk.synE
        rw [HFE.out, if_pos rfl]
        exact HC0.out
      clear hpost
      go_wp2_with fail
      go_returns
      rw [HE.out]
      exact ⟨rfl, HPO.out⟩
    · obtain ⟨ce, hce⟩ : ∃ ce, ce = (Dk.cnt S).1 := ⟨_, rfl⟩
      have HE : Hid (Dk.synE S s.data.toList = ce ∧ Dk.rem S s.data.toList = (Dk.cnt S).2) := by
        refine ⟨?_, ?_⟩
        · unfold Dk.synE
          rw [HFE.out, if_pos rfl, hce]
        · unfold Dk.rem
          rw [HFE.out, if_pos rfl, if_neg hc0]
      rw [← hce] at hc0 ⊢
      have hd : (ce != 0) = true := by simp only [bne_iff_ne, ne_eq]; exact hc0
      clear hc0 hce
      go_wp2_with fail
      go_returns
      refine ⟨?_, ?_⟩
      · rw [HE.out.1]
        rfl
      · rw [HE.out.2]
        exact DPost.cnt HD2.out.2 HD2.out.1
  · have HE : Hid (Dk.synE S s.data.toList = ae ∧ Dk.rem S s.data.toList = S) := by
      refine ⟨?_, ?_⟩
      · unfold Dk.synE
        rw [hE, if_neg hne]
      · unfold Dk.rem
        rw [hE, if_neg hne]
    rw [hE] at cF
    dsimp only [fpo] at cF
    have hd : (ae != 0) = true := by simp only [bne_iff_ne, ne_eq]; exact hne
    clear hE hne hid hs HCT hsz hn hc
    go_enter Tryz.func29, Tryz.ntmps29
    go_wp2_with fail
    refine cF.mono ?_
    rintro e W1 ⟨rfl, b1⟩
    have HB1 : Hid (Below w.heap.size w W1) := b1
    clear b1
    go_wp2_with fail
    go_returns
    refine ⟨?_, ?_⟩
    · rw [HE.out.1]
      rfl
    · rw [HE.out.2]
      exact DPost.same (H0.out w (Below.refl _ _)) HB1.out
theorem strs2 (w : World) (s t : ByteArray) (ty : TypeId) : StrS (w.alloc (.cells #[.string s, .string t] ty)) (.slice (some ⟨w.heap.size, 0, none⟩) 2 2) [s, t] := ⟨_, 2, rfl, Nat.le_refl _, by unfold maxLen; omega, fun _ => ⟨w.heap.size, 0, rfl, fun j hj => by
  have L := lb_new w [.string s, .string t] ty
  have hj2 : j < 2 := by simpa using hj
  rcases (show j = 0 ∨ j = 1 by omega) with rfl | rfl
  · exact L.cell 0 _ rfl
  · exact L.cell 1 _ rfl⟩⟩
end Go.Proofs.YtppabcihbpbfpaaGreatDoor
