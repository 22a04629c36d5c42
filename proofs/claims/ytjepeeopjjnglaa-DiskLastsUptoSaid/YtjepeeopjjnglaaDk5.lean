/-
  Package disk: what a call leaves of a disk; a map is made; a file is made; Create.
-/
import Derived.Test.YtjepeeopjjnglaaDk4
namespace Go.Proofs.Ytjepeeopjjnglaa
open Go Go.RowKit Go.ChangeShapes
open Wb

/-- what a call leaves -/
def DPost (B g : Nat) (S : Dk.DS) (M : Mm) (w : World) (S' : Dk.DS) (w' : World) : Prop := ∃ M', DM B w' g S' M' ∧ IFr w w' (Ft g S M) ∧ ∀ q, Ft g S' M' q → Ft g S M q ∨ w.heap.size ≤ q
section
variable {B : Nat} {w w' w2 : World} {g : Nat} {S S' S2 : Dk.DS} {M : Mm}
theorem DPost.same (h : DM B w g S M) (hb : Below w.heap.size w w') : DPost B g S M w S w' := ⟨M, h.kept hb, IFr.kept hb, fun _ hq => .inl hq⟩
theorem DPost.of (h : DM B w' g S' M) (hf : IFr w w' (· = g)) (he : ∀ q, Ft g S' M q → Ft g S M q) : DPost B g S M w S' w' := ⟨M, h, hf.mono fun _ e => .inl e, fun q hq => .inl (he q hq)⟩
theorem DPost.trans {M' : Mm} (h1 : IFr w w' (Ft g S M)) (h2 : ∀ q, Ft g S' M' q → Ft g S M q ∨ w.heap.size ≤ q) (h : DPost B g S' M' w' S2 w2) : DPost B g S M w S2 w2 := by
  obtain ⟨M2, k1, k2, k3⟩ := h
  refine ⟨M2, k1, h1.trans k2 fun k hk e => (h2 k e).resolve_right (by omega), fun q hq => ?_⟩
  rcases k3 q hq with e | e
  · exact h2 q e
  · exact .inr (Nat.le_trans h1.size e)
/-- a map for the names -/
theorem DM.mkmap (h : DM B w g S M) (hB : B ≤ w.heap.size) (hm : M.mn = none) : DM B ((w.alloc (.map #[] 0)).setCell ⟨g, 2, none⟩ (.map (some w.heap.size))) g S { M with mn := some w.heap.size } ∧ IFr w ((w.alloc (.map #[] 0)).setCell ⟨g, 2, none⟩ (.map (some w.heap.size))) (Ft g S M) ∧ ∀ q, Ft g S { M with mn := some w.heap.size } q → Ft g S M q ∨ w.heap.size ≤ q := by
  have b1 := up0 w (.map #[] 0)
  have h1 := h.kept b1
  have far : ∀ q, q ≠ g → ((w.alloc (.map #[] 0)).setCell ⟨g, 2, none⟩ (.map (some w.heap.size))).heap[q]? = (w.alloc (.map #[] 0)).heap[q]? := fun q hq => set_other _ _ _ _ hq
  have hnm : S.nm = [] := by
    rcases h.nm.2 with ⟨-, e⟩ | ⟨b, e, -⟩
    · exact e
    · rw [hm] at e
      cases e
  have hgl := h.box.lt
  obtain ⟨k1, k2, k3⟩ := h1.rest (w' := (w.alloc (.map #[] 0)).setCell ⟨g, 2, none⟩ (.map (some w.heap.size))) fun q _ h0 _ _ => far q h0
  have own : MpA ((w.alloc (.map #[] 0)).setCell ⟨g, 2, none⟩ (.map (some w.heap.size))) (some w.heap.size) S.nm := by
    rw [hnm]
    refine MpA.blk (w := w.alloc (.map #[] 0)) (MpA.own List.Pairwise.nil (World.ownsMap_made w _ _ _)) fun b e => far b ?_
    have := Option.some.inj e
    omega
  refine ⟨⟨h1.box.set 2 _, own, k1, Mg.row_block h1.ch fun q e => far q (h1.vne e).1, k2, k3, h.ap, fun b e e2 => ?_, h.gB, fun b e => ?_, h.fB⟩, ⟨rfl, rfl, rfl, by simp only [World.setCell, Array.size_modify]; exact b1.size, fun k hk hn => (far k fun e => hn (.inl e)).trans (b1.block k hk)⟩, fun q hq => ?_⟩
  · have e3 := Option.some.inj e
    have := h.la.lt b e2
    omega
  · rcases e with e | e
    · have e3 := Option.some.inj e
      omega
    · exact h.mB b (.inr e)
  · rcases hq with e | e | e | e | e
    · exact .inl (.inl e)
    · have e3 := Option.some.inj e
      exact .inr (by omega)
    · exact .inl (.inr (.inr (.inl e)))
    · exact .inl (.inr (.inr (.inr (.inl e))))
    · exact .inl (.inr (.inr (.inr (.inr e))))
end
namespace Dk
/-- a file with other contents -/
def upd (fo : Nat → Fl) (f : Nat) (x : Fl) : Nat → Fl := fun k => if k = f then x else fo k
/-- a file is made -/
def mk (S : DS) (f : Nat) : DS := { S with ids := S.ids ++ [f], fo := upd S.fo f ⟨[], 0⟩ }
/-- what Create is refused for -/
def crtE (S : DS) (s : List UInt8) : Int := if askE S [s] = 0 then (if (get S.nm s).isSome = true then 62 else (cnt S).1) else askE S [s]
/-- the disk behind Create -/
def crt (S : DS) (s : List UInt8) (f : Nat) : DS := if askE S [s] = 0 ∧ (get S.nm s).isSome = false then (if (cnt S).1 = 0 then { mk (cnt S).2 f with nm := Ch.app ⟨[], s, some f⟩ S.nm, ch := S.ch ++ [⟨[], s, some f⟩] } else (cnt S).2) else S
end Dk
section
variable {B : Nat} {w w' : World} {g : Nat} {S : Dk.DS} {M : Mm}
/-- a file is made -/
theorem DM.mkfile (h : DM B w g S M) (hB : B ≤ w.heap.size) : DM B (w.alloc (.cells #[.slice none 0 0, .int .i64 0] 84)) g (Dk.mk S w.heap.size) { M with dv := fun k => if k = w.heap.size then .slice none 0 0 else M.dv k } ∧ ∀ q, Ft g (Dk.mk S w.heap.size) { M with dv := fun k => if k = w.heap.size then .slice none 0 0 else M.dv k } q → Ft g S M q ∨ w.heap.size ≤ q := by
  have b1 := up0 w (.cells #[.slice none 0 0, .int .i64 0] 84)
  have h1 := h.kept b1
  have L := lb_new w [.slice none 0 0, .int .i64 0] 84
  have old : ∀ f ∈ S.ids, f ≠ w.heap.size := fun f hf e => by
    have := (h.fb f hf).lt
    omega
  have mem : ∀ f, f ∈ (Dk.mk S w.heap.size).ids → f = w.heap.size ∨ f ∈ S.ids := fun f hf => by
    rcases List.mem_append.1 hf with e | e
    · exact .inr e
    · exact .inl (List.mem_singleton.1 e)
  refine ⟨⟨h1.box, h1.nm, h1.la, h1.ch, fun f hf => ?_, fun f hf => ?_, fun f hf f' hf' hne q e e2 => ?_, h.ne, h.gB, h.mB, fun f hf => ?_⟩, fun q hq => ?_⟩
  · rcases mem f hf with rfl | e
    · simp only [Dk.mk, Dk.upd, if_pos]
      exact L
    · simp only [Dk.mk, Dk.upd, if_neg (old f e)]
      exact h1.fb f e
  · rcases mem f hf with rfl | e
    · simp only [Dk.mk, Dk.upd, if_pos]
      exact Own.nil _ _
    · simp only [Dk.mk, Dk.upd, if_neg (old f e)]
      exact h1.fd f e
  · simp only at e e2
    rcases mem f hf with rfl | h3
    · rw [if_pos rfl] at e
      cases e
    · rw [if_neg (old f h3)] at e
      rcases mem f' hf' with rfl | h4
      · rw [if_pos rfl] at e2
        cases e2
      · rw [if_neg (old f' h4)] at e2
        exact h.ap f h3 f' h4 hne q e e2
  · rcases mem f hf with rfl | e
    · exact hB
    · exact h.fB f e
  · rcases hq with e | e | e | e | ⟨f, hf, e⟩
    · exact .inl (.inl e)
    · exact .inl (.inr (.inl e))
    · exact .inl (.inr (.inr (.inl e)))
    · exact .inl (.inr (.inr (.inr (.inl e))))
    · rcases mem f hf with rfl | h3
      · rcases e with e | e
        · exact .inr (by omega)
        · simp only [if_pos] at e
          cases e
      · rcases e with e | e
        · exact .inl (.inr (.inr (.inr (.inr ⟨f, h3, .inl e⟩))))
        · simp only [if_neg (old f h3)] at e
          exact .inl (.inr (.inr (.inr (.inr ⟨f, h3, .inr e⟩))))
end
set_option maxRecDepth 100000 in
theorem map_eql_some (b : Nat) (W : World) : Sem.run Try.prog (binOp BinOp.eql 79 (Value.map (some b)) (Value.map none)) W = .ok (.bool false) W := rfl
set_option maxRecDepth 100000 in
theorem map_eql_none (W : World) : Sem.run Try.prog (binOp BinOp.eql 79 (Value.map none) (Value.map none)) W = .ok (.bool true) W := rfl
set_option maxRecDepth 100000 in
theorem run_mkmap (W : World) : Sem.run Try.prog (Instr.makeMap 79 none) W = .ok (.map (some W.heap.size)) (W.alloc (.map #[] 0)) := rfl
namespace Dk
theorem cnt_nm (S : DS) : (cnt S).2.nm = S.nm := by
  unfold cnt
  split
  · rfl
  · split <;> rfl
theorem cnt_ch (S : DS) : (cnt S).2.ch = S.ch := by
  unfold cnt
  split
  · rfl
  · split <;> rfl
theorem cnt_ids (S : DS) : (cnt S).2.ids = S.ids := by
  unfold cnt
  split
  · rfl
  · split <;> rfl
theorem cnt_fo (S : DS) : (cnt S).2.fo = S.fo := by
  unfold cnt
  split
  · rfl
  · split <;> rfl
end Dk
theorem ft_cnt {g : Nat} {S : Dk.DS} {M : Mm} {q : Nat} (h : Ft g (Dk.cnt S).2 M q) : Ft g S M q := by
  unfold Ft at h
  rw [Dk.cnt_ids] at h
  exact h
attribute [local go_sem] map_eql_some map_eql_none run_mkmap
set_option maxRecDepth 100000 in
set_option maxHeartbeats 8000000 in
theorem dkcreate_any (B g : Nat) (S : Dk.DS) (M : Mm) (s : ByteArray) (w : World) (h : DM B w g S M) (hB : B ≤ w.heap.size) (hs : s.size ≤ maxLen) (hl : S.armed = true → 0 ≤ S.left ∧ S.left ≤ 9223372036854775807) (hn : S.nm.length ≤ 1000000000) (hc : S.ch.length ≤ 1000000000) :
    Calls Try.prog 30 #[.pointer (some ⟨g, 0, none⟩), .string s] w fun e w' => ∃ f, w.heap.size ≤ f ∧ e = .returned (.int .i64 (Dk.crtE S s.data.toList)) ∧ DPost B g S M w (Dk.crt S s.data.toList f) w' := by
  have H0 : Hid (∀ W, Below w.heap.size w W → DM B W g S M) := fun W hW => h.kept hW
  have HS : Hid (s.size ≤ maxLen) := hs
  have HNC : Hid (S.nm.length ≤ 1000000000 ∧ S.ch.length ≤ 1000000000) := ⟨hn, hc⟩
  have HB : Hid (B ≤ w.heap.size) := hB
  have cA : ∀ W, W = w.alloc (.cells #[.string s] 9) → Calls Try.prog 52 #[.pointer (some ⟨g, 0, none⟩), .slice (some ⟨w.heap.size, 0, none⟩) 1 1] W fun e w' => e = .returned (.int .i64 (Dk.askE S [s.data.toList])) ∧ w' = W := fun W e => by
    subst e
    exact dkask_any B g S M _ [s] _ (H0.out _ (up0 _ _)) (strs1 w s _) (by simp)
  have HX : Hid (∀ W, W = w.alloc (.cells #[.string s] 9) → W.cell? ⟨g, 2, none⟩ = some (.map M.mn) ∧ (Instr.lookup 79 (.map M.mn) (.string s) false).run Try.prog W = .ok (fpo (Dk.get S.nm s.data.toList)) W) := fun W e => by
    subst e
    have h9 := H0.out _ (up0 w (.cells #[.string s] 9))
    exact ⟨h9.box.cell 2 _ rfl, h9.nm.look s hs⟩
  have HCT : Hid (∀ W, Below w.heap.size w W → Calls Try.prog 53 #[.pointer (some ⟨g, 0, none⟩)] W fun e w' => e = .returned (.int .i64 (Dk.cnt S).1) ∧ DM B w' g (Dk.cnt S).2 M ∧ IFr W w' (· = g)) := fun W hW => dkcount_any B g S M W (H0.out W hW) hl
  clear h hs hB hn hc hl
  by_cases ha : Dk.askE S [s.data.toList] = 0
  · rw [ha] at cA
    have HA : Hid (Dk.askE S [s.data.toList] = 0) := ha
    cases hg : Dk.get S.nm s.data.toList with
    | some f =>
      have HE : Hid (Dk.crtE S s.data.toList = 62 ∧ ∀ f, Dk.crt S s.data.toList f = S) := by
        refine ⟨?_, fun f => ?_⟩
        · unfold Dk.crtE
          rw [if_pos ha, hg]
          rfl
        · unfold Dk.crt
          rw [if_neg (by rw [hg]; simp)]
      rw [hg] at HX
      clear ha hg HCT
      go_enter Try.func30, Try.ntmps30
      go_wp2_with fail
      obtain ⟨W, hW⟩ : ∃ W, W = w.alloc (.cells #[.string s] 9) := ⟨_, rfl⟩
      rw [← hW]
      refine (cA W hW).mono ?_
      rintro e w' ⟨rfl, rfl⟩
      have hb : Hid (Below w.heap.size w w') := by rw [hW]; exact up0 _ _
      obtain ⟨y2, yl⟩ := HX.out w' hW
      unfold fpo fp at yl
      clear hW
      go_wp2_with fail
      go_returns
      refine ⟨w.heap.size, Nat.le_refl _, ?_, ?_⟩
      · rw [HE.out.1]
        rfl
      · rw [HE.out.2]
        exact DPost.same (H0.out w (Below.refl _ _)) hb.out
    | none =>
      have HG : Hid (Dk.get S.nm s.data.toList = none) := hg
      rw [hg] at HX
      clear ha hg
      go_enter Try.func30, Try.ntmps30
      go_wp2_with fail
      obtain ⟨W, hW⟩ : ∃ W, W = w.alloc (.cells #[.string s] 9) := ⟨_, rfl⟩
      rw [← hW]
      refine (cA W hW).mono ?_
      rintro e w' ⟨rfl, rfl⟩
      have hb : Hid (Below w.heap.size w w') := by rw [hW]; exact up0 _ _
      obtain ⟨y2, yl⟩ := HX.out w' hW
      unfold fpo at yl
      clear hW cA HX
      go_wp2_with fail
      refine (HCT.out w' hb.out).mono ?_
      rintro e W2 ⟨rfl, d2, f2⟩
      have HD2 : Hid (DM B W2 g (Dk.cnt S).2 M ∧ IFr w W2 (Ft g S M)) := ⟨d2, (IFr.kept hb.out).trans f2 fun _ _ e => .inl e⟩
      clear d2 f2 y2 yl
      by_cases hc0 : (Dk.cnt S).1 = 0
      · have HC0 : Hid ((Dk.cnt S).1 = 0) := hc0
        rw [hc0]
        clear hc0
        have z2 := HD2.out.1.box.cell 2 _ rfl
        have HMB2 : Hid (B ≤ W2.heap.size) := Nat.le_trans HB.out HD2.out.2.size
        cases hm : M.mn with
        | some b =>
          rw [hm] at z2
          have HM : Hid (DM B W2 g (Dk.cnt S).2 { M with mn := some b }) := by rw [← hm]; exact HD2.out.1
          have HF3 : Hid (IFr w W2 (Ft g S M) ∧ ∀ q, Ft g (Dk.cnt S).2 { M with mn := some b } q → Ft g S M q ∨ w.heap.size ≤ q) := ⟨HD2.out.2, fun q hq => .inl (by rw [← hm] at hq; exact ft_cnt hq)⟩
          have HMB := HMB2
          clear hm
          obtain ⟨f, hf⟩ : ∃ f, f = W2.heap.size := ⟨_, rfl⟩
          have kf := (HM.out.mkfile HMB.out).1
          have kg := (HM.out.mkfile HMB.out).2
          rw [← hf] at kf kg
          have HCH : Hid (∀ W, W = W2.alloc (.cells #[.slice none 0 0, .int .i64 0] 84) → Calls Try.prog 54 #[.pointer (some ⟨g, 0, none⟩), .agg #[.string ⟨#[]⟩, .string s, .pointer (some ⟨f, 0, none⟩)]] W fun e w' => e = .returned (.tuple #[]) ∧ DPost B g S M w (Dk.crt S s.data.toList f) w') := fun W e => by
            subst e
            have bf := up0 W2 (.cells #[.slice none 0 0, .int .i64 0] 84)
            refine (dkchange_any B g _ _ ⟨#[]⟩ s (some f) _ kf (Nat.le_trans HMB.out bf.size) (show (⟨#[]⟩ : ByteArray).size ≤ maxLen from Nat.zero_le _) HS.out (fun _ => ⟨⟨_, rfl⟩, ⟨f, rfl⟩⟩) (by show (Dk.cnt S).2.nm.length ≤ _; rw [Dk.cnt_nm]; exact HNC.out.1) (by show (Dk.cnt S).2.ch.length ≤ _; rw [Dk.cnt_ch]; exact HNC.out.2)).mono ?_
            rintro e w' ⟨rfl, vc', k1, k2, k3⟩
            refine ⟨rfl, ?_⟩
            have e9 : Dk.crt S s.data.toList f = { Dk.mk (Dk.cnt S).2 f with nm := Dk.Ch.app ⟨[], s.data.toList, some f⟩ (Dk.cnt S).2.nm, ch := (Dk.cnt S).2.ch ++ [⟨[], s.data.toList, some f⟩] } := by
              unfold Dk.crt
              rw [if_pos ⟨HA.out, by rw [HG.out]; rfl⟩, if_pos HC0.out, Dk.cnt_nm, Dk.cnt_ch]
            rw [e9]
            exact DPost.trans (S' := Dk.mk (Dk.cnt S).2 f) (w' := W2.alloc (.cells #[.slice none 0 0, .int .i64 0] 84)) (HF3.out.1.trans (IFr.kept (F := Ft g S M) bf) fun _ _ e => e) (fun q hq => by
              rcases kg q hq with e | e
              · exact HF3.out.2 q e
              · exact .inr (Nat.le_trans HF3.out.1.size (by omega))) ⟨_, k1, k2, k3⟩
          have HFL : Hid (w.heap.size ≤ f) := by rw [hf]; exact HF3.out.1.size
          clear kf kg
          go_wp2_with fail
          rw [← hf]
          refine (HCH.out _ rfl).mono ?_
          rintro e w' ⟨rfl, hpost⟩
          have HPO : Hid (DPost B g S M w (Dk.crt S s.data.toList f) w') := hpost
          have HE : Hid (Dk.crtE S s.data.toList = 0) := by
            show Dk.crtE _ _ = 0
            unfold Dk.crtE
            rw [if_pos HA.out, HG.out]
            exact HC0.out
          clear hpost hf
          go_wp2_with fail
          go_returns
          rw [HE.out]
          exact ⟨f, HFL.out, rfl, HPO.out⟩
        | none =>
          rw [hm] at z2
          have f2 := HD2.out.1.box.free 2
          have k9 := HD2.out.1.mkmap HMB2.out hm
          have b9 := up0 W2 (.map #[] 0)
          have x9 := (HD2.out.1.box.kept b9).cell 2 _ rfl
          have f9 := (HD2.out.1.box.kept b9).free 2
          rw [hm] at x9
          have HK9 : Hid (DM B ((W2.alloc (.map #[] 0)).setCell ⟨g, 2, none⟩ (.map (some W2.heap.size))) g (Dk.cnt S).2 { M with mn := some W2.heap.size } ∧ IFr W2 ((W2.alloc (.map #[] 0)).setCell ⟨g, 2, none⟩ (.map (some W2.heap.size))) (Ft g (Dk.cnt S).2 M) ∧ ∀ q, Ft g (Dk.cnt S).2 { M with mn := some W2.heap.size } q → Ft g (Dk.cnt S).2 M q ∨ W2.heap.size ≤ q) := k9
          clear hm k9 b9
          go_upto_region 11 with fail
          obtain ⟨W3, hW3⟩ : ∃ W, W = (W2.alloc (.map #[] 0)).setCell ⟨g, 2, none⟩ (.map (some W2.heap.size)) := ⟨_, rfl⟩
          rw [← hW3] at HK9 ⊢
          have HM : Hid (DM B W3 g (Dk.cnt S).2 { M with mn := some W2.heap.size }) := HK9.out.1
          have HF3 : Hid (IFr w W3 (Ft g S M) ∧ ∀ q, Ft g (Dk.cnt S).2 { M with mn := some W2.heap.size } q → Ft g S M q ∨ w.heap.size ≤ q) := ⟨HD2.out.2.trans HK9.out.2.1 fun _ _ e => ft_cnt e, fun q hq => by
            rcases HK9.out.2.2 q hq with e | e
            · exact .inl (ft_cnt e)
            · exact .inr (Nat.le_trans HD2.out.2.size e)⟩
          have HMB : Hid (B ≤ W3.heap.size) := Nat.le_trans HB.out HF3.out.1.size
          clear hW3 z2 f2 x9 f9
          obtain ⟨f, hf⟩ : ∃ f, f = W3.heap.size := ⟨_, rfl⟩
          have kf := (HM.out.mkfile HMB.out).1
          have kg := (HM.out.mkfile HMB.out).2
          rw [← hf] at kf kg
          have HCH : Hid (∀ W, W = W3.alloc (.cells #[.slice none 0 0, .int .i64 0] 84) → Calls Try.prog 54 #[.pointer (some ⟨g, 0, none⟩), .agg #[.string ⟨#[]⟩, .string s, .pointer (some ⟨f, 0, none⟩)]] W fun e w' => e = .returned (.tuple #[]) ∧ DPost B g S M w (Dk.crt S s.data.toList f) w') := fun W e => by
            subst e
            have bf := up0 W3 (.cells #[.slice none 0 0, .int .i64 0] 84)
            refine (dkchange_any B g _ _ ⟨#[]⟩ s (some f) _ kf (Nat.le_trans HMB.out bf.size) (show (⟨#[]⟩ : ByteArray).size ≤ maxLen from Nat.zero_le _) HS.out (fun _ => ⟨⟨_, rfl⟩, ⟨f, rfl⟩⟩) (by show (Dk.cnt S).2.nm.length ≤ _; rw [Dk.cnt_nm]; exact HNC.out.1) (by show (Dk.cnt S).2.ch.length ≤ _; rw [Dk.cnt_ch]; exact HNC.out.2)).mono ?_
            rintro e w' ⟨rfl, vc', k1, k2, k3⟩
            refine ⟨rfl, ?_⟩
            have e9 : Dk.crt S s.data.toList f = { Dk.mk (Dk.cnt S).2 f with nm := Dk.Ch.app ⟨[], s.data.toList, some f⟩ (Dk.cnt S).2.nm, ch := (Dk.cnt S).2.ch ++ [⟨[], s.data.toList, some f⟩] } := by
              unfold Dk.crt
              rw [if_pos ⟨HA.out, by rw [HG.out]; rfl⟩, if_pos HC0.out, Dk.cnt_nm, Dk.cnt_ch]
            rw [e9]
            exact DPost.trans (S' := Dk.mk (Dk.cnt S).2 f) (w' := W3.alloc (.cells #[.slice none 0 0, .int .i64 0] 84)) (HF3.out.1.trans (IFr.kept (F := Ft g S M) bf) fun _ _ e => e) (fun q hq => by
              rcases kg q hq with e | e
              · exact HF3.out.2 q e
              · exact .inr (Nat.le_trans HF3.out.1.size (by omega))) ⟨_, k1, k2, k3⟩
          have HFL : Hid (w.heap.size ≤ f) := by rw [hf]; exact HF3.out.1.size
          clear kf kg
          go_wp2_with fail
          rw [← hf]
          refine (HCH.out _ rfl).mono ?_
          rintro e w' ⟨rfl, hpost⟩
          have HPO : Hid (DPost B g S M w (Dk.crt S s.data.toList f) w') := hpost
          have HE : Hid (Dk.crtE S s.data.toList = 0) := by
            show Dk.crtE _ _ = 0
            unfold Dk.crtE
            rw [if_pos HA.out, HG.out]
            exact HC0.out
          clear hpost hf
          go_wp2_with fail
          go_returns
          rw [HE.out]
          exact ⟨f, HFL.out, rfl, HPO.out⟩
      · obtain ⟨ce, hce⟩ : ∃ ce, ce = (Dk.cnt S).1 := ⟨_, rfl⟩
        have HE : Hid (Dk.crtE S s.data.toList = ce ∧ ∀ f, Dk.crt S s.data.toList f = (Dk.cnt S).2) := by
          refine ⟨?_, fun f => ?_⟩
          · unfold Dk.crtE
            rw [if_pos HA.out, HG.out, hce]
            rfl
          · unfold Dk.crt
            rw [if_pos ⟨HA.out, by rw [HG.out]; rfl⟩, if_neg hc0]
        rw [← hce] at hc0 ⊢
        have hd : (ce != 0) = true := by simp only [bne_iff_ne, ne_eq]; exact hc0
        clear hc0 hce
        go_wp2_with fail
        go_returns
        refine ⟨w.heap.size, Nat.le_refl _, ?_, ?_⟩
        · rw [HE.out.1]
          rfl
        · rw [HE.out.2]
          exact ⟨M, HD2.out.1, HD2.out.2, fun q hq => .inl (ft_cnt hq)⟩
  · obtain ⟨ae, hae⟩ : ∃ ae, ae = Dk.askE S [s.data.toList] := ⟨_, rfl⟩
    have HE : Hid (Dk.crtE S s.data.toList = ae ∧ ∀ f, Dk.crt S s.data.toList f = S) := by
      refine ⟨?_, fun f => ?_⟩
      · unfold Dk.crtE
        rw [if_neg ha, hae]
      · unfold Dk.crt
        rw [if_neg (fun e => ha e.1)]
    rw [← hae] at cA ha
    have hd : (ae != 0) = true := by simp only [bne_iff_ne, ne_eq]; exact ha
    clear hae ha HX HCT
    go_enter Try.func30, Try.ntmps30
    go_wp2_with fail
    obtain ⟨W, hW⟩ : ∃ W, W = w.alloc (.cells #[.string s] 9) := ⟨_, rfl⟩
    rw [← hW]
    refine (cA W hW).mono ?_
    rintro e w' ⟨rfl, rfl⟩
    have hb : Hid (Below w.heap.size w w') := by rw [hW]; exact up0 _ _
    clear hW
    go_wp2_with fail
    go_returns
    refine ⟨w.heap.size, Nat.le_refl _, ?_, ?_⟩
    · rw [HE.out.1]
      rfl
    · rw [HE.out.2]
      exact DPost.same (H0.out w (Below.refl _ _)) hb.out
end Go.Proofs.Ytjepeeopjjnglaa
