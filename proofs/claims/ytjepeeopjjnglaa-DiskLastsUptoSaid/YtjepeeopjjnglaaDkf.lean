/-
  Package disk: the names that a crash leaves.
-/
import Derived.Test.YtjepeeopjjnglaaDke
namespace Go.Proofs.Ytjepeeopjjnglaa
open Go Go.RowKit Go.ChangeShapes Go.Maps Go.Sort Go.Shelf
open Wb
attribute [local go_sem] run_mkmap

namespace Dk
theorem bb_asym {a b : List UInt8} (h : bytesBefore a b = true) : bytesBefore b a = false := by
  cases h2 : bytesBefore b a with
  | false => rfl
  | true =>
    have h3 := bb_trans _ _ _ h h2
    rw [bb_irrefl] at h3
    cases h3
theorem ins_last (x : List UInt8 × Nat) : ∀ l : Nm, (∀ p ∈ l, bytesBefore p.1 x.1 = true) → ins x l = l ++ [x]
  | [], _ => rfl
  | y :: r, h => by
    rw [ins, if_neg (by rw [bb_asym (h y (List.mem_cons_self ..))]; simp), ins_last x r fun p hp => h p (List.mem_cons_of_mem _ hp)]
    rfl
theorem put_last (l : Nm) (s : List UInt8) (f : Nat) (h : ∀ p ∈ l, bytesBefore p.1 s = true) : put l s f = l ++ [(s, f)] := by
  have e : del l s = l := by
    unfold del
    rw [List.filter_eq_self]
    intro p hp
    have h9 := h p hp
    have : (p.1 == s) = false := by
      simp only [beq_eq_false_iff_ne, ne_eq]
      intro e
      rw [e, bb_irrefl] at h9
      cases h9
    rw [this]
    rfl
  unfold put
  rw [e]
  exact ins_last (s, f) l h
theorem merge_pre : ∀ (r pre : Nm), rising (pre ++ r) → (r.map en).foldl (fun D p => D.put p.1 p.2) (dm pre) = dm (pre ++ r)
  | [], pre, _ => by simp
  | p :: r, pre, h => by
    rw [List.map_cons, List.foldl_cons]
    have h0 : ∀ y ∈ pre, bytesBefore y.1 p.1 = true := fun y hy => (List.pairwise_append.1 h).2.2 y hy p (List.mem_cons_self ..)
    have e : (dm pre).put (en p).1 (en p).2 = dm (pre ++ [p]) := by
      have h9 := dm_put pre p.1 p.2
      rw [put_last pre p.1 p.2 h0] at h9
      exact h9
    rw [e, merge_pre r (pre ++ [p]) (by rw [List.append_assoc]; exact h), List.append_assoc]
    rfl
theorem merge_dm (l : Nm) (h : rising l) : Lib.mergeD (.map []) (dm l) = dm l := by
  have h9 := merge_pre l [] h
  exact h9
/-- the names that a crash leaves -/
def lvK (S : DS) (keep : Int) : Nat := (wth keep (S.ch.length : Int)).toNat
def lvF (cs : List Ch) (l : Nm) : Nm := cs.foldl (fun l c => c.app l) l
def lvN (S : DS) (keep : Int) : Nm := lvF (S.ch.take (lvK S keep)) S.la
theorem app_len (c : Ch) (l : Nm) : (c.app l).length ≤ l.length + 1 := by
  unfold Ch.app
  split
  · have := len_del l c.frm
    omega
  · have h1 := len_put (del l c.frm) c.tow (c.f.getD 0)
    have h2 := len_del l c.frm
    omega
theorem lvF_len (cs : List Ch) : ∀ l : Nm, (lvF cs l).length ≤ l.length + cs.length := by
  induction cs with
  | nil => exact fun l => Nat.le_refl _
  | cons c r ih =>
    intro l
    have h1 := ih (c.app l)
    have h2 := app_len c l
    show (lvF r (c.app l)).length ≤ _
    rw [List.length_cons]
    omega
theorem lvF_snoc (cs : List Ch) (c : Ch) (l : Nm) : lvF (cs ++ [c]) l = c.app (lvF cs l) := by
  unfold lvF
  rw [List.foldl_append]
  rfl
end Dk
theorem sz_of {l : List UInt8} (h : l.length ≤ 1000) : (⟨l.toArray⟩ : ByteArray).size ≤ maxLen := by
  show l.toArray.size ≤ _
  rw [List.size_toArray]
  unfold maxLen
  omega
theorem flatC_at : ∀ (cs : List Dk.Ch) (j : Nat) (h : j < cs.length), (cs.flatMap enC)[j * 3]? = some (enS cs[j].frm) ∧ (cs.flatMap enC)[j * 3 + 1]? = some (enS cs[j].tow) ∧ (cs.flatMap enC)[j * 3 + 2]? = some (fpo cs[j].f)
  | [], j, h => by simp at h
  | x :: r, 0, _ => by simp [enC]
  | x :: r, j + 1, h => by
    have hj : j < r.length := by simpa using h
    obtain ⟨h1, h2, h3⟩ := flatC_at r j hj
    have hl : (enC x).length = 3 := rfl
    rw [List.flatMap_cons, show (j + 1) * 3 = (enC x).length + j * 3 by rw [hl]; omega, show (enC x).length + j * 3 + 1 = (enC x).length + (j * 3 + 1) by omega, show (enC x).length + j * 3 + 2 = (enC x).length + (j * 3 + 2) by omega, List.getElem?_append_right (by omega), List.getElem?_append_right (by omega), List.getElem?_append_right (by omega), Nat.add_sub_cancel_left, Nat.add_sub_cancel_left, Nat.add_sub_cancel_left]
    simp only [List.getElem_cons_succ]
    exact ⟨h1, h2, h3⟩
theorem st_withinW {ops : Array Oper} {o : Oper} {a : Act} {W : World} {K : Act → World → Prop} {Q : Exit → Act → World → Prop} {E : Prop} (hgd : o.guard = none) (p q : Nat) {ts : Array TypeId} (ho : o.op = .call { callee := .value (.func 62), args := #[.tmp p, .tmp q], argTypes := ts }) {u1 u2 : Value} (hp : a.tmps[p]?.getD undef = u1) (hq : a.tmps[q]?.getD undef = u2) {v : Value} (hC : Calls Try.prog 62 #[u1, u2] W fun e W' => e = .returned v ∧ W' = W) (h : K (a.put o.dst v) W) : if Region.wanted o (yielded ops a.tmps) = true then Oper.wp Try.prog o a W K Q else E := by
  rw [if_pos (by simp [Region.wanted, hgd])]
  obtain ⟨dst, op', ty, pos, after, guard⟩ := o
  simp only at ho hgd
  subst ho hgd
  have HC : Hid (Calls Try.prog 62 #[u1, u2] W fun e W' => e = .returned v ∧ W' = W) := hC
  clear hC
  go_simp
  refine HC.out.mono ?_
  rintro e W' ⟨rfl, rfl⟩
  exact h
theorem dkcopy_any (b : Nat) (m : Option Nat) (l : Dk.Nm) (w : World) (h1 : w.ownsMap Try.prog 9 fpR b 0 (.map [])) (h : MpA w m l) (hne : m ≠ some b) (hl : l.length ≤ 1000000000) :
    Calls Try.prog 61 #[.map (some b), .map m] w fun e w' => e = .returned (.tuple #[]) ∧ MpA w' (some b) l ∧ w.grownBy w' (some b) := by
  rcases h.2 with ⟨rfl, rfl⟩ | ⟨bs, rfl, hs⟩
  · refine (AnyX.maps_Copy_opt laysCopy lawS fpR b 0 none (.map []) .nil w h1 (.inl ⟨rfl, rfl⟩) (by simp) (by simp [Maps.size])).mono ?_
    rintro e w' ⟨rfl, h2, h3⟩
    exact ⟨rfl, MpA.own (l := []) List.Pairwise.nil h2, h3⟩
  · refine (AnyX.maps_Copy_opt laysCopy lawS fpR b 0 (some bs) (.map []) (Dk.dm l) w h1 (.inr ⟨bs, _, rfl, hs⟩) hne (by rw [Dk.dm_size]; unfold maxLen; omega)).mono ?_
    rintro e w' ⟨rfl, h2, h3⟩
    rw [Dk.merge_dm l h.1] at h2
    exact ⟨rfl, MpA.own h.1 h2, h3⟩
set_option maxRecDepth 100000 in
set_option maxHeartbeats 8000000 in
theorem dkleave_any (B g : Nat) (S : Dk.DS) (M : Mm) (keep : Int) (w : World) (h : DM B w g S M) (hch : ∀ c ∈ S.ch, c.frm.length ≤ 1000 ∧ c.tow.length ≤ 1000 ∧ (c.tow ≠ [] → ∃ f, c.f = some f)) (hn : S.la.length ≤ 1000000000 ∧ S.ch.length ≤ 1000000000) :
    Calls Try.prog 48 #[.pointer (some ⟨g, 0, none⟩), .int .i64 keep] w fun e w' => ∃ b, e = .returned (.map (some b)) ∧ MpA w' (some b) (Dk.lvN S keep) ∧ w.heap.size ≤ b ∧ Below w.heap.size w w' := by
  have H0 : Hid (∀ W, Below w.heap.size w W → DM B W g S M) := fun W hW => h.kept hW
  have HCH : Hid ((∀ c ∈ S.ch, c.frm.length ≤ 1000 ∧ c.tow.length ≤ 1000 ∧ (c.tow ≠ [] → ∃ f, c.f = some f)) ∧ S.la.length ≤ 1000000000 ∧ S.ch.length ≤ 1000000000) := ⟨hch, hn⟩
  obtain ⟨va, vp, hvc, hv1, hv2⟩ := Mg.row_shape h.ch
  have HVC : Hid (M.vc = .slice va S.ch.length vp) := hvc
  obtain ⟨kn, hkn⟩ : ∃ kn, kn = Dk.lvK S keep := ⟨_, rfl⟩
  have hkw : Dk.wth keep (S.ch.length : Int) = (kn : Int) ∧ kn ≤ S.ch.length := by
    rw [hkn]
    exact Dk.wth_nat keep _
  have HKN : Hid (kn = Dk.lvK S keep ∧ kn ≤ S.ch.length) := ⟨hkn, hkw.2⟩
  have HCW : Hid (∀ W, Calls Try.prog 62 #[.int .i64 keep, .int .i64 (S.ch.length : Int)] W fun e w' => e = .returned (.int .i64 (kn : Int)) ∧ w' = W) := fun W => by
    have h9 := dkwithin_any keep (S.ch.length : Int) W
    rw [hkw.1] at h9
    exact h9
  have hkc : ((kn : Int) ≤ (vp : Int)) = True := by simp; omega
  have hkl : kn ≤ 1000000000 := by omega
  unfold maxLen at hv2
  clear h hch hvc hkn hkw hn
  have b1 := up0 w (.map #[] 0)
  have x3 := (H0.out _ b1).box.cell 3 _ rfl
  have HCP : Hid (∀ W, W = w.alloc (.map #[] 0) → Calls Try.prog 61 #[.map (some w.heap.size), .map M.ml] W fun e w' => e = .returned (.tuple #[]) ∧ MpA w' (some w.heap.size) S.la ∧ W.grownBy w' (some w.heap.size)) := fun W e => by
    subst e
    exact dkcopy_any _ _ _ _ (World.ownsMap_made w _ _ _) (H0.out _ b1).la (fun e => by have := (H0.out w (Below.refl _ _)).la.lt _ e; omega) HCH.out.2.1
  clear b1
  go_enter Try.func48, Try.ntmps48
  go_wp2_with fail
  obtain ⟨W1, hW1⟩ : ∃ W, W = w.alloc (.map #[] 0) := ⟨_, rfl⟩
  have HB1 : Hid (Below w.heap.size w W1) := by rw [hW1]; exact up0 _ _
  rw [← hW1]
  refine (HCP.out W1 hW1).mono ?_
  rintro e W2 ⟨rfl, m2, g2⟩
  obtain ⟨mb, hmb⟩ : ∃ mb, mb = w.heap.size := ⟨_, rfl⟩
  rw [← hmb] at m2 g2 ⊢
  have H2 : Hid (MpA W2 (some mb) S.la ∧ Below w.heap.size w W2 ∧ w.heap.size ≤ mb) := ⟨m2, HB1.out.grown g2 HB1.out.size fun k e => by have := Option.some.inj e; omega, by omega⟩
  clear m2 g2 hW1 HCP x3 hmb HB1
  go_upto_region 3 with fail
  have b2z := andThen H2.out.2.1 (drew_bel W2)
  have m2z := H2.out.1.kept (drew_bel W2)
  obtain ⟨Wz, hWz⟩ : ∃ W, W = W2.drew := ⟨_, rfl⟩
  rw [← hWz] at b2z m2z
  have HS : Hid (∀ W, Below w.heap.size w W → W.cell? ⟨g, 4, none⟩ = some (.slice va S.ch.length vp)) := fun W hW => by
    have h9 := (H0.out W hW).box.cell 4 _ rfl
    rw [← HVC.out]
    exact h9
  have hS0 := HS.out Wz b2z
  have HZ : Hid (MpA Wz (some mb) S.la ∧ Below w.heap.size w Wz) := ⟨m2z, b2z⟩
  clear b2z m2z
  refine wp_region_held_drew (S := fun W : World => W.cell? ⟨g, 4, none⟩ = some (.slice va S.ch.length vp)) (by kernel_rfl) (by rw [← hWz]; exact hS0) (fun _ => ?_)
  rw [← hWz]
  clear hWz
  refine zqk 0 rfl hS0 ?_
  simp only [Act.put, zq1, zq2, zq3, zq4, zq5]
  refine zqk 1 rfl hS0 ?_
  simp only [Act.put, zq1, zq2, zq3, zq4, zq5, zq6]
  refine zqk 2 rfl hS0 ?_
  simp only [Act.put, zq1, zq2, zq3, zq4, zq5, zq6]
  refine zqk 3 rfl hS0 ?_
  simp only [Act.put, zq1, zq2, zq3, zq4, zq5, zq6]
  refine zqk 4 rfl hS0 ?_
  simp only [Act.put, zq1, zq2, zq3, zq4, zq5, zq6]
  refine zqk 5 rfl hS0 ?_
  simp only [Act.put, zq1, zq2, zq3, zq4, zq5, zq6]
  refine zqk 6 rfl hS0 ?_
  simp only [Act.put, zq1, zq2, zq3, zq4, zq5, zq6]
  refine zqk 7 rfl hS0 ?_
  simp only [Act.put, zq1, zq2, zq3, zq4, zq5, zq6]
  refine zqk 8 rfl hS0 ?_
  simp only [Act.put, zq1, zq2, zq3, zq4, zq5, zq6]
  refine zqk 9 rfl hS0 ?_
  simp only [Act.put, zq1, zq2, zq3, zq4, zq5, zq6]
  refine zqk 13 rfl hS0 ?_
  simp only [Act.put, zq1, zq2, zq3, zq4, zq5, zq6]
  refine zqr 10 rfl (fun K hK => ?_)
  refine st_withinW rfl 19 24 rfl rfl rfl (HCW.out Wz) ?_
  refine hK.out _ _ hS0 fun _ => ?_
  simp only [Act.put, zq1, zq2, zq3, zq4, zq5, zq6]
  clear hK K
  refine zqk 11 rfl hS0 ?_
  simp only [Act.put, zq1, zq2, zq3, zq4, zq5, zq6]
  refine zqk 12 rfl hS0 ?_
  simp only [Act.put, zq1, zq2, zq3, zq4, zq5, zq6]
  refine wpAnyH_done (by kernel_rfl) ?_ _
  clear hS0
  go_wp2_with fail
  go_loopw [28] (fun i wr => ∃ j : Nat, j ≤ kn ∧ i = .int .i64 (j : Int) ∧ MpA wr (some mb) (Dk.lvF (S.ch.take j) S.la) ∧ Below w.heap.size w wr) (fun i _ => kn - (intOf i).toNat)
  case atStart => exact ⟨0, Nat.zero_le _, rfl, HZ.out.1, HZ.out.2⟩
  case round =>
    clear HZ
    obtain ⟨j, hj, rfl, hmp, hbe⟩ := hrel
    have HM : Hid (MpA wr (some mb) (Dk.lvF (S.ch.take j) S.la) ∧ Below w.heap.size w wr) := ⟨hmp, hbe⟩
    clear hmp hbe
    by_cases hlt : j < kn
    · have hjc : j < S.ch.length := by have := HKN.out.2; omega
      obtain ⟨c, hc⟩ : ∃ c, c = S.ch[j] := ⟨_, rfl⟩
      have dW := H0.out wr HM.out.2
      have hrow := dW.ch
      rw [HVC.out] at hrow
      obtain ⟨gv, hgv⟩ : ∃ gv, va = some ⟨gv, 0, none⟩ := by
        rcases hrow.2 with ⟨e, e0⟩ | ⟨gn, c7, cur7, e, -⟩
        · omega
        · simp only [Value.slice.injEq] at e
          exact ⟨gn, e.1⟩
      subst hgv
      obtain ⟨f0, f1, f2⟩ := flatC_at S.ch j hjc
      have y0 := World.ownsRow.cellAt hrow (j * 3) (by omega)
      have y1 := World.ownsRow.cellAt hrow (j * 3 + 1) (by omega)
      have y2 := World.ownsRow.cellAt hrow (j * 3 + 2) (by omega)
      rw [f0, ← hc] at y0
      rw [f1, ← hc] at y1
      rw [f2, ← hc] at y2
      have HC : Hid (c ∈ S.ch ∧ S.ch.take (j + 1) = S.ch.take j ++ [c]) := ⟨by rw [hc]; exact List.getElem_mem hjc, by rw [hc]; exact List.take_succ_eq_append_getElem hjc⟩
      clear hc f0 f1 f2 hrow dW
      obtain ⟨cf, ct, co⟩ := c
      simp only [enS] at y0 y1 y2
      cases co with
      | none =>
        simp only [fpo] at y2
        have HDO : Hid (∀ W, W = wr.alloc (.cells #[.string ⟨cf.toArray⟩, .string ⟨ct.toArray⟩, .pointer none] 96) → Calls Try.prog 63 #[.agg #[.string ⟨cf.toArray⟩, .string ⟨ct.toArray⟩, .pointer none], .map (some mb)] W fun e w' => e = .returned (.tuple #[]) ∧ MpA w' (some mb) (Dk.lvF (S.ch.take (j + 1)) S.la) ∧ Below w.heap.size w w') := fun W e => by
          have bw : Below wr.heap.size wr W := by rw [e]; exact up0 _ _
          have k9 := HCH.out.1 _ HC.out.1
          have ll := Dk.lvF_len (S.ch.take j) S.la
          rw [List.length_take] at ll
          have hd := dkdo_any ⟨cf.toArray⟩ ⟨ct.toArray⟩ none (some mb) _ W (HM.out.1.kept bw) (sz_of k9.1) (sz_of k9.2.1) (fun e9 => ⟨⟨mb, rfl⟩, k9.2.2 (by simpa using e9), by have := HCH.out.2; unfold maxLen; omega⟩)
          refine hd.mono ?_
          rintro e w' ⟨rfl, m9, f9⟩
          refine ⟨rfl, ?_, ?_⟩
          · rw [HC.out.2, Dk.lvF_snoc]
            have e1 : (⟨cf.toArray⟩ : ByteArray).data.toList = cf := by simp
            have e2 : (⟨ct.toArray⟩ : ByteArray).data.toList = ct := by simp
            rw [e1, e2] at m9
            exact m9
          · exact (andThen HM.out.2 bw).trans (f9.below w.heap.size (Nat.le_trans HM.out.2.size bw.size) fun k e => by have h1 := Option.some.inj e; have h2 := H2.out.2.2; omega)
        go_wp2_with fail
        refine (HDO.out _ rfl).mono ?_
        rintro e w5 ⟨rfl, m5, b5⟩
        have H5 : Hid (MpA w5 (some mb) (Dk.lvF (S.ch.take (j + 1)) S.la) ∧ Below w.heap.size w w5) := ⟨m5, b5⟩
        clear m5 b5 HDO y0 y1 y2
        go_wp2_with fail
        go_roundw
        case rel => exact ⟨j + 1, by omega, by go_num, H5.out.1, H5.out.2⟩
        case measure => simp [intOf]; omega
      | some f =>
        simp only [fpo, fp] at y2
        have HDO : Hid (∀ W, W = wr.alloc (.cells #[.string ⟨cf.toArray⟩, .string ⟨ct.toArray⟩, .pointer (some ⟨f, 0, none⟩)] 96) → Calls Try.prog 63 #[.agg #[.string ⟨cf.toArray⟩, .string ⟨ct.toArray⟩, .pointer (some ⟨f, 0, none⟩)], .map (some mb)] W fun e w' => e = .returned (.tuple #[]) ∧ MpA w' (some mb) (Dk.lvF (S.ch.take (j + 1)) S.la) ∧ Below w.heap.size w w') := fun W e => by
          have bw : Below wr.heap.size wr W := by rw [e]; exact up0 _ _
          have k9 := HCH.out.1 _ HC.out.1
          have ll := Dk.lvF_len (S.ch.take j) S.la
          rw [List.length_take] at ll
          have hd := dkdo_any ⟨cf.toArray⟩ ⟨ct.toArray⟩ (some f) (some mb) _ W (HM.out.1.kept bw) (sz_of k9.1) (sz_of k9.2.1) (fun e9 => ⟨⟨mb, rfl⟩, k9.2.2 (by simpa using e9), by have := HCH.out.2; unfold maxLen; omega⟩)
          refine hd.mono ?_
          rintro e w' ⟨rfl, m9, f9⟩
          refine ⟨rfl, ?_, ?_⟩
          · rw [HC.out.2, Dk.lvF_snoc]
            have e1 : (⟨cf.toArray⟩ : ByteArray).data.toList = cf := by simp
            have e2 : (⟨ct.toArray⟩ : ByteArray).data.toList = ct := by simp
            rw [e1, e2] at m9
            exact m9
          · exact (andThen HM.out.2 bw).trans (f9.below w.heap.size (Nat.le_trans HM.out.2.size bw.size) fun k e => by have h1 := Option.some.inj e; have h2 := H2.out.2.2; omega)
        go_wp2_with fail
        refine (HDO.out _ rfl).mono ?_
        rintro e w5 ⟨rfl, m5, b5⟩
        have H5 : Hid (MpA w5 (some mb) (Dk.lvF (S.ch.take (j + 1)) S.la) ∧ Below w.heap.size w w5) := ⟨m5, b5⟩
        clear m5 b5 HDO y0 y1 y2
        go_wp2_with fail
        go_roundw
        case rel => exact ⟨j + 1, by omega, by go_num, H5.out.1, H5.out.2⟩
        case measure => simp [intOf]; omega
    · have HE : Hid (Dk.lvF (S.ch.take j) S.la = Dk.lvN S keep) := by
        have e : j = kn := by omega
        rw [e, HKN.out.1]
        exact rfl
      go_wp2_with fail
      go_returns
      rw [← HE.out]
      exact ⟨_, rfl, HM.out.1, H2.out.2.2, HM.out.2⟩
end Go.Proofs.Ytjepeeopjjnglaa
