import Derived.Shelf.AbstractIn
import Derived.Test.YtdnackjakfiffaaGreatDoorQP2
import Derived.Test.YtdnackjakfiffaaGreatDoorQPS
import Derived.Test.YtdnackjakfiffaaGreatDoorQPL
import Derived.Test.YtdnackjakfiffaaGreatDoorQF1
/-
  Replay: State.
-/
namespace Go.Proofs.YtdnackjakfiffaaGreatDoor
open Go Go.RowKit Go.ChangeShapes Go.Maps Go.Sort Go.Shelf
open Wb

def nInt : Value → Int | .int _ q => q | _ => 0
theorem rysorts (m : Nat) : AnyZI.SortsIn Tryz.prog laysSorted_ren Fence.wide m :=
  ⟨fun blk off cap ss W hH hblk hsz => callsIn_wide.2 (AnyM.slices_Sort_int laysSort blk off cap ss W hH hblk hsz),
   fun p cap W => callsIn_wide.2 (AnyM.slices_Sort_int_none laysSort p cap W)⟩
theorem mv_keys (l : Mv.L Value) : intKeys (Mv.dm l) = l.map (·.1) := by
  unfold Mv.dm
  simp only [intKeys, List.map_map]
  rfl
theorem mv_sorted (l : Mv.L Value) (h : Mv.rising l) (ss : List Int) (hp : ss.Perm (intKeys (Mv.dm l))) : ss.mergeSort (fun x y => decide (x ≤ y)) = l.map (·.1) := by
  rw [mv_keys] at hp
  have tr : ∀ a b c : Int, leI a b = true → leI b c = true → leI a c = true := fun a b c h1 h2 => by simp only [leI, decide_eq_true_eq] at *; exact Int.le_trans h1 h2
  have tot : ∀ a b : Int, (leI a b || leI b a) = true := fun a b => by simp only [leI, Bool.or_eq_true, decide_eq_true_eq]; exact Int.le_total a b
  refine List.Perm.eq_of_pairwise (le := fun a b => leI a b = true) (fun a b _ _ h1 h2 => ?_) (List.pairwise_mergeSort tr tot ss) ?_ ((List.mergeSort_perm ss leI).trans hp)
  · simp only [leI, decide_eq_true_eq] at h1 h2
    exact Int.le_antisymm h1 h2
  · rw [List.pairwise_map]
    refine List.Pairwise.imp (fun {p q} hpq => ?_) h
    simp only [leI, decide_eq_true_eq]
    omega
theorem vaM_keys (M : Ms) : (vaM M).map (·.1) = M.map (·.1) := by
  unfold vaM Mv.mapv
  rw [List.map_map]
  rfl
theorem rykey_any (mb : Option Nat) (W : World) : Calls Tryz.prog 46 #[.map mb] W fun e w' => e = .returned (.func (.func 61) #[] #[.pointer (some ⟨W.heap.size, 0, none⟩)]) ∧ w' = W.alloc (.cells #[.map mb] 73) :=
  (callsIn_wide (n := 6)).1 (AnyZI.keys_in laysKeys Fence.wide 6 trivial rfl mb W)
set_option maxRecDepth 100000 in
set_option maxHeartbeats 2000000 in
theorem rykeys_any (b c : Nat) (M : Ms) (W : World) (hown : W.ownsMap Tryz.prog 3 Mv.hR b c (Mv.dm (vaM M))) (hr : Mv.rising M) (hl : M.length ≤ 10000000) :
    Calls Tryz.prog 45 #[.func (.func 61) #[] #[.pointer (some ⟨W.heap.size, 0, none⟩)]] (W.alloc (.cells #[.map (some b)] 73)) fun e w' => ∃ v, e = .returned v ∧ Fld.RoI W.heap.size w' v (M.map (·.1)) ∧ Below W.heap.size W w' := by
  refine (callsIn_wide (n := 5)).1 ?_
  have hsz : Maps.size (Mv.dm (vaM M)) = M.length := by rw [Mv.dm_size]; unfold vaM Mv.mapv; rw [List.length_map]
  have hbl := hown.lt
  have hseq : SeqGives Fence.wide 2 Tryz.prog 61 #[.pointer (some ⟨W.heap.size, 0, none⟩)] encZ (fun ss => ss.Perm (intKeys (Mv.dm (vaM M)))) (Maps.size (Mv.dm (vaM M))) (W.alloc (.cells #[.map (some b)] 73)) :=
    AnyZI.keys_gives (ρ := laysKeys_ren) { laysKeys with } Fence.wide _ trivial rfl (by omega) W.heap.size b c (Mv.dm (vaM M)) _ (by simp) (by simp) (by
      obtain ⟨es, clock, hb, Ft, hs, hD⟩ := hown
      exact ⟨es, clock, (Below.heap_alloc _ _ b hbl).trans hb, Ft, hs, hD⟩)
  have cS := AnyZI.sorted_in laysSorted Fence.wide 5 trivial trivial trivial trivial rfl (by omega) (rysorts _) (enters_of Tryz.func60 (by kernel_rfl) rfl) 61 #[.pointer (some ⟨W.heap.size, 0, none⟩)] trivial (enters_of Tryz.func61 (by kernel_rfl) rfl) _ _ (by rw [hsz]; unfold maxLen; omega) (by rw [hsz]; omega) _ hseq
  change CallsIn _ _ Tryz.prog 45 _ _ _ at cS
  refine cS.mono ?_
  rintro e w' ⟨v, ss, rfl, hS, hrow, hnil, hb⟩
  have e1 := mv_sorted (vaM M) (Mv.rising_mapv hr) ss hS
  have e2 : ss.length = (M.map (·.1)).length := by
    rw [hS.length_eq, mv_keys, vaM_keys]
  rw [vaM_keys] at e1
  rw [e1, e2] at hrow
  have hb2 : Below W.heap.size W w' := (up0 W _).trans (hb.mono (by simp))
  exact ⟨v, rfl, roI_weak (B2 := (W.alloc (.cells #[.map (some b)] 73)).heap.size) hrow (by simp), hb2⟩
/-- what does not change but block p -/
theorem FD.ext {w w' : World} {g b c p : Nat} {M : Ms} {t : TypeId} {C : List Value} (h : FD w g b c M) (L : LB w p t C) (h1 : t ≠ 75) (h2 : t ≠ 5) (h3 : t ≠ 30) (ho : ExT p w w') : FD w' g b c M := by
  have hg : g ≠ p := by
    rintro rfl
    have := h.box
    unfold LB at this L
    rw [this] at L
    simp at L
    exact h1 L.2.symm
  have hb : b ≠ p := by
    rintro rfl
    obtain ⟨es, clock, hb, -⟩ := h.map
    unfold LB at L
    rw [L] at hb
    simp at hb
  have kb : KB w w' := fun q cs t' z e ht => ho q (by
    rintro rfl
    unfold LB at L
    rw [L] at e
    simp at e
    obtain ⟨-, rfl, -⟩ := e
    rcases ht with ht | ht
    · exact h2 ht
    · exact h3 ht) (Array.getElem?_eq_some_iff.1 e).1
  refine ⟨(ho g hg h.box.lt).trans h.box, ?_, h.ris, fun k p e => (h.own k p e).kb kb, h.few⟩
  obtain ⟨es, clock, hm, F, hs, hD⟩ := h.map
  exact ⟨es, clock, (ho b hb (Array.getElem?_eq_some_iff.1 hm).1).trans hm, F, hs, hD⟩
theorem roI_ext {B p : Nat} {w w' : World} {v : Value} {l : List Int} {t : TypeId} {C : List Value} (h : Fld.RoI B w v l) (L : LB w p t C) (h1 : t ≠ 3) (ho : ExT p w w') : Fld.RoI B w' v l := by
  refine ⟨h.1, ?_⟩
  rcases h.2 with h2 | ⟨g, cap, cur, rfl, h2, hg, rest⟩
  · exact .inl h2
  · exact .inr ⟨g, cap, cur, rfl, h2, (ho g (by
      rintro rfl
      unfold LB at L
      rw [L] at hg
      simp at hg
      exact h1 hg.2) (Array.getElem?_eq_some_iff.1 hg).1).trans hg, rest⟩
theorem ExT.refl (p : Nat) (w : World) : ExT p w w := fun _ _ _ => rfl
theorem ExT.step {p : Nat} {w w1 w2 : World} (h : ExT p w w1) (h2 : Below w.heap.size w1 w2) : ExT p w w2 := fun q hq hl => (h2.block q hl).trans (h q hq hl)
theorem ExT.set {p : Nat} {w w1 : World} (h : ExT p w w1) (j : Nat) (u : Value) : ExT p w (w1.setCell ⟨p, j, none⟩ u) := fun q hq hl => (set_other _ _ _ _ hq).trans (h q hq hl)
theorem Sgs.set {B p j : Nat} {w : World} {v u : Value} {ps : List (Sg × SH)} {t : TypeId} {C : List Value} (h : Sgs B w v ps) (L : LB w p t C) (h1 : t ≠ 43) (h2 : t ≠ 5) (h3 : t ≠ 30) : Sgs B (w.setCell ⟨p, j, none⟩ u) v ps := by
  refine ⟨rowG_keptB h.1 fun g e => set_other _ _ _ _ ?_, fun q hq => (h.2 q hq).kb (KB.cells L h2 h3 j [u])⟩
  show g ≠ p
  rintro rfl
  rcases h.1.2 with ⟨rfl, _⟩ | ⟨g', cap', cur', rfl, _, hg', _⟩
  · simp [Value.ownBlock] at e
  · simp [Value.ownBlock] at e
    subst e
    unfold LB at L
    rw [L] at hg'
    simp at hg'
    exact h1 hg'.2
/-- what the loop of State holds -/
def StI (w w5 : World) (p1 c : Nat) (M : Ms) (k : Nat) (wr : World) : Prop := ∃ v ps, LB wr p1 27 [.int .i64 (c : Int), v] ∧ Sgs w5.heap.size wr v ps ∧ ps.map (·.1) = ((puM M).map (·.2)).take k ∧ ExT p1 w5 wr ∧ w5.heap.size ≤ wr.heap.size ∧ Below w.heap.size w wr
theorem puM_len (M : Ms) : ((puM M).map (·.2)).length = M.length := by unfold puM Mv.mapv; simp
theorem puM_at (M : Ms) (k : Nat) (h : k < M.length) : ((puM M).map (·.2))[k]'(by rw [puM_len]; exact h) = M[k].2.1 := by unfold puM Mv.mapv; simp
def SeP (w : World) (c : Nat) (M : Ms) (e : Ending) (w' : World) : Prop := ∃ a, ∃ cp : Nat, ∃ ps, e = .returned (.agg #[.int .i64 (c : Int), .slice a ps.length cp]) ∧ Sgs w.heap.size w' (.slice a ps.length cp) ps ∧ ps.map (·.1) = (puM M).map (·.2) ∧ Below w.heap.size w w'
theorem Sgs.shape {B : Nat} {w : World} {v : Value} {ps : List (Sg × SH)} (h : Sgs B w v ps) : ∃ a, ∃ cp : Nat, v = .slice a ps.length cp := by
  rcases h.1.2 with ⟨rfl, h1⟩ | ⟨g, cap, cur, rfl, _⟩
  · exact ⟨none, 0, by rw [h1]⟩
  · exact ⟨_, _, rfl⟩
theorem rstep_storeS {ops : Array Oper} {o : Oper} {a : Act} {w : World} {K : Act → World → Prop} {Q : Exit → Act → World → Prop} {E : Prop} (hgd : o.guard = none) (x y : Nat) (ho : o.op = .store 25 (.tmp x) (.tmp y))
    (p j : Nat) {sa : Option Addr} {n c : Nat} {u : Value} (hx : a.tmps[x]?.getD undef = .pointer (some ⟨p, j, none⟩)) (hy : a.tmps[y]?.getD undef = .slice sa n c) (hc : w.cell? ⟨p, j, none⟩ = some u) (hf : w.frozen? ⟨p, j, none⟩ = false)
    (h : K (a.put o.dst undef) (w.setCell ⟨p, j, none⟩ (.slice sa n c))) : if Region.wanted o (yielded ops a.tmps) = true then Oper.wp Tryz.prog o a w K Q else E := by
  rw [if_pos (by simp [Region.wanted, hgd])]
  obtain ⟨dst, op', ty, pos, after, guard⟩ := o
  simp only at ho hgd
  subst ho hgd
  go_simp
  exact h
theorem rstep_buildG {S : Sg} {h : SH} {E : List Value} (hE : E = scl S h) {ops : Array Oper} {o : Oper} {a : Act} {w : World} {K : Act → World → Prop} {Q : Exit → Act → World → Prop} {F : Prop} (hgd : o.guard = none) (x : Nat) (ho : o.op = .buildSlice 25 1 #[(0, .tmp x)]) (hx : a.tmps[x]?.getD undef = .agg E.toArray)
    (hK : K (a.put o.dst (.slice (some ⟨w.heap.size, 0, none⟩) 1 1)) (w.alloc (.cells E.toArray 43))) : if Region.wanted o (yielded ops a.tmps) = true then Oper.wp Tryz.prog o a w K Q else F := by
  subst hE
  refine rstep_run hgd ?_ hK
  obtain ⟨dst, op', ty, pos, after, guard⟩ := o
  simp only at ho hgd
  subst ho hgd
  unfold scl at hx ⊢
  go_simp
set_option maxRecDepth 100000 in
set_option maxHeartbeats 8000000 in
theorem rystate_any (g b c : Nat) (M : Ms) (w : World) (h : FD w g b c M) (hl : ∀ k p, Mv.get M k = some p → Light p.1) (hc : c ≤ 10000000) (hk : ∀ p ∈ M, -9223372036854775808 ≤ p.1 ∧ p.1 ≤ 9223372036854775807) :
    Calls Tryz.prog 24 #[.pointer (some ⟨g, 0, none⟩)] w fun e w' => SeP w c M e w' := by
  obtain ⟨p1, hp1⟩ : ∃ p, p = w.heap.size + 1 := ⟨_, rfl⟩
  obtain ⟨W1, hW1⟩ : ∃ W, W = (w.alloc (.cells #[.int .i64 0, .slice none 0 0] 27)).alloc (.cells #[.int .i64 (c : Int), .slice none 0 0] 27) := ⟨_, rfl⟩
  have H1 : Hid (LB W1 w.heap.size 27 [.int .i64 0, .slice none 0 0] ∧ LB W1 p1 27 [.int .i64 (c : Int), .slice none 0 0] ∧ Below w.heap.size w W1) := by
    rw [hW1, hp1]
    exact lb_new2 w _ _ _ _
  have HW1 : Hid ((w.alloc (.cells #[.int .i64 0, .slice none 0 0] 27)).alloc (.cells #[.int .i64 (c : Int), .slice none 0 0] 27) = W1 ∧ w.heap.size + 1 = p1) := ⟨hW1.symm, hp1.symm⟩
  clear hW1 hp1
  have hF1 := h.kept H1.out.2.2
  have HF1 : Hid (FD W1 g b c M) := hF1
  have HKS : Hid (Calls Tryz.prog 45 #[.func (.func 61) #[] #[.pointer (some ⟨W1.heap.size, 0, none⟩)]] (W1.alloc (.cells #[.map (some b)] 73)) fun e w' => ∃ v, e = .returned v ∧ Fld.RoI W1.heap.size w' v (M.map (·.1)) ∧ Below W1.heap.size W1 w') := rykeys_any b c M W1 hF1.map hF1.ris (Nat.le_trans hF1.few hc)
  have HML : Hid (M.length ≤ c ∧ c ≤ 10000000) := ⟨h.few, hc⟩
  have HLI : Hid (∀ k p, Mv.get M k = some p → Light p.1) := hl
  have HKB : Hid (∀ p ∈ M, -9223372036854775808 ≤ p.1 ∧ p.1 ≤ 9223372036854775807) := hk
  have HRI : Hid (Mv.rising M) := h.ris
  have x0 := (h.kept (up0 w (.cells #[.int .i64 0, .slice none 0 0] 27))).cnt
  clear h hl hc hF1 hk
  go_enter Tryz.func24, Tryz.ntmps24
  go_upto_region 2 with fail
  rw [HW1.out.1, HW1.out.2]
  have y1 := HF1.out.cell
  go_wp2_with fail
  refine (rykey_any _ _).mono ?_
  rintro e w' ⟨rfl, rfl⟩
  go_wp2_with fail
  refine HKS.out.mono ?_
  rintro e w5 ⟨kv, rfl, hkv, hb5⟩
  obtain ⟨ka, kc, rfl⟩ := hkv.shape
  have H5 : Hid (FD w5 g b c M ∧ LB w5 p1 27 [.int .i64 (c : Int), .slice none 0 0] ∧ LB w5 w.heap.size 27 [.int .i64 0, .slice none 0 0] ∧ Fld.RoI W1.heap.size w5 (.slice ka (M.map (·.1)).length kc) (M.map (·.1)) ∧ Below w.heap.size w w5) := ⟨HF1.out.kept hb5, H1.out.2.1.kept hb5, H1.out.1.kept hb5, hkv, andThen H1.out.2.2 hb5⟩
  have HP1 : Hid (w.heap.size < p1) := by show _ < _; rw [← HW1.out.2]; omega
  clear hkv hb5 HKS x0 y1 HF1 H1 HW1
  have hlen : (M.map (·.1)).length = M.length := List.length_map _
  rw [hlen] at H5 ⊢
  have hml := HML.out
  clear hlen
  go_wp2_with fail
  go_loopw [18] (fun i wr => ∃ k : Nat, k ≤ M.length ∧ i = .int .i64 (k : Int) ∧ StI w w5 p1 c M k wr) (fun i _ => M.length - (nInt i).toNat)
  case atStart => exact ⟨0, Nat.zero_le _, rfl, _, [], H5.out.2.1, Sgs.nil _ _, rfl, ExT.refl _ _, Nat.le_refl _, H5.out.2.2.2.2⟩
  case round =>
    obtain ⟨k, hk, rfl, v, ps, q1, q2, q3, q4, q5, q6⟩ := hrel
    have HI : Hid (LB wr p1 27 [.int .i64 (c : Int), v] ∧ Sgs w5.heap.size wr v ps ∧ ps.map (·.1) = ((puM M).map (·.2)).take k ∧ ExT p1 w5 wr ∧ w5.heap.size ≤ wr.heap.size ∧ Below w.heap.size w wr) := ⟨q1, q2, q3, q4, q5, q6⟩
    clear q1 q2 q3 q4 q5 q6
    by_cases hlt : k < M.length
    · obtain ⟨id, hid⟩ : ∃ id, M[k].1 = id := ⟨_, rfl⟩
      obtain ⟨q, hq⟩ : ∃ q, M[k].2 = q := ⟨_, rfl⟩
      have HGM : Hid (Mv.get M id = some q) := (Mv.get_mem HRI.out).2 (by rw [← hid, ← hq]; exact List.getElem_mem hlt)
      have HQ : Hid (((puM M).map (·.2)).take (k + 1) = ((puM M).map (·.2)).take k ++ [q.1]) := by
        show _ = _
        rw [List.take_succ_eq_append_getElem (by rw [puM_len]; exact hlt), puM_at M k hlt, hq]
      have HIB : Hid (-9223372036854775808 ≤ id ∧ id ≤ 9223372036854775807) := by show _ ∧ _; rw [← hid]; exact HKB.out _ (List.getElem_mem hlt)
      obtain ⟨kg, rfl, hkc⟩ := (roI_ext H5.out.2.2.2.1 H5.out.2.1 (by decide) HI.out.2.2.2.1).cell k (by rw [List.length_map]; exact hlt)
      rw [List.getElem_map, hid] at hkc
      clear hid hq
      obtain ⟨va, vc, rfl⟩ := HI.out.2.1.shape
      have HFr : Hid (FD wr g b c M) := H5.out.1.ext H5.out.2.1 (by decide) (by decide) (by decide) HI.out.2.2.2.1
      go_upto_region 5 with fail
      clear hkc
      obtain ⟨D, hD, hDL, hDE⟩ := sv_letter q.1 q.2
      have HCL : Hid (∀ W, Below wr.heap.size wr W → Calls Tryz.prog 47 #[.agg D.toArray] W fun e w' => ∃ h', e = .returned (sv q.1 h') ∧ SgOwn W.heap.size w' q.1 h' ∧ Below W.heap.size W w') := fun W hW => by
        have e := sclone_any q.1 q.2 W ((HFr.out.own id q HGM.out).at.kept hW) (HLI.out id q HGM.out)
        rw [hD] at e
        exact e
      have HLK : Hid (∀ W, Below wr.heap.size wr W → (Instr.lookup 73 (.map (some b)) (.int .i64 id) false).run Tryz.prog W = .ok (.agg D.toArray) W) := fun W hW => by
        have e := (HFr.out.kept hW).look1 id HIB.out HGM.out
        rw [hD] at e
        exact e
      clear hD hDL hDE
      refine wp_region_held_drew (S := fun _ : World => True) (by kernel_rfl) trivial (fun hH => ?_)
      obtain ⟨WV, hWV⟩ : ∃ x, x = wr.drew := ⟨_, rfl⟩
      have HBV : Hid (Below wr.heap.size wr WV) := by rw [hWV]; exact Below.drew (Below.refl _ _)
      rw [← hWV]
      clear hWV hH
      refine zqk 0 rfl trivial ?_
      try simp only [Act.put, zq1, zq2, zq3, zq4, zq5]
      refine zqk 2 rfl trivial ?_
      try simp only [Act.put, zq1, zq2, zq3, zq4, zq5, zq6]
      refine zqk 3 rfl trivial ?_
      try simp only [Act.put, zq1, zq2, zq3, zq4, zq5, zq6]
      refine zqk 4 rfl trivial ?_
      try simp only [Act.put, zq1, zq2, zq3, zq4, zq5, zq6]
      refine zqk 6 rfl trivial ?_
      try simp only [Act.put, zq1, zq2, zq3, zq4, zq5, zq6]
      have kvv := (HI.out.1.kept HBV.out).cell 1 _ rfl
      refine zqm (S := fun W : World => W.cell? ⟨p1, 1, none⟩ = some (.slice va ps.length vc)) 1 12 rfl (Or.inl ⟨by rfl, by intro w9 h9; (try dsimp only at h9); go_simp; all_goals rfl⟩) kvv ?_
      try simp only [Act.put, zq1, zq2, zq3, zq4, zq5, zq6]
      refine wpAnyL_ready (rs := [5]) (by kernel_rfl) (by simp) (by decide) (AllReadyL.cons rfl (fun K hK => ?_) AllReadyL.nil)
      have y1 := (HFr.out.kept HBV.out).cell
      refine rstep_run (v := .map (some b)) (W := WV) rfl (by go_simp) ?_
      refine hK.out _ _ kvv fun _ => ?_
      clear hK K y1
      try simp only [Act.put, zq1, zq2, zq3, zq4, zq5, zq6]
      refine wpAnyL_ready (rs := [7]) (by kernel_rfl) (by simp) (by decide) (AllReadyL.cons rfl (fun K hK => ?_) AllReadyL.nil)
      have y1 := HLK.out WV HBV.out
      refine rstep_run (v := .agg D.toArray) (W := WV) rfl (by go_simp) ?_
      refine hK.out _ _ kvv fun _ => ?_
      clear hK K y1
      try simp only [Act.put, zq1, zq2, zq3, zq4, zq5, zq6]
      refine wpAnyL_ready (rs := [8]) (by kernel_rfl) (by simp) (by decide) (AllReadyL.cons rfl (fun K hK => ?_) AllReadyL.nil)
      go_simp
      refine (HCL.out _ HBV.out).mono ?_
      rintro e w6 ⟨h6, rfl, o6, b6⟩
      have H6 : Hid (SgO w5.heap.size w6 q.1 h6 ∧ Below wr.heap.size wr w6) := ⟨(show SgO WV.heap.size w6 q.1 h6 from ⟨o6.inp, o6.outs, o6.und, o6.fail⟩).weak (Nat.le_trans HI.out.2.2.2.2.1 HBV.out.size), andThen HBV.out b6⟩
      clear o6 b6
      refine hK.out _ _ ((HI.out.1.kept H6.out.2).cell 1 _ rfl) fun _ => ?_
      clear hK K
      try simp only [Act.put, zq1, zq2, zq3, zq4, zq5, zq6]
      obtain ⟨E, hE, hEL, hEE⟩ := sv_letter q.1 h6
      rw [hE]
      have HE : Hid (E = scl q.1 h6) := hEE
      have HEA : Hid (Value.agg E.toArray = sv q.1 h6) := hE.symm
      clear hE hEL hEE
      have L7 : Hid (LB (w6.alloc (.cells E.toArray 43)) w6.heap.size 43 E ∧ Below wr.heap.size wr (w6.alloc (.cells E.toArray 43))) := ⟨lb_new _ _ _, andThen H6.out.2 (up0 _ _)⟩
      refine wpAnyL_ready (rs := [9]) (by kernel_rfl) (by simp) (by decide) (AllReadyL.cons rfl (fun K hK => ?_) AllReadyL.nil)
      refine rstep_buildG HE.out rfl 30 rfl rfl ?_
      refine hK.out _ _ ((HI.out.1.kept L7.out.2).cell 1 _ rfl) fun _ => ?_
      clear hK K
      try simp only [Act.put, zq1, zq2, zq3, zq4, zq5, zq6]
      refine wpAnyL_ready (rs := [10]) (by kernel_rfl) (by simp) (by decide) (AllReadyL.cons rfl (fun K hK => ?_) AllReadyL.nil)
      have HPL : Hid (ps.length ≤ 10000000) := by
        have e := congrArg List.length HI.out.2.2.1
        rw [List.length_map, List.length_take, puM_len] at e
        have := HML.out
        show _ ≤ _
        omega
      refine step_append_sg rfl (.tmp 23) (.tmp 31) rfl w5.heap.size _ ps (q.1, h6) rfl (HI.out.2.1.kept L7.out.2) w6.heap.size rfl (by rw [← HE.out]; exact L7.out.1.range) (H6.out.1.kept (up0 _ _)) (by have := HPL.out; omega) (Nat.le_trans HI.out.2.2.2.2.1 L7.out.2.size) (fun v8 w8 o8 b8 g8 => ?_)
      have L8 : Hid (LB w8 p1 27 [.int .i64 (c : Int), .slice va ps.length vc]) := (b8.block p1 H5.out.2.1.lt).trans (HI.out.1.kept L7.out.2)
      have X8 : Hid (ExT p1 w5 w8 ∧ w5.heap.size ≤ w8.heap.size ∧ Below w.heap.size w w8 ∧ Sgs w5.heap.size w8 v8 (ps ++ [(q.1, h6)])) := ⟨(HI.out.2.2.2.1.step (L7.out.2.mono HI.out.2.2.2.2.1)).step b8, Nat.le_trans (Nat.le_trans HI.out.2.2.2.2.1 L7.out.2.size) b8.size, (andThen HI.out.2.2.2.2.2 L7.out.2).trans (b8.mono H5.out.2.2.2.2.size), o8⟩
      refine hK.out _ _ (L8.out.cell 1 _ rfl) fun _ => ?_
      clear hK K b8 g8 o8
      try simp only [Act.put, zq1, zq2, zq3, zq4, zq5, zq6]
      refine wpAnyL_ready (rs := [11]) (by kernel_rfl) (by simp) (by decide) (AllReadyL.cons rfl (fun K hK => ?_) AllReadyL.nil)
      refine rstep_run (v := .pointer (some ⟨p1, 1, none⟩)) (W := w8) rfl (by go_simp) ?_
      refine hK.out _ _ (L8.out.cell 1 _ rfl) fun _ => ?_
      clear hK K
      try simp only [Act.put, zq1, zq2, zq3, zq4, zq5, zq6]
      have z1 := L8.out.cell 1 _ rfl
      have z2 := L8.out.free 1
      have H9 : Hid (StI w w5 p1 c M (k + 1) (w8.setCell ⟨p1, 1, none⟩ v8)) := ⟨v8, ps ++ [(q.1, h6)], L8.out.set 1 v8, X8.out.2.2.2.set L8.out (by decide) (by decide) (by decide), by rw [List.map_append, HI.out.2.2.1, HQ.out]; rfl, X8.out.1.set 1 v8, by rw [size_set]; exact X8.out.2.1, Below.setCell X8.out.2.2.1 (Nat.le_of_lt HP1.out) v8⟩
      refine wpAnyL_last (by kernel_rfl) ?_
      refine zqr 12 rfl (fun K hK => ?_)
      obtain ⟨a8, c8, rfl⟩ := X8.out.2.2.2.shape
      refine rstep_storeS rfl 33 32 rfl p1 1 rfl rfl z1 z2 ?_
      refine hK.out _ _ trivial fun _ => ?_
      clear hK K
      refine wpAnyH_done (by kernel_rfl) ?_ _
      try simp only [Act.put, zq4, zq5, zq6]
      clear z1 z2 kvv
      have h9 := H9.out
      rw [List.length_append, List.length_singleton] at h9
      have H9b : Hid _ := h9
      clear h9 H9
      have hk9 : k + 1 ≤ 10000000 := by omega
      go_wp2_with fail
      go_roundw
      case rel => exact ⟨k + 1, by omega, by go_num, H9b.out⟩
      case measure => simp [nInt]; omega
    · obtain rfl : k = M.length := by omega
      obtain ⟨va, vc, rfl⟩ := HI.out.2.1.shape
      have z0 := HI.out.1.cell 0 _ rfl
      have z1 := HI.out.1.cell 1 _ rfl
      have HR := (HI.out.2.2.2.1 w.heap.size (Nat.ne_of_lt HP1.out) H5.out.2.2.1.lt).trans H5.out.2.2.1
      have LR : Hid (LB wr w.heap.size 27 [.int .i64 0, .slice none 0 0]) := HR
      have r0 := LR.out.cell 0 _ rfl
      have r1 := LR.out.cell 1 _ rfl
      have f0 := LR.out.free 0
      have f1 := LR.out.free 1
      clear HR
      go_wp2_with fail
      have LZ := (LR.out.set 0 (.int .i64 (c : Int))).set 1 (.slice va ps.length vc)
      refine bodyPost_ret (results_cell_mid rfl _ _ w.heap.size [.int .i64 (c : Int), .slice va ps.length vc] _ rfl LZ.range Tryz.underlying27 rfl (by kernel_rfl)) rfl ?_
      refine ⟨va, vc, ps, rfl, ?_, by rw [HI.out.2.2.1, List.take_of_length_le (by rw [puM_len]; exact Nat.le_refl _)], ?_⟩
      · have hs := HI.out.2.1.weak (B := w.heap.size) H5.out.2.2.2.2.size
        have hs0 := hs.set (j := 0) (u := .int .i64 (c : Int)) LR.out (by decide) (by decide) (by decide)
        exact hs0.set (j := 1) (u := .slice va ps.length vc) (LR.out.set 0 _) (by decide) (by decide) (by decide)
      · exact Below.setCell (Below.setCell HI.out.2.2.2.2.2 (Nat.le_refl _) _) (Nat.le_refl _) _
end Go.Proofs.YtdnackjakfiffaaGreatDoor
