import Derived.Test.YtgjlkkikgkbamaaGreatDoorQD3
import Derived.Test.YtgjlkkikgkbamaaGreatDoorQC1
import Derived.Test.YtgjlkkikgkbamaaGreatDoorQS1
/-
  The reference's saga: told, of a saga that runs and has done nothing yet.
-/
namespace Go.Proofs.YtgjlkkikgkbamaaGreatDoor
open Go Go.RowKit
open Wb

/-- append(v, x) of one record -/
theorem wpList_append_recT {P : Program} {ops : Array Oper} {rest : List Oper} {o : Oper} {a : Act} {w : World} {Q : Exit → Act → World → Prop} (hgd : o.guard = none) (s x : Operand) (t : TypeId)
    (ho : o.op = .call { callee := .builtin .append, args := #[s, x], argTypes := #[t, t] })
    (B : Nat) (hinfo : (P.info? 27).map (fun i => (i.zero, i.size, i.bytes)) = some (some (.agg #[.int .i64 0, .int .i64 0, .int .i64 0, .int .i64 0, .int .i64 0, .int .i64 0, .int .i64 0, .int .i64 0, .int .i64 0, .int .i64 0, .string ⟨#[]⟩, .slice none 0 0]), 12, 120)) (ht : P.underlying t = some (.slice 27))
    (v : Value) (ps : List (Rec × Value)) (q : Rec × Value) (hv : a.eval s = v) (h : OutT B w v ps) (g : Nat) (hx : a.eval x = .slice (some ⟨g, 0, none⟩) 1 1)
    (hc : w.rangeAt g 0 (rcl q)) (hq2 : Own B w q.2 q.1.l)
    (hmax : (ps.length + 1) * 120 ≤ 140737488355328) (hB : B ≤ w.heap.size)
    (hK : ∀ v' w', OutT B w' v' (ps ++ [q]) → Below B w w' → w.grownBy w' v.ownBlock → wpList P ops Q rest (a.put o.dst v') w') : wpList P ops Q (o :: rest) a w :=
  wpList_step fun _ hKK => step_append_rec hgd s x t ho B hinfo ht v ps q hv h g hx hc hq2 hmax hB fun v' w' h1 h2 h3 => hKK _ _ (hK v' w' h1 h2 h3)
theorem trR_step (S : Sg) (kk p : Int) (m n : Nat) : trL S kk p m (n + 1) = stR S kk p ((m : Int) + 1) 0 0 [] :: ((if n ≠ 0 ∨ S.x.fl = false then [stR S 4 p 0 0 0 []] else []) ++ trL S kk p (m + 1) n) := rfl
/-- a block that is no row of records stays while one grows -/
theorem lb_grown {w w' : World} {B b : Nat} {ty : TypeId} {C : List Value} {v : Value} {ps : List (Rec × Value)} (L : LB w b ty C) (h : OutT B w v ps) (hg : w.grownBy w' v.ownBlock) (hty : ty ≠ 27) : LB w' b ty C := (hg.block b L.lt (fun e => by
  obtain ⟨cs, z, h9⟩ := rrow_typed h.1 b e.symm
  rw [L] at h9
  simp at h9
  exact hty h9.2.1)).trans L
set_option maxRecDepth 100000 in
set_option maxHeartbeats 4000000 in
theorem rxtold_run (S : Sg) (h : SH) (w : World) (hi : Bs w (.slice h.ai S.inp.length h.ci) S.inp) (hl : S.inp.length ≤ 16384) (ho : S.outs = []) (hp : S.x.ph = 1) (htr : 0 ≤ S.x.tr ∧ S.x.tr ≤ 1000) :
    Calls Tryz.prog 58 #[sv S h] w fun e w' => ∃ v ps, e = .returned v ∧ OutT w.heap.size w' v ps ∧ ps.map Prod.fst = storyP S ∧ Below w.heap.size w w' := by
  have hin := infoR12
  have HST : Hid (storyP S = stB S :: trL S 2 S.x.nx 0 S.x.tr.toNat) := by
    show _ = _
    simp [storyP, storyT, ho, outL, failL, endL, trK, SN.fwd, SN.ended, SN.turn, hp]
  have HBY : Hid (∀ w', Bs w' (.slice h.ai S.inp.length h.ci) S.inp → Calls Tryz.prog 77 #[.slice h.ai S.inp.length h.ci] w' fun e w'' => ∃ a, ∃ c : Nat, e = .returned (.slice a S.inp.length c) ∧ Own w'.heap.size w'' (.slice a S.inp.length c) S.inp ∧ Below w'.heap.size w' w'') := fun w' hb => rxbytes_any _ S.inp w' hb (by omega)
  have HOL : Hid (S.outs.length = 0) := by show _ = _; rw [ho]; rfl
  obtain ⟨D, hD, hL, hE⟩ := sv_letter S h
  rw [hD]
  have HL : Hid _ := hL
  have HE : Hid (D = scl S h) := hE
  have HX : Hid (∀ t, (w.alloc (.cells D.toArray t)).rangeAt w.heap.size 0 D ∧ Below w.heap.size w (w.alloc (.cells D.toArray t))) := fun t => boxed w D t
  clear hD hL hE 
  have HX1 : Hid (LB (w.alloc (.cells D.toArray 25)) w.heap.size 25 D ∧ Below w.heap.size w (w.alloc (.cells D.toArray 25)) ∧ Bs (w.alloc (.cells D.toArray 25)) (.slice h.ai S.inp.length h.ci) S.inp) := ⟨lb_new w D _, up0 _ _, hi.kept (up0 _ _)⟩
  have HCF : Hid (∀ W, LB W w.heap.size 25 D → W.cell? ⟨w.heap.size, 0, none⟩ = some (.int .i64 S.x.id) ∧ W.cell? ⟨w.heap.size, 4, none⟩ = some (.int .i64 S.x.beg) ∧ W.cell? ⟨w.heap.size, 2, none⟩ = some (.int .i64 S.x.cnt) ∧ W.cell? ⟨w.heap.size, 3, none⟩ = some (.int .i64 S.x.piv) ∧ W.cell? ⟨w.heap.size, 1, none⟩ = some (.string S.nm) ∧ W.cell? ⟨w.heap.size, 6, none⟩ = some (.slice h.ai S.inp.length h.ci)) := fun W L => ⟨L.cell 0 _ (by rw [HE.out]; rfl), L.cell 4 _ (by rw [HE.out]; rfl), L.cell 2 _ (by rw [HE.out]; rfl), L.cell 3 _ (by rw [HE.out]; rfl), L.cell 1 _ (by rw [HE.out]; rfl), L.cell 6 _ (by rw [HE.out]; rfl)⟩
  have hT : (S.x.tr.toNat : Int) = S.x.tr := by omega
  clear HX hi ho
  go_enter Tryz.func58, Tryz.ntmps58
  go_wp2
  generalize w.alloc (.cells D.toArray 25) = W0 at HX1 ⊢
  have H1 : Hid (LB W0.drew w.heap.size 25 D ∧ Below w.heap.size w W0.drew ∧ Bs W0.drew (.slice h.ai S.inp.length h.ci) S.inp) := ⟨HX1.out.1.kept (Below.drew (Below.refl _ _)), Below.drew HX1.out.2.1, HX1.out.2.2.kept (Below.drew (Below.refl _ _))⟩
  refine wp_region_held_drew (S := fun w' : World => w'.cell? ⟨w.heap.size, 0, none⟩ = some (.int .i64 S.x.id) ∧ w'.cell? ⟨w.heap.size, 4, none⟩ = some (.int .i64 S.x.beg) ∧ w'.cell? ⟨w.heap.size, 2, none⟩ = some (.int .i64 S.x.cnt) ∧ w'.cell? ⟨w.heap.size, 3, none⟩ = some (.int .i64 S.x.piv) ∧ w'.cell? ⟨w.heap.size, 1, none⟩ = some (.string S.nm) ∧ w'.cell? ⟨w.heap.size, 6, none⟩ = some (.slice h.ai S.inp.length h.ci)) (by kernel_rfl) (HCF.out _ H1.out.1) (fun hH => ?_)
  clear HX1
  generalize W0.drew = V1 at *
  refine wpAnyH_take (i := 0) (v := ?v1) rfl (by kernel_rfl) (by kernel_rfl) (by kernel_rfl) (fun _ _ _ h => h) (Or.inl ⟨by rfl, ?hy1⟩) hH ?rest1
  case hy1 => intro w' hSw; (try dsimp only at hSw); go_simp; all_goals rfl
  simp only [Act.put, List.setIfInBounds_toArray, List.set_cons_zero, List.set_cons_succ, List.getElem_toArray, List.getElem_cons_zero]
  refine wpAnyH_take (i := 1) (v := ?v2) rfl (by kernel_rfl) (by kernel_rfl) (by kernel_rfl) (fun _ _ _ h => h) (Or.inl ⟨by rfl, ?hy2⟩) hH ?rest2
  case hy2 => intro w' hSw; (try dsimp only at hSw); go_simp; all_goals rfl
  simp only [Act.put, List.setIfInBounds_toArray, List.set_cons_zero, List.set_cons_succ, List.getElem_toArray, List.getElem_cons_zero, List.getElem_cons_succ]
  refine wpAnyH_take (i := 2) (v := ?v3) rfl (by kernel_rfl) (by kernel_rfl) (by kernel_rfl) (fun _ _ _ h => h) (Or.inl ⟨by rfl, ?hy3⟩) hH ?rest3
  case hy3 => intro w' hSw; (try dsimp only at hSw); go_simp; all_goals rfl
  simp only [Act.put, List.setIfInBounds_toArray, List.set_cons_zero, List.set_cons_succ, List.getElem_toArray, List.getElem_cons_zero, List.getElem_cons_succ]
  refine wpAnyH_take (i := 3) (v := ?v4) rfl (by kernel_rfl) (by kernel_rfl) (by kernel_rfl) (fun _ _ _ h => h) (Or.inl ⟨by rfl, ?hy4⟩) hH ?rest4
  case hy4 => intro w' hSw; (try dsimp only at hSw); go_simp; all_goals rfl
  simp only [Act.put, List.setIfInBounds_toArray, List.set_cons_zero, List.set_cons_succ, List.getElem_toArray, List.getElem_cons_zero, List.getElem_cons_succ]
  refine wpAnyH_take (i := 4) (v := ?v5) rfl (by kernel_rfl) (by kernel_rfl) (by kernel_rfl) (fun _ _ _ h => h) (Or.inl ⟨by rfl, ?hy5⟩) hH ?rest5
  case hy5 => intro w' hSw; (try dsimp only at hSw); go_simp; all_goals rfl
  simp only [Act.put, List.setIfInBounds_toArray, List.set_cons_zero, List.set_cons_succ, List.getElem_toArray, List.getElem_cons_zero, List.getElem_cons_succ]
  refine wpAnyH_take (i := 5) (v := ?v6) rfl (by kernel_rfl) (by kernel_rfl) (by kernel_rfl) (fun _ _ _ h => h) (Or.inl ⟨by rfl, ?hy6⟩) hH ?rest6
  case hy6 => intro w' hSw; (try dsimp only at hSw); go_simp; all_goals rfl
  simp only [Act.put, List.setIfInBounds_toArray, List.set_cons_zero, List.set_cons_succ, List.getElem_toArray, List.getElem_cons_zero, List.getElem_cons_succ]
  refine wpAnyH_take (i := 6) (v := ?v7) rfl (by kernel_rfl) (by kernel_rfl) (by kernel_rfl) (fun _ _ _ h => h) (Or.inl ⟨by rfl, ?hy7⟩) hH ?rest7
  case hy7 => intro w' hSw; (try dsimp only at hSw); go_simp; all_goals rfl
  simp only [Act.put, List.setIfInBounds_toArray, List.set_cons_zero, List.set_cons_succ, List.getElem_toArray, List.getElem_cons_zero, List.getElem_cons_succ]
  refine wpAnyH_take (i := 7) (v := ?v8) rfl (by kernel_rfl) (by kernel_rfl) (by kernel_rfl) (fun _ _ _ h => h) (Or.inl ⟨by rfl, ?hy8⟩) hH ?rest8
  case hy8 => intro w' hSw; (try dsimp only at hSw); go_simp; all_goals rfl
  simp only [Act.put, List.setIfInBounds_toArray, List.set_cons_zero, List.set_cons_succ, List.getElem_toArray, List.getElem_cons_zero, List.getElem_cons_succ]
  refine wpAnyH_take (i := 8) (v := ?v9) rfl (by kernel_rfl) (by kernel_rfl) (by kernel_rfl) (fun _ _ _ h => h) (Or.inl ⟨by rfl, ?hy9⟩) hH ?rest9
  case hy9 => intro w' hSw; (try dsimp only at hSw); go_simp; all_goals rfl
  simp only [Act.put, List.setIfInBounds_toArray, List.set_cons_zero, List.set_cons_succ, List.getElem_toArray, List.getElem_cons_zero, List.getElem_cons_succ]
  refine wpAnyH_take (i := 9) (v := ?v10) rfl (by kernel_rfl) (by kernel_rfl) (by kernel_rfl) (fun _ _ _ h => h) (Or.inl ⟨by rfl, ?hy10⟩) hH ?rest10
  case hy10 => intro w' hSw; (try dsimp only at hSw); go_simp; all_goals rfl
  simp only [Act.put, List.setIfInBounds_toArray, List.set_cons_zero, List.set_cons_succ, List.getElem_toArray, List.getElem_cons_zero, List.getElem_cons_succ]
  refine wpAnyH_take (i := 10) (v := ?v11) rfl (by kernel_rfl) (by kernel_rfl) (by kernel_rfl) (fun _ _ _ h => h) (Or.inl ⟨by rfl, ?hy11⟩) hH ?rest11
  case hy11 => intro w' hSw; (try dsimp only at hSw); go_simp; all_goals rfl
  simp only [Act.put, List.setIfInBounds_toArray, List.set_cons_zero, List.set_cons_succ, List.getElem_toArray, List.getElem_cons_zero, List.getElem_cons_succ]
  refine wpAnyH_take (i := 11) (v := ?v12) rfl (by kernel_rfl) (by kernel_rfl) (by kernel_rfl) (fun _ _ _ h => h) (Or.inl ⟨by rfl, ?hy12⟩) hH ?rest12
  case hy12 => intro w' hSw; (try dsimp only at hSw); go_simp; all_goals rfl
  simp only [Act.put, List.setIfInBounds_toArray, List.set_cons_zero, List.set_cons_succ, List.getElem_toArray, List.getElem_cons_zero, List.getElem_cons_succ]
  refine wpAnyH_ready (rs := [12]) (by kernel_rfl) (by simp) ?_
  refine AllReadyH.cons rfl (fun K hK => ?_) AllReadyH.nil
  go_simp
  refine (HBY.out _ H1.out.2.2).mono ?_
  rintro e w2 ⟨a2, c2, rfl, o2, b2⟩
  have H2 : Hid (LB w2 w.heap.size 25 D ∧ Below w.heap.size w w2 ∧ Own w.heap.size w2 (.slice a2 S.inp.length c2) S.inp ∧ w.heap.size ≤ w2.heap.size) := ⟨H1.out.1.kept b2, andThen H1.out.2.1 b2, own_weak o2 H1.out.2.1.size, (andThen H1.out.2.1 b2).size⟩
  refine hK.out _ _ (HCF.out _ H2.out.1) (fun hH2 => ?_)
  clear hK K hH
  have hH := hH2
  clear hH2
  clear b2 o2 H1
  refine wpAnyH_take (i := 13) (v := ?v13) rfl (by kernel_rfl) (by kernel_rfl) (by kernel_rfl) (fun _ _ _ h => h) (Or.inl ⟨by rfl, ?hy13⟩) hH ?rest13
  case hy13 => intro w' hSw; (try dsimp only at hSw); go_simp; all_goals rfl
  simp only [Act.put, List.setIfInBounds_toArray, List.set_cons_zero, List.set_cons_succ, List.getElem_toArray, List.getElem_cons_zero, List.getElem_cons_succ]
  refine wpAnyH_ready (rs := [14]) (by kernel_rfl) (by simp) ?_
  refine AllReadyH.cons rfl (fun K hK => ?_) AllReadyH.nil
  go_simp
  have H3 : Hid (LB (w2.alloc (.cells #[.int .i64 3, .int .i64 1, .int .i64 S.x.id, .int .i64 0, .int .i64 0, .int .i64 S.x.beg, .int .i64 0, .int .i64 0, .int .i64 S.x.cnt, .int .i64 S.x.piv, .string S.nm, .slice a2 S.inp.length c2] 27)) w.heap.size 25 D ∧ Below w.heap.size w (w2.alloc (.cells #[.int .i64 3, .int .i64 1, .int .i64 S.x.id, .int .i64 0, .int .i64 0, .int .i64 S.x.beg, .int .i64 0, .int .i64 0, .int .i64 S.x.cnt, .int .i64 S.x.piv, .string S.nm, .slice a2 S.inp.length c2] 27)) ∧ OutT w.heap.size (w2.alloc (.cells #[.int .i64 3, .int .i64 1, .int .i64 S.x.id, .int .i64 0, .int .i64 0, .int .i64 S.x.beg, .int .i64 0, .int .i64 0, .int .i64 S.x.cnt, .int .i64 S.x.piv, .string S.nm, .slice a2 S.inp.length c2] 27)) (.slice (some ⟨w2.heap.size, 0, none⟩) 1 1) [(stB S, .slice a2 S.inp.length c2)]) := ⟨H2.out.1.kept (up0 _ _), up H2.out.2.1 _, ⟨World.ownsRow_lit w2 #[.int .i64 3, .int .i64 1, .int .i64 S.x.id, .int .i64 0, .int .i64 0, .int .i64 S.x.beg, .int .i64 0, .int .i64 0, .int .i64 S.x.cnt, .int .i64 S.x.piv, .string S.nm, .slice a2 S.inp.length c2] 1 H2.out.2.2.2 (by simp [maxLen]) rfl, fun p hp => by obtain rfl := List.mem_singleton.1 hp; exact H2.out.2.2.1.kept (up0 _ _)⟩⟩
  refine hK.out _ _ (HCF.out _ H3.out.1) (fun hH2 => ?_)
  clear hK K hH
  have hH := hH2
  clear hH2
  refine wpAnyH_take (i := 15) (v := ?v14) rfl (by kernel_rfl) (by kernel_rfl) (by kernel_rfl) (fun _ _ _ h => h) (Or.inl ⟨by rfl, ?hy14⟩) hH ?rest14
  case hy14 => intro w' hSw; (try dsimp only at hSw); go_simp; all_goals rfl
  simp only [Act.put, List.setIfInBounds_toArray, List.set_cons_zero, List.set_cons_succ, List.getElem_toArray, List.getElem_cons_zero, List.getElem_cons_succ]
  refine wpAnyH_done (by kernel_rfl) ?_ _
  clear hH H2
  generalize w2.alloc (.cells #[.int .i64 3, .int .i64 1, .int .i64 S.x.id, .int .i64 0, .int .i64 0, .int .i64 S.x.beg, .int .i64 0, .int .i64 0, .int .i64 S.x.cnt, .int .i64 S.x.piv, .string S.nm, .slice a2 S.inp.length c2] 27) = W3 at *
  generalize w2.heap.size = g3 at *
  go_wp2
  go_loopw [3, 4] (fun l i wr => l = .slice (some ⟨g3, 0, none⟩) 1 1 ∧ i = .int .i64 0 ∧ wr = W3) (fun _ _ _ => 0)
  case atStart => exact ⟨rfl, rfl, rfl⟩
  case round =>
    obtain ⟨rfl, rfl, rfl⟩ := hrel
    have c11 := H3.out.1.cell 11 (.slice h.ao 0 h.co) (by rw [HE.out, ← HOL.out]; rfl)
    have c8 := H3.out.1.cell 8 (.int .i64 S.x.nx) (by rw [HE.out]; rfl)
    have c7 := H3.out.1.cell 7 (.int .i64 1) (by rw [HE.out, ← hp]; rfl)
    go_wp2
    clear c11 c8 c7
    go_loopw [3, 8] (fun l i wx => ∃ (m : Nat) (ps : List (Rec × Value)), i = .int .i64 ((m : Int) + 1) ∧ m ≤ S.x.tr.toNat ∧ OutT w.heap.size wx l ps ∧ ps.map Prod.fst ++ trL S 2 S.x.nx m (S.x.tr.toNat - m) = storyP S ∧ ps.length ≤ 1 + 2 * m ∧ LB wx w.heap.size 25 D ∧ Below w.heap.size w wx) (fun _ i _ => S.x.tr.toNat + 1 - (intOf i).toNat)
    case atStart => exact ⟨0, _, rfl, Nat.zero_le _, H3.out.2.2, by rw [HST.out]; simp, by simp, H3.out.1, H3.out.2.1⟩
    case round =>
      obtain ⟨m, ps, rfl, hm, ho, he, hpl, lb, bl⟩ := hrel
      have HC : Hid (OutT w.heap.size wr u3 ps ∧ LB wr w.heap.size 25 D ∧ Below w.heap.size w wr) := ⟨ho, lb, bl⟩
      have HEQ : Hid (ps.map Prod.fst ++ trL S 2 S.x.nx m (S.x.tr.toNat - m) = storyP S) := he
      clear ho lb bl he H3
      have c10 := HC.out.2.1.cell 10 (.int .i64 S.x.tr) (by rw [HE.out]; rfl)
      by_cases hlt : m < S.x.tr.toNat
      · obtain ⟨n, hnn⟩ : ∃ n, S.x.tr.toNat - m = n + 1 := ⟨S.x.tr.toNat - m - 1, by omega⟩
        have hn2 : S.x.tr.toNat - (m + 1) = n := by omega
        rw [hnn, trR_step] at HEQ
        have d1 : decide ((m : Int) + 1 ≤ S.x.tr) = true := by simp; omega
        have c0 := HC.out.2.1.cell 0 (.int .i64 S.x.id) (by rw [HE.out]; rfl)
        have c5 := HC.out.2.1.cell 5 (.int .i64 S.x.la) (by rw [HE.out]; rfl)
        go_wp2_with (at_builtin; refine wpList_append_recT rfl (.tmp 138) (.tmp 147) 52 rfl w.heap.size hin Tryz.underlying52 u3 ps (stR S 2 S.x.nx ((m : Int) + 1) 0 0 [], .slice none 0 0) rfl (HC.out.1.kept (up0 _ _)) _ rfl (lb_new wr [.int .i64 3, .int .i64 2, .int .i64 S.x.id, .int .i64 S.x.nx, .int .i64 ((m : Int) + 1), .int .i64 S.x.la, .int .i64 0, .int .i64 0, .int .i64 0, .int .i64 0, .string ⟨#[]⟩, .slice none 0 0] 27).range (Own.nil _ _) (by omega) (up HC.out.2.2 _).size ?_)
        intro v2 w2 o2 b2 g2
        have H4 : Hid (OutT w.heap.size w2 v2 (ps ++ [(stR S 2 S.x.nx ((m : Int) + 1) 0 0 [], .slice none 0 0)]) ∧ LB w2 w.heap.size 25 D ∧ Below w.heap.size w w2) := ⟨o2, lb_grown (HC.out.2.1.kept (up0 _ _)) (HC.out.1.kept (up0 _ _)) g2 (by decide), (up HC.out.2.2 _).trans b2⟩
        clear o2 b2 g2 HC c10 d1 c0 c5
        have c10 := H4.out.2.1.cell 10 (.int .i64 S.x.tr) (by rw [HE.out]; rfl)
        by_cases hn0 : n = 0
        · have d2 : decide ((m : Int) + 1 < S.x.tr) = false := by simp; omega
          cases hfl : S.x.fl with
          | true =>
            have c9 := H4.out.2.1.cell 9 (.bool true) (by rw [HE.out, ← hfl]; rfl)
            rw [if_neg (by simp [hn0, hfl])] at HEQ
            go_wp2
            go_roundw
            case rel => exact ⟨m + 1, _, by go_num, by omega, H4.out.1, by rw [hn2, ← HEQ.out]; simp, by simp; omega, H4.out.2.1, H4.out.2.2⟩
            case measure => simp [intOf]; omega
          | false =>
            have c9 := H4.out.2.1.cell 9 (.bool false) (by rw [HE.out, ← hfl]; rfl)
            rw [if_pos (.inr hfl)] at HEQ
            have c0 := H4.out.2.1.cell 0 (.int .i64 S.x.id) (by rw [HE.out]; rfl)
            have c5 := H4.out.2.1.cell 5 (.int .i64 S.x.la) (by rw [HE.out]; rfl)
            go_wp2_with (at_builtin; refine wpList_append_recT rfl (.tmp 158) (.tmp 165) 52 rfl w.heap.size hin Tryz.underlying52 v2 (ps ++ [(stR S 2 S.x.nx ((m : Int) + 1) 0 0 [], .slice none 0 0)]) (stR S 4 S.x.nx 0 0 0 [], .slice none 0 0) rfl (H4.out.1.kept (up0 _ _)) _ rfl (lb_new w2 [.int .i64 3, .int .i64 4, .int .i64 S.x.id, .int .i64 S.x.nx, .int .i64 0, .int .i64 S.x.la, .int .i64 0, .int .i64 0, .int .i64 0, .int .i64 0, .string ⟨#[]⟩, .slice none 0 0] 27).range (Own.nil _ _) (by simp; omega) (up H4.out.2.2 _).size ?_)
            intro v4 w4 o4 b4 g4
            have H5 : Hid (OutT w.heap.size w4 v4 (ps ++ [(stR S 2 S.x.nx ((m : Int) + 1) 0 0 [], .slice none 0 0)] ++ [(stR S 4 S.x.nx 0 0 0 [], .slice none 0 0)]) ∧ LB w4 w.heap.size 25 D ∧ Below w.heap.size w w4) := ⟨by rw [List.append_assoc]; exact o4, lb_grown (H4.out.2.1.kept (up0 _ _)) (H4.out.1.kept (up0 _ _)) g4 (by decide), (up H4.out.2.2 _).trans b4⟩
            clear o4 b4 g4 H4 c10 c9 c0 c5
            go_wp2
            go_roundw
            case rel => exact ⟨m + 1, _, by go_num, by omega, H5.out.1, by rw [hn2, ← HEQ.out]; simp, by simp; omega, H5.out.2.1, H5.out.2.2⟩
            case measure => simp [intOf]; omega
        · have d2 : decide ((m : Int) + 1 < S.x.tr) = true := by simp; omega
          rw [if_pos (.inl hn0)] at HEQ
          have c0 := H4.out.2.1.cell 0 (.int .i64 S.x.id) (by rw [HE.out]; rfl)
          have c5 := H4.out.2.1.cell 5 (.int .i64 S.x.la) (by rw [HE.out]; rfl)
          go_wp2_with (at_builtin; refine wpList_append_recT rfl (.tmp 158) (.tmp 165) 52 rfl w.heap.size hin Tryz.underlying52 v2 (ps ++ [(stR S 2 S.x.nx ((m : Int) + 1) 0 0 [], .slice none 0 0)]) (stR S 4 S.x.nx 0 0 0 [], .slice none 0 0) rfl (H4.out.1.kept (up0 _ _)) _ rfl (lb_new w2 [.int .i64 3, .int .i64 4, .int .i64 S.x.id, .int .i64 S.x.nx, .int .i64 0, .int .i64 S.x.la, .int .i64 0, .int .i64 0, .int .i64 0, .int .i64 0, .string ⟨#[]⟩, .slice none 0 0] 27).range (Own.nil _ _) (by simp; omega) (up H4.out.2.2 _).size ?_)
          intro v4 w4 o4 b4 g4
          have H5 : Hid (OutT w.heap.size w4 v4 (ps ++ [(stR S 2 S.x.nx ((m : Int) + 1) 0 0 [], .slice none 0 0)] ++ [(stR S 4 S.x.nx 0 0 0 [], .slice none 0 0)]) ∧ LB w4 w.heap.size 25 D ∧ Below w.heap.size w w4) := ⟨by rw [List.append_assoc]; exact o4, lb_grown (H4.out.2.1.kept (up0 _ _)) (H4.out.1.kept (up0 _ _)) g4 (by decide), (up H4.out.2.2 _).trans b4⟩
          clear o4 b4 g4 H4 c10 c0 c5
          go_wp2
          go_roundw
          case rel => exact ⟨m + 1, _, by go_num, by omega, H5.out.1, by rw [hn2, ← HEQ.out]; simp, by simp; omega, H5.out.2.1, H5.out.2.2⟩
          case measure => simp [intOf]; omega
      · obtain rfl : m = S.x.tr.toNat := by omega
        have d1 : decide (((S.x.tr.toNat : Nat) : Int) + 1 ≤ S.x.tr) = false := by simp; omega
        have c7 := HC.out.2.1.cell 7 (.int .i64 1) (by rw [HE.out, ← hp]; rfl)
        have hfin : ps.map Prod.fst = storyP S := by
          have := HEQ.out
          rw [Nat.sub_self] at this
          simpa [trL] using this
        go_wp2
        go_ret
        exact ⟨_, ps, rfl, HC.out.1, hfin, HC.out.2.2⟩
end Go.Proofs.YtgjlkkikgkbamaaGreatDoor
