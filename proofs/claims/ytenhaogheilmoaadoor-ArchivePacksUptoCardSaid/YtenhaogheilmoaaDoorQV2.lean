import Derived.Test.YtenhaogheilmoaaDoorQV1
import Derived.Test.YtenhaogheilmoaaDoorQW2
import Derived.Test.YtenhaogheilmoaaDoorQS1
import Derived.Test.YtenhaogheilmoaaDoorQE1
/-
  Package archive: sumOf, frame.
-/
namespace Go.Proofs.YtenhaogheilmoaaDoor
open Go Go.RowKit
open Wb

/-- a sum's four bytes, as an array by value -/
def s4v (s : Nat) : List Value := [.int .u8 ((s : Int) % 256), .int .u8 ((s : Int) / 256 % 256), .int .u8 ((s : Int) / 65536 % 256), .int .u8 ((s : Int) / 16777216 % 256)]
set_option maxRecDepth 100000 in
theorem arsum_any (v : Value) (l : List Nat) (w : World) (hT : Tab w) (h : Bs w v l) : Calls Tryd.prog 19 #[v] w fun e w' => e = .returned (.agg (s4v (Wm.crc l)).toArray) ∧ Below w.heap.size w w' := by
  have hz : Wm.crc l < 4294967296 := Wm.crc_lt l h.good
  have HS : Hid (∀ o W, W = (w.alloc o).alloc (.cells #[v] 25) → Calls Tryd.prog 38 #[.slice (some ⟨w.heap.size + 1, 0, none⟩) 1 1] W fun e w' => e = .returned (.int .u32 (Wm.crc l : Nat)) ∧ w' = W) := fun o W hW => by
    subst hW
    have e := sum_any (.slice (some ⟨w.heap.size + 1, 0, none⟩) 1 1) [l] ((w.alloc o).alloc (.cells #[v] 25)) (hT.kept (up (up0 _ _) _)) (ps1 (w.alloc o) (w.heap.size + 1) (by rw [heap_one]) 25 (h.kept (up0 _ _)))
    simpa using e
  generalize Wm.crc l = s at *
  obtain ⟨ao, cap, rfl, -⟩ := h.shape
  clear hT h
  go_enter Tryd.func19, Tryd.ntmps19
  go_wp2_with fail
  refine (HS.out _ _ rfl).mono ?_
  rintro e w1 ⟨rfl, rfl⟩
  go_wp2_with fail
  refine bodyPost_ret (by simp [results, Tryd.results19, go_sem]; try rfl) rfl ?_
  refine ⟨?_, up (up0 _ _) _⟩
  rw [show s4v s = [.int .u8 ((s : Int) % 256), .int .u8 ((s : Int) / 256 % 256), .int .u8 ((s : Int) / 65536 % 256), .int .u8 ((s : Int) / 16777216)] by
    unfold s4v
    rw [show (s : Int) / 16777216 % 256 = (s : Int) / 16777216 by omega]]
theorem listedQ {α : Type} {p : Nat → α → Prop} : ∀ n, (∀ k, k < n → ∃ a, p k a) → ∃ l : List α, l.length = n ∧ ∀ k a, l[k]? = some a → p k a
  | 0, _ => ⟨[], rfl, fun k a h => by simp at h⟩
  | n + 1, h => by
    obtain ⟨l, hl, hp⟩ := listedQ n (fun k hk => h k (by omega))
    obtain ⟨a, ha⟩ := h n (by omega)
    refine ⟨l ++ [a], by simp [hl], fun k b hb => ?_⟩
    by_cases hk : k < n
    · rw [List.getElem?_append_left (by omega)] at hb
      exact hp k b hb
    · rw [List.getElem?_append_right (by omega)] at hb
      obtain rfl : k = n := by
        have := (List.getElem?_eq_some_iff.1 hb).1
        simp at this
        omega
      rw [hl] at hb
      simp at hb
      exact hb ▸ ha
theorem infoBSA : (Tryd.prog.info? 25).map (fun i => (i.zero, i.size, i.bytes)) = some (some (.slice none 0 0), 1, 24) := by kernel_rfl
theorem own_weak {B B2 : Nat} {w : World} {v : Value} {l : List Nat} (h : Own B2 w v l) (hB : B ≤ B2) : Own B w v l := by
  refine ⟨⟨h.row.1, ?_⟩, h.good⟩
  rcases h.row.2 with h1 | ⟨g, cap, cur, e, hb, rest⟩
  · exact .inl h1
  · exact .inr ⟨g, cap, cur, e, Nat.le_trans hB hb, rest⟩
/-- append of a list of slices to one slice in a new row -/
theorem wpList_appS {P : Program} (w : World) {ops : Array Oper} {rest : List Oper} {o : Oper} {a : Act} {Q : Exit → Act → World → Prop} (hgd : o.guard = none) (s x : Operand) (e t : TypeId)
    (ho : o.op = .call { callee := .builtin .append, args := #[s, x], argTypes := #[t, t] })
    (B : Nat) (z : Value) (by_ : Nat) (hinfo : (P.info? e).map (fun i => (i.zero, i.size, i.bytes)) = some (some z, 1, by_)) (hz : z.cells.size = 1) (hby : by_ ≤ 64) (ht : P.underlying t = some (.slice e))
    (v : Value) (n : Nat) (xs : List Value) (hv : a.eval s = v) (h : w.ownsRow B e 1 v n xs) (g off m c : Nat) (D : List Value) (hxe : a.eval x = .slice (some ⟨g, off, none⟩) m c) (hD : D.length = m) (hc : w.rangeAt g off D) (hone : ∀ u ∈ D, u.oneCell' = true) (hmax : n + m ≤ 1000000) (hB : B ≤ w.heap.size)
    (hK : ∀ v' w', w'.ownsRow B e 1 v' (n + m) (xs ++ D) → w.grownBy w' v.ownBlock → wpList P ops Q rest (a.put o.dst v') w') : wpList P ops Q (o :: rest) a w := by
  obtain ⟨i0, hi, hq⟩ := Option.map_eq_some_iff.1 hinfo
  simp only [Prod.mk.injEq] at hq
  have hbb : (n + m) * by_ ≤ 1000000 * 64 := Nat.mul_le_mul hmax hby
  obtain ⟨v', w', hr, h1, h2, _⟩ := run_append_own (P := P) w B t o.type e i0 z 1 by_ ht hi hq.1 hq.2.1 hq.2.2 hz (by omega) v n xs h ⟨g, off, none⟩ m c D (by omega) (fun j u hj => by
    rw [Addr.add_lit]
    exact hc j u hj) hone (by unfold maxLen; omega) (by omega) hB
  refine wpList_plain hgd fun _ hK' => ?_
  unfold Oper.wp
  simp [execOp, ho, resolve, invoke, builtin, hv, hxe, hr, Result.andThen]
  exact hK' _ _ (hK v' w' h1 h2)
set_option maxRecDepth 100000 in
set_option maxHeartbeats 4000000 in
theorem arframe_any (ch : Nat) (hc : ch < 256) (pv : Value) (ls : List (List Nat)) (w : World) (hT : Tab w) (hp : Ps w pv ls) (hne : ls ≠ []) (hn : ls.length ≤ 1000) (hl : ls.flatten.length ≤ 1048575) : Calls Tryd.prog 16 #[.int .u8 (ch : Int), pv] w fun e w' => ∃ v', e = .returned v' ∧ Own w.heap.size w' v' (fr (ch :: ls.flatten)) ∧ Below w.heap.size w w' := by
  obtain ⟨ao, cap, rfl, hm, hcl⟩ := hp.shape
  obtain ⟨b, off, rfl, hcell⟩ := hcl hne
  obtain ⟨vs, hvl, hvs⟩ := listedQ (p := fun j v => w.cell? ⟨b, off + j, none⟩ = some v ∧ ∃ h : j < ls.length, Bs w v ls[j]) ls.length (fun j hj => by
    obtain ⟨v, h1, h2⟩ := hcell j hj
    exact ⟨v, h1, hj, h2⟩)
  obtain ⟨W, hW⟩ : ∃ W, W = (w.alloc (.cells #[.int .u8 (ch : Int)] 5)).alloc (.cells #[.slice (some ⟨w.heap.size, 0, none⟩) 1 1] 25) := ⟨_, rfl⟩
  have hsz : W.heap.size = w.heap.size + 2 := by rw [hW, heap_one, heap_one]
  have hbW : Below w.heap.size w W := by rw [hW]; exact up (up0 _ _) _
  have H0 : Hid (∀ X, X = (w.alloc (.cells #[.int .u8 (ch : Int)] 5)).alloc (.cells #[.slice (some ⟨w.heap.size, 0, none⟩) 1 1] 25) → X.ownsRow w.heap.size 25 1 (.slice (some ⟨w.heap.size + 1, 0, none⟩) 1 1) 1 [.slice (some ⟨w.heap.size, 0, none⟩) 1 1] ∧ X.rangeAt b off vs ∧ w.heap.size ≤ X.heap.size) := fun X hX => by
    subst hX
    rw [← hW]
    refine ⟨⟨rfl, .inr ⟨w.heap.size + 1, 1, #[.slice (some ⟨w.heap.size, 0, none⟩) 1 1], rfl, by omega, ?_, Nat.le_refl _, by simp [maxLen], rfl, rfl⟩⟩, fun j u hj => ?_, by omega⟩
    · have e := lb_new (w.alloc (.cells #[.int .u8 (ch : Int)] 5)) [.slice (some ⟨w.heap.size, 0, none⟩) 1 1] 25
      rw [heap_one, ← hW] at e
      exact e
    · have e := (hvs j u hj).1
      exact (hbW.cell (p := ⟨b, off + j, none⟩) (World.block_lt_of_cell? _ _ e)).trans e
  have hone : Hid (∀ u ∈ vs, u.oneCell' = true) := fun u hu => by
    obtain ⟨j, hj⟩ := List.mem_iff_getElem?.1 hu
    obtain ⟨-, h1, h2⟩ := hvs j u hj
    obtain ⟨ao, c0, rfl, -⟩ := h2.shape
    rfl
  have HF : Hid (∀ v' w', w'.ownsRow w.heap.size 25 1 v' (1 + ls.length) ([.slice (some ⟨w.heap.size, 0, none⟩) 1 1] ++ vs) → W.grownBy w' (some (w.heap.size + 1)) → Calls Tryd.prog 36 #[v'] w' fun e w'' => ∃ v2, e = .returned (.tuple #[v2, .int .i64 0]) ∧ Own w.heap.size w'' v2 (fr (ch :: ls.flatten)) ∧ Below w.heap.size w w'') := fun v' w' hr hg => by
    have hbw : Below w.heap.size w w' := hbW.grown hg (by omega) (fun k hk => by injection hk with hk; omega)
    have hP : Ps w' v' ([ch] :: ls) := by
      rcases hr.2 with ⟨_, h1⟩ | ⟨g, cap2, cur, rfl, h2, h3, h4, h5, h6, h7⟩
      · omega
      refine ⟨some ⟨g, 0, none⟩, cap2, by rw [List.length_cons, Nat.add_comm], by rw [List.length_cons]; unfold maxLen; omega, fun _ => ⟨g, 0, rfl, fun j hj => ?_⟩⟩
      have hca := World.ownsRow.cellAt hr j (by rw [List.length_cons] at hj; omega)
      rw [Nat.zero_add, hca]
      match j, hj with
      | 0, _ =>
        refine ⟨_, rfl, ?_⟩
        have o1 : LB w' w.heap.size 5 [.int .u8 (ch : Int)] := by
          refine (hg.block _ (by omega) (fun e => by injection e with e; omega)).trans ?_
          rw [hW]
          exact (lb_new w [.int .u8 (ch : Int)] 5).kept (up0 _ _)
        refine ⟨⟨some ⟨w.heap.size, 0, none⟩, 1, rfl, Nat.le_refl _, by simp [maxLen], fun e => (by cases e), fun _ => ⟨w.heap.size, 0, rfl, fun j hj => ?_⟩⟩, fun x hx => by rw [List.mem_singleton.1 hx]; exact hc⟩
        obtain rfl : j = 0 := by have : j < 1 := hj; omega
        exact o1.cell 0 _ rfl
      | j + 1, hj =>
        rw [List.length_cons] at hj
        have hjv : j < vs.length := by omega
        refine ⟨vs[j], by rw [List.singleton_append, List.getElem?_cons_succ, List.getElem?_eq_getElem hjv], ?_⟩
        obtain ⟨-, h1, h2⟩ := hvs j vs[j] (List.getElem?_eq_getElem hjv)
        exact h2.kept hbw
    have hfl : ([ch] :: ls).flatten = ch :: ls.flatten := rfl
    refine (frame_ok v' ([ch] :: ls) w' (hT.kept hbw) hP (by rw [hfl, List.length_cons]; omega) (by rw [hfl]; simp)).mono ?_
    rintro e w2 ⟨v2, rfl, o2, b2⟩
    exact ⟨v2, rfl, own_weak o2 hbw.size, andThen hbw b2⟩
  have HW : Hid _ := hW
  clear hp hcl hcell hvs hT hbW hsz hW
  go_enter Tryd.func16, Tryd.ntmps16
  go_wp2_with (at_builtin; refine wpList_appS _ rfl (.tmp 10) (.tmp 11) 25 36 rfl w.heap.size _ 24 infoBSA rfl (by decide) Tryd.underlying36 _ 1 _ rfl (H0.out _ rfl).1 b off ls.length cap vs rfl hvl (H0.out _ rfl).2.1 hone.out (by omega) (H0.out _ rfl).2.2 ?_)
  intro v' w' hr hg
  rw [← HW.out] at hg
  have H1 : Hid (Calls Tryd.prog 36 #[v'] w' fun e w'' => ∃ v2, e = .returned (.tuple #[v2, .int .i64 0]) ∧ Own w.heap.size w'' v2 (fr (ch :: ls.flatten)) ∧ Below w.heap.size w w'') := HF.out v' w' hr hg
  clear hr hg HF H0
  go_wp2_with fail
  refine H1.out.mono ?_
  rintro e w2 ⟨v2, rfl, o2, b2⟩
  go_wp2_with fail
  go_ret
  exact ⟨v2, rfl, o2, b2⟩
end Go.Proofs.YtenhaogheilmoaaDoor

/-
  Records in a row of the call's own, their data in rows of their own; one more behind them.
-/
namespace Go.Proofs.YtenhaogheilmoaaDoor
open Go Go.RowKit
open Wb

theorem own_keptB {B : Nat} {w w' : World} {d : Value} {l : List Nat} (h : Own B w d l) (hb : ∀ g, d.ownBlock = some g → w'.heap[g]? = w.heap[g]?) : Own B w' d l := by
  refine ⟨⟨h.row.1, ?_⟩, h.good⟩
  rcases h.row.2 with h1 | ⟨g, cap, cur, rfl, h1, hg, rest⟩
  · exact .inl h1
  · exact .inr ⟨g, cap, cur, rfl, h1, (hb g rfl).trans hg, rest⟩
/-- where a row of the call's own lies -/
theorem own_block {B : Nat} {w : World} {d : Value} {l : List Nat} (h : Own B w d l) (g : Nat) (e : d.ownBlock = some g) : B ≤ g ∧ g < w.heap.size := by
  rcases h.row.2 with ⟨rfl, _⟩ | ⟨g', cap, cur, rfl, h1, hg, _⟩
  · simp [Value.ownBlock] at e
  · simp [Value.ownBlock] at e
    subst e
    exact ⟨h1, (Array.getElem?_eq_some_iff.1 hg).1⟩
/-- records told, in a row of its own, their data in rows of their own -/
def OutT (B : Nat) (w : World) (v : Value) (ps : List (Rec × Value)) : Prop := w.ownsRow B 44 12 v ps.length (ps.flatMap rcl) ∧ ∀ p ∈ ps, Own B w p.2 p.1.l
theorem OutT.nil (B : Nat) (w : World) : OutT B w (.slice none 0 0) [] := ⟨World.ownsRow_nil _ _ _ _, fun _ h => by cases h⟩
theorem OutT.kept {B : Nat} {w w' : World} {v : Value} {ps : List (Rec × Value)} (h : OutT B w v ps) (hb : Below w.heap.size w w') : OutT B w' v ps := ⟨ownsRec_kept h.1 hb, fun p hp => (h.2 p hp).kept hb⟩
theorem rrow_typed {B : Nat} {w : World} {v : Value} {n : Nat} {cs : List Value} (h : w.ownsRow B 44 12 v n cs) (b : Nat) (e : v.ownBlock = some b) : ∃ cs z, w.heap[b]? = some (.cells cs 44 z) := by
  rcases h.2 with ⟨rfl, _⟩ | ⟨g', cap, cur, rfl, _, hg', _⟩
  · simp [Value.ownBlock] at e
  · simp [Value.ownBlock] at e
    subst e
    exact ⟨_, _, hg'⟩
theorem rrow_kept2 {B : Nat} {w w' : World} {v : Value} {n : Nat} {cs : List Value} (h : w.ownsRow B 44 12 v n cs) (hb : ∀ g, v.ownBlock = some g → w'.heap[g]? = w.heap[g]?) : w'.ownsRow B 44 12 v n cs := by
  refine ⟨h.1, ?_⟩
  rcases h.2 with h1 | ⟨g, cap, cur, rfl, h1, hg, rest⟩
  · exact .inl h1
  · exact .inr ⟨g, cap, cur, rfl, h1, (hb g rfl).trans hg, rest⟩
theorem own_typed {B : Nat} {w : World} {d : Value} {l : List Nat} (h : Own B w d l) (b : Nat) (e : d.ownBlock = some b) : ∃ cs z, w.heap[b]? = some (.cells cs 5 z) := by
  rcases h.row.2 with ⟨e3, _⟩ | ⟨g', cap, cur, e3, _, hg', _⟩
  · rw [e3] at e; simp [Value.ownBlock] at e
  · rw [e3] at e; simp [Value.ownBlock] at e; subst e; exact ⟨_, _, hg'⟩
/-- every block but this one stays -/
def ExT (t : Nat) (w w' : World) : Prop := ∀ b, b ≠ t → b < w.heap.size → w'.heap[b]? = w.heap[b]?
theorem OutT.but {B : Nat} {w w' : World} {v : Value} {ps : List (Rec × Value)} {t : Nat} {ty : TypeId} {C : List Value} (h : OutT B w v ps) (L : LB w t ty C) (h1 : ty ≠ 44) (h2 : ty ≠ 5) (ho : ExT t w w') : OutT B w' v ps :=
  ⟨rrow_kept2 h.1 fun g e => ho g (by rintro rfl; obtain ⟨cs, z, h9⟩ := rrow_typed h.1 g e; rw [L] at h9; simp at h9; exact h1 h9.2.1) (World.ownsRow.lt h.1 g e).2,
   fun p hp => own_keptB (h.2 p hp) fun g e => ho g (by rintro rfl; obtain ⟨cs, z, h9⟩ := own_typed (h.2 p hp) g e; rw [L] at h9; simp at h9; exact h2 h9.2.1) (own_block (h.2 p hp) g e).2⟩
/-- what is no row of records and no such block stays -/
def Fr (t : Nat) (w w' : World) : Prop := ∀ b ty C, b ≠ t → ty ≠ 44 → LB w b ty C → LB w' b ty C
theorem Fr.trans {t : Nat} {w w' w'' : World} (h : Fr t w w') (h2 : Fr t w' w'') : Fr t w w'' := fun b ty C h1 h3 h4 => h2 b ty C h1 h3 (h b ty C h1 h3 h4)
theorem Fr.below {t : Nat} {w w' : World} (h : Below w.heap.size w w') : Fr t w w' := fun _ _ _ _ _ h4 => h4.kept h
theorem Fr.ext {t : Nat} {w w' : World} (h : ExT t w w') : Fr t w w' := fun b _ _ h1 _ h4 => (h b h1 h4.lt).trans h4
/-- append(v, x) of one record, as one step of a region that draws its order -/
theorem step_append_rec {P : Program} {ops : Array Oper} {o : Oper} {a : Act} {w : World} {K : Act → World → Prop} {Q : Exit → Act → World → Prop} {E : Prop} (hgd : o.guard = none) (s x : Operand) (t : TypeId)
    (ho : o.op = .call { callee := .builtin .append, args := #[s, x], argTypes := #[t, t] })
    (B : Nat) (hinfo : (P.info? 44).map (fun i => (i.zero, i.size, i.bytes)) = some (some (.agg #[.int .i64 0, .int .i64 0, .int .i64 0, .int .i64 0, .int .i64 0, .int .i64 0, .int .i64 0, .int .i64 0, .int .i64 0, .int .i64 0, .string ⟨#[]⟩, .slice none 0 0]), 12, 120)) (ht : P.underlying t = some (.slice 44))
    (v : Value) (ps : List (Rec × Value)) (q : Rec × Value) (hv : a.eval s = v) (h : OutT B w v ps) (g : Nat) (hx : a.eval x = .slice (some ⟨g, 0, none⟩) 1 1)
    (hc : w.rangeAt g 0 (rcl q)) (hq2 : Own B w q.2 q.1.l)
    (hmax : (ps.length + 1) * 120 ≤ 140737488355328) (hB : B ≤ w.heap.size)
    (hK : ∀ v' w', OutT B w' v' (ps ++ [q]) → Below B w w' → w.grownBy w' v.ownBlock → K (a.put o.dst v') w') :
    if Region.wanted o (yielded ops a.tmps) = true then Oper.wp P o a w K Q else E := by
  have hw : Region.wanted o (yielded ops a.tmps) = true := by simp [Region.wanted, hgd]
  rw [if_pos hw]
  obtain ⟨i0, hi, hz0, hz1, hz2⟩ := Lft.info_parts3 hinfo
  have hq : q.2.oneCell' = true := by rcases hq2.shape with ⟨e, _⟩ | ⟨_, _, e, _⟩ <;> (rw [e]; rfl)
  obtain ⟨v', w', hrun, h2, h3, _⟩ := run_append_own (P := P) w B t o.type 44 i0 _ 12 120 ht hi hz0 hz1 hz2 rfl (by decide) v ps.length (ps.flatMap rcl) h.1 ⟨g, 0, none⟩ 1 1 (rcl q) rfl (by
    intro j u hj
    have := hc j u hj
    rw [Addr.add_lit]
    exact this) (by
    intro u hu
    simp only [rcl, List.mem_cons, List.not_mem_nil, or_false] at hu
    rcases hu with rfl | rfl | rfl | rfl | rfl | rfl | rfl | rfl | rfl | rfl | rfl | rfl
    all_goals first | rfl | exact hq) (by unfold maxLen; omega) (by omega) hB
  unfold Oper.wp
  simp [execOp, ho, resolve, invoke, builtin, hv, hx, hrun, Result.andThen]
  have hown : w'.ownsRow B 44 12 v' (ps ++ [q]).length ((ps ++ [q]).flatMap rcl) := by
    rw [List.length_append, List.flatMap_append]
    simpa using h2
  have hne : ∀ (d : Value) (l : List Nat), Own B w d l → Own B w' d l := fun d l hd => own_keptB hd fun b e => h3.block b (own_block hd b e).2 fun e2 => by
    obtain ⟨cs, z, h8⟩ := own_typed hd b e
    obtain ⟨cs', z', h9⟩ := rrow_typed h.1 b e2.symm
    rw [h8] at h9
    simp at h9
  refine hK v' w' ⟨hown, fun p hp => ?_⟩ ((Below.refl B w).grown h3 hB (fun k hk => (World.ownsRow.lt h.1 k hk).1)) h3
  rcases List.mem_append.1 hp with hp | hp
  · exact hne _ _ (h.2 p hp)
  · obtain rfl := List.mem_singleton.1 hp
    exact hne _ _ hq2
end Go.Proofs.YtenhaogheilmoaaDoor
