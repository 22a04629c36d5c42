import Derived.Test.YtdnackjakfiffaaGreatDoorQS7
import Derived.Test.YtdnackjakfiffaaGreatDoorQE1
/-
  Package saga: Story's teller: tell.
-/
namespace Go.Proofs.YtdnackjakfiffaaGreatDoor
open Go Go.RowKit
open Wb

/-- records told, in a row of its own, their data in rows of their own -/
def OutT (B : Nat) (w : World) (v : Value) (ps : List (Rec × Value)) : Prop := w.ownsRow B 32 12 v ps.length (ps.flatMap rcl) ∧ ∀ p ∈ ps, Own B w p.2 p.1.l
theorem OutT.nil (B : Nat) (w : World) : OutT B w (.slice none 0 0) [] := ⟨World.ownsRow_nil _ _ _ _, fun _ h => by cases h⟩
theorem OutT.kept {B : Nat} {w w' : World} {v : Value} {ps : List (Rec × Value)} (h : OutT B w v ps) (hb : Below w.heap.size w w') : OutT B w' v ps := ⟨ownsRec_kept h.1 hb, fun p hp => (h.2 p hp).kept hb⟩
theorem rrow_typed {B : Nat} {w : World} {v : Value} {n : Nat} {cs : List Value} (h : w.ownsRow B 32 12 v n cs) (b : Nat) (e : v.ownBlock = some b) : ∃ cs z, w.heap[b]? = some (.cells cs 32 z) := by
  rcases h.2 with ⟨rfl, _⟩ | ⟨g', cap, cur, rfl, _, hg', _⟩
  · simp [Value.ownBlock] at e
  · simp [Value.ownBlock] at e
    subst e
    exact ⟨_, _, hg'⟩
theorem rrow_kept2 {B : Nat} {w w' : World} {v : Value} {n : Nat} {cs : List Value} (h : w.ownsRow B 32 12 v n cs) (hb : ∀ g, v.ownBlock = some g → w'.heap[g]? = w.heap[g]?) : w'.ownsRow B 32 12 v n cs := by
  refine ⟨h.1, ?_⟩
  rcases h.2 with h1 | ⟨g, cap, cur, rfl, h1, hg, rest⟩
  · exact .inl h1
  · exact .inr ⟨g, cap, cur, rfl, h1, (hb g rfl).trans hg, rest⟩
theorem own_typed {B : Nat} {w : World} {d : Value} {l : List Nat} (h : Own B w d l) (b : Nat) (e : d.ownBlock = some b) : ∃ cs z, w.heap[b]? = some (.cells cs 5 z) := by
  rcases h.row.2 with ⟨e3, _⟩ | ⟨g', cap, cur, e3, _, hg', _⟩
  · rw [e3] at e; simp [Value.ownBlock] at e
  · rw [e3] at e; simp [Value.ownBlock] at e; subst e; exact ⟨_, _, hg'⟩
/-- every block but this one stays -/
def ExT (t : Nat) (w w' : World) : Prop := ∀ b, b ≠ t → b < w.heap.size → w'.heap[b]? = w.heap[b]?
theorem OutT.but {B : Nat} {w w' : World} {v : Value} {ps : List (Rec × Value)} {t : Nat} {ty : TypeId} {C : List Value} (h : OutT B w v ps) (L : LB w t ty C) (h1 : ty ≠ 32) (h2 : ty ≠ 5) (ho : ExT t w w') : OutT B w' v ps :=
  ⟨rrow_kept2 h.1 fun g e => ho g (by rintro rfl; obtain ⟨cs, z, h9⟩ := rrow_typed h.1 g e; rw [L] at h9; simp at h9; exact h1 h9.2.1) (World.ownsRow.lt h.1 g e).2,
   fun p hp => own_keptB (h.2 p hp) fun g e => ho g (by rintro rfl; obtain ⟨cs, z, h9⟩ := own_typed (h.2 p hp) g e; rw [L] at h9; simp at h9; exact h2 h9.2.1) (own_block (h.2 p hp) g e).2⟩
/-- what is no row of records and no such block stays -/
def Fr (t : Nat) (w w' : World) : Prop := ∀ b ty C, b ≠ t → ty ≠ 32 → LB w b ty C → LB w' b ty C
theorem Fr.trans {t : Nat} {w w' w'' : World} (h : Fr t w w') (h2 : Fr t w' w'') : Fr t w w'' := fun b ty C h1 h3 h4 => h2 b ty C h1 h3 (h b ty C h1 h3 h4)
theorem Fr.below {t : Nat} {w w' : World} (h : Below w.heap.size w w') : Fr t w w' := fun _ _ _ _ _ h4 => h4.kept h
theorem Fr.ext {t : Nat} {w w' : World} (h : ExT t w w') : Fr t w w' := fun b _ _ h1 _ h4 => (h b h1 h4.lt).trans h4
/-- append(v, x) of one record, as one step of a region that draws its order -/
theorem step_append_rec {P : Program} {ops : Array Oper} {o : Oper} {a : Act} {w : World} {K : Act → World → Prop} {Q : Exit → Act → World → Prop} {E : Prop} (hgd : o.guard = none) (s x : Operand) (t : TypeId)
    (ho : o.op = .call { callee := .builtin .append, args := #[s, x], argTypes := #[t, t] })
    (B : Nat) (hinfo : (P.info? 32).map (fun i => (i.zero, i.size, i.bytes)) = some (some (.agg #[.int .i64 0, .int .i64 0, .int .i64 0, .int .i64 0, .int .i64 0, .int .i64 0, .int .i64 0, .int .i64 0, .int .i64 0, .int .i64 0, .string ⟨#[]⟩, .slice none 0 0]), 12, 120)) (ht : P.underlying t = some (.slice 32))
    (v : Value) (ps : List (Rec × Value)) (q : Rec × Value) (hv : a.eval s = v) (h : OutT B w v ps) (g : Nat) (hx : a.eval x = .slice (some ⟨g, 0, none⟩) 1 1)
    (hc : w.rangeAt g 0 (rcl q)) (hq2 : Own B w q.2 q.1.l)
    (hmax : (ps.length + 1) * 120 ≤ 140737488355328) (hB : B ≤ w.heap.size)
    (hK : ∀ v' w', OutT B w' v' (ps ++ [q]) → Below B w w' → w.grownBy w' v.ownBlock → K (a.put o.dst v') w') :
    if Region.wanted o (yielded ops a.tmps) = true then Oper.wp P o a w K Q else E := by
  have hw : Region.wanted o (yielded ops a.tmps) = true := by simp [Region.wanted, hgd]
  rw [if_pos hw]
  obtain ⟨i0, hi, hz0, hz1, hz2⟩ := Lft.info_parts3 hinfo
  have hq : q.2.oneCell' = true := by rcases hq2.shape with ⟨e, _⟩ | ⟨_, _, e, _⟩ <;> (rw [e]; rfl)
  obtain ⟨v', w', hrun, h2, h3, _⟩ := run_append_own (P := P) w B t o.type 32 i0 _ 12 120 ht hi hz0 hz1 hz2 rfl (by decide) v ps.length (ps.flatMap rcl) h.1 ⟨g, 0, none⟩ 1 1 (rcl q) rfl (by
    intro j u hj
    have := hc j u hj
    rw [Addr.add_lit]
    exact this) (by
    intro u hu
    simp only [rcl, List.mem_cons, List.not_mem_nil, or_false] at hu
    rcases hu with rfl | rfl | rfl | rfl | rfl | rfl | rfl | rfl | rfl | rfl | rfl | rfl
    all_goals first | rfl | exact hq) (by unfold maxLen; omega) (by omega) hB
  unfold Oper.wp
  simp [execOp, ho, resolve, invoke, builtin, hv, hx, hrun, Result.andThen]
  have hown : w'.ownsRow B 32 12 v' (ps ++ [q]).length ((ps ++ [q]).flatMap rcl) := by
    rw [List.length_append, List.flatMap_append]
    simpa using h2
  have hne : ∀ (d : Value) (l : List Nat), Own B w d l → Own B w' d l := fun d l hd => own_keptB hd fun b e => h3.block b (own_block hd b e).2 fun e2 => by
    obtain ⟨cs, z, h8⟩ := own_typed hd b e
    obtain ⟨cs', z', h9⟩ := rrow_typed h.1 b e2.symm
    rw [h8] at h9
    simp at h9
  refine hK v' w' ⟨hown, fun p hp => ?_⟩ ((Below.refl B w).grown h3 hB (fun k hk => (World.ownsRow.lt h.1 k hk).1)) h3
  rcases List.mem_append.1 hp with hp | hp
  · exact hne _ _ (h.2 p hp)
  · obtain rfl := List.mem_singleton.1 hp
    exact hne _ _ hq2
theorem size_set1 (w : World) (p : Addr) (v : Value) : (w.setCell p v).heap.size = w.heap.size := by simp [World.setCell]
/-- a record as it is told -/
def told (S : Sg) (r : Rec) : Rec := ⟨{ r.x with v := 3, s := S.x.id, a := S.x.la }, r.nm, r.l⟩
def TellPost (B t : Nat) (S : Sg) (h : SH) (ps : List (Rec × Value)) (q : Rec) (w : World) (e : Ending) (w' : World) : Prop := ∃ v' d', e = .returned (.tuple #[]) ∧ LB w' t 65 (scl S h ++ [v']) ∧ OutT B w' v' (ps ++ [(q, d')]) ∧ Below B w w' ∧ Fr t w w'
set_option maxRecDepth 100000 in
set_option maxHeartbeats 4000000 in
theorem tell_any (B t : Nat) (S : Sg) (h : SH) (v : Value) (ps : List (Rec × Value)) (r : Rec) (d : Value) (w : World) (L : LB w t 65 (scl S h ++ [v])) (O : OutT B w v ps) (hB : B ≤ t) (hd : Bs w d r.l) (hl : r.l.length ≤ 16384) (hn : ps.length ≤ 10000) :
    Calls Tryz.prog 34 #[.pointer (some ⟨t, 0, none⟩), rv r.x r.nm d] w fun e w' => TellPost B t S h ps (told S r) w e w' := by
  have hlt := L.lt
  have hin := infoR12
  have HIR : Hid ((Tryz.prog.info? 32).map (·.size) = some 12) := infoRec
  have hg : t ≠ w.heap.size := Nat.ne_of_lt L.lt
  have hg2 : w.heap.size ≠ t := Ne.symm hg
  obtain ⟨C, hC⟩ : ∃ C, scl S h ++ [v] = C := ⟨_, rfl⟩
  rw [hC] at L
  have HC : Hid (C = scl S h ++ [v]) := hC.symm
  have HRB : Hid (∀ g, v.ownBlock = some g → g < w.heap.size) := fun g e => (World.ownsRow.lt O.1 g e).2
  obtain ⟨av, nv, cv, rfl⟩ : ∃ a n c, v = .slice a n c := by rcases O.1.2 with ⟨e, _⟩ | ⟨_, _, _, e, _⟩ <;> exact ⟨_, _, _, e⟩
  obtain ⟨ad, cd, rfl, _⟩ := hd.shape
  have HCL : Hid (∀ w', Bs w' (.slice ad r.l.length cd) r.l → Calls Tryz.prog 50 #[.slice ad r.l.length cd] w' fun e w'' => ∃ a, ∃ c : Nat, e = .returned (.slice a r.l.length c) ∧ Own w'.heap.size w'' (.slice a r.l.length c) r.l ∧ Below w'.heap.size w' w'') := fun w' hb => (bclone_any _ r.l w' hb (by omega)).mono fun e w'' ⟨v, he, ho, hb'⟩ => by
    obtain ⟨a, c, rfl, _⟩ := ho.bs.shape
    exact ⟨a, c, he, ho, hb'⟩
  have HX : Hid (∀ o, o = #[.int .i64 r.x.v, .int .i64 r.x.k, .int .i64 r.x.s, .int .i64 r.x.p, .int .i64 r.x.t, .int .i64 r.x.a, .int .i64 r.x.l, .int .i64 r.x.c, .int .i64 r.x.n, .int .i64 r.x.i, .string r.nm, .slice ad r.l.length cd] → LB (w.alloc (.cells o 32)) t 65 C ∧ LB (w.alloc (.cells o 32)) w.heap.size 32 [.int .i64 r.x.v, .int .i64 r.x.k, .int .i64 r.x.s, .int .i64 r.x.p, .int .i64 r.x.t, .int .i64 r.x.a, .int .i64 r.x.l, .int .i64 r.x.c, .int .i64 r.x.n, .int .i64 r.x.i, .string r.nm, .slice ad r.l.length cd] ∧ Below w.heap.size w (w.alloc (.cells o 32))) := fun o e => by subst e; exact lb_rec w t 65 32 C [.int .i64 r.x.v, .int .i64 r.x.k, .int .i64 r.x.s, .int .i64 r.x.p, .int .i64 r.x.t, .int .i64 r.x.a, .int .i64 r.x.l, .int .i64 r.x.c, .int .i64 r.x.n, .int .i64 r.x.i, .string r.nm, .slice ad r.l.length cd] L
  have H0 : Hid (OutT B w (.slice av nv cv) ps ∧ Bs w (.slice ad r.l.length cd) r.l) := ⟨O, hd⟩
  clear hC L O hd
  unfold rv
  go_enter Tryz.func34, Tryz.ntmps34
  go_wp2
  have HX1 := HX.out _ rfl
  generalize w.alloc (.cells #[.int .i64 r.x.v, .int .i64 r.x.k, .int .i64 r.x.s, .int .i64 r.x.p, .int .i64 r.x.t, .int .i64 r.x.a, .int .i64 r.x.l, .int .i64 r.x.c, .int .i64 r.x.n, .int .i64 r.x.i, .string r.nm, .slice ad r.l.length cd] 32) = W1 at HX1 ⊢
  have HY : Hid _ := HX1
  clear HX HX1
  have c0 := HY.out.1.cell 0 (.int .i64 S.x.id) (by rw [HC.out]; rfl)
  have c5 := HY.out.1.cell 5 (.int .i64 S.x.la) (by rw [HC.out]; rfl)
  have r0 := HY.out.2.1.cell 0 (.int .i64 r.x.v) rfl
  have f0 := HY.out.2.1.free 0
  have r2 := HY.out.2.1.cell 2 (.int .i64 r.x.s) rfl
  have f2 := HY.out.2.1.free 2
  have r5 := HY.out.2.1.cell 5 (.int .i64 r.x.a) rfl
  have f5 := HY.out.2.1.free 5
  have HW : Hid (∃ W2, W2 = (((W1.setCell ⟨w.heap.size, 0, none⟩ (.int .i64 3)).setCell ⟨w.heap.size, 2, none⟩ (.int .i64 S.x.id)).setCell ⟨w.heap.size, 5, none⟩ (.int .i64 S.x.la)).drew ∧ LB W2 t 65 C ∧ LB W2 w.heap.size 32 [.int .i64 3, .int .i64 r.x.k, .int .i64 S.x.id, .int .i64 r.x.p, .int .i64 r.x.t, .int .i64 S.x.la, .int .i64 r.x.l, .int .i64 r.x.c, .int .i64 r.x.n, .int .i64 r.x.i, .string r.nm, .slice ad r.l.length cd] ∧ Below w.heap.size w W2) := ⟨_, rfl, (((HY.out.1.other _ _ hg).other _ _ hg).other _ _ hg).kept (Below.drew (Below.refl _ _)), (((HY.out.2.1.set 0 _).set 2 _).set 5 _).kept (Below.drew (Below.refl _ _)), Below.drew (Below.setCell (Below.setCell (Below.setCell HY.out.2.2 (Nat.le_refl _) _) (Nat.le_refl _) _) (Nat.le_refl _) _)⟩
  go_region
  obtain ⟨W2, hW2, hq⟩ := HW.out
  have H1 : Hid _ := hq
  rw [← hW2]
  clear hW2 hq HW HY c0 c5 r0 f0 r2 f2 r5 f5
  have r11 := H1.out.2.1.cell 11 (.slice ad r.l.length cd) rfl
  go_wp2_with fail
  refine (HCL.out _ (H0.out.2.kept H1.out.2.2)).mono ?_
  rintro e w3 ⟨a2, c2, rfl, ho, b3⟩
  have H2 : Hid (LB w3 t 65 C ∧ LB w3 w.heap.size 32 [.int .i64 3, .int .i64 r.x.k, .int .i64 S.x.id, .int .i64 r.x.p, .int .i64 r.x.t, .int .i64 S.x.la, .int .i64 r.x.l, .int .i64 r.x.c, .int .i64 r.x.n, .int .i64 r.x.i, .string r.nm, .slice ad r.l.length cd] ∧ Below w.heap.size w w3 ∧ Own W2.heap.size w3 (.slice a2 r.l.length c2) r.l ∧ w.heap.size < W2.heap.size) := ⟨H1.out.1.kept b3, H1.out.2.1.kept b3, andThen H1.out.2.2 b3, ho, H1.out.2.1.lt⟩
  clear ho b3 H1 r11 HCL
  have r11 := H2.out.2.1.cell 11 (.slice ad r.l.length cd) rfl
  have f11 := H2.out.2.1.free 11
  have HBW : Hid (B ≤ w.heap.size) := by show B ≤ _; omega
  have HV : Hid (∃ W4, W4 = w3.setCell ⟨w.heap.size, 11, none⟩ (.slice a2 r.l.length c2) ∧ (LB W4 t 65 C ∧ LB W4 w.heap.size 32 [.int .i64 3, .int .i64 r.x.k, .int .i64 S.x.id, .int .i64 r.x.p, .int .i64 r.x.t, .int .i64 S.x.la, .int .i64 r.x.l, .int .i64 r.x.c, .int .i64 r.x.n, .int .i64 r.x.i, .string r.nm, .slice a2 r.l.length c2] ∧ Below w.heap.size w W4 ∧ OutT B W4 (.slice av nv cv) ps ∧ Own B W4 (.slice a2 r.l.length c2) r.l ∧ w.heap.size < W4.heap.size)) := ⟨_, rfl, H2.out.1.other _ _ hg, H2.out.2.1.set 11 _, Below.setCell H2.out.2.2.1 (Nat.le_refl _) _, ⟨rrow_kept2 (H0.out.1.kept H2.out.2.2.1).1 (fun g e => set_other _ _ _ _ (Nat.ne_of_lt (HRB.out g e))), fun p hp => own_keptB ((H0.out.1.kept H2.out.2.2.1).2 p hp) (fun g e => set_other _ _ _ _ (Nat.ne_of_lt (own_block (H0.out.1.2 p hp) g e).2))⟩, own_weak (own_set H2.out.2.2.2.1 _ _ H2.out.2.2.2.2) (by have := HBW.out; have := H2.out.2.2.2.2; omega), by rw [size_set1]; exact H2.out.2.1.lt⟩
  have HKEEP : Hid (∀ W W' : World, (LB W t 65 C ∧ LB W w.heap.size 32 [.int .i64 3, .int .i64 r.x.k, .int .i64 S.x.id, .int .i64 r.x.p, .int .i64 r.x.t, .int .i64 S.x.la, .int .i64 r.x.l, .int .i64 r.x.c, .int .i64 r.x.n, .int .i64 r.x.i, .string r.nm, .slice a2 r.l.length c2] ∧ Below w.heap.size w W ∧ OutT B W (.slice av nv cv) ps ∧ Own B W (.slice a2 r.l.length c2) r.l ∧ w.heap.size < W.heap.size) → Below W.heap.size W W' → (LB W' t 65 C ∧ LB W' w.heap.size 32 [.int .i64 3, .int .i64 r.x.k, .int .i64 S.x.id, .int .i64 r.x.p, .int .i64 r.x.t, .int .i64 S.x.la, .int .i64 r.x.l, .int .i64 r.x.c, .int .i64 r.x.n, .int .i64 r.x.i, .string r.nm, .slice a2 r.l.length c2] ∧ Below w.heap.size w W' ∧ OutT B W' (.slice av nv cv) ps ∧ Own B W' (.slice a2 r.l.length c2) r.l ∧ w.heap.size < W'.heap.size)) := fun W W' H b9 => ⟨H.1.kept b9, H.2.1.kept b9, andThen H.2.2.1 b9, H.2.2.2.1.kept b9, H.2.2.2.2.1.kept b9, Nat.lt_of_lt_of_le H.2.2.2.2.2 b9.size⟩
  have HFIN : Hid (∀ (W W' : World) (v' : Value), (LB W t 65 C ∧ LB W w.heap.size 32 [.int .i64 3, .int .i64 r.x.k, .int .i64 S.x.id, .int .i64 r.x.p, .int .i64 r.x.t, .int .i64 S.x.la, .int .i64 r.x.l, .int .i64 r.x.c, .int .i64 r.x.n, .int .i64 r.x.i, .string r.nm, .slice a2 r.l.length c2] ∧ Below w.heap.size w W ∧ OutT B W (.slice av nv cv) ps ∧ Own B W (.slice a2 r.l.length c2) r.l ∧ w.heap.size < W.heap.size) → OutT B W' v' (ps ++ [(told S r, .slice a2 r.l.length c2)]) → Below B W W' → W.grownBy W' (Value.slice av nv cv).ownBlock → TellPost B t S h ps (told S r) w (.returned (.tuple #[])) (W'.setCell ⟨t, 16, none⟩ v')) := by
    intro W W' v' H hrow hb' hgr
    have hrg : (Value.slice av nv cv).ownBlock ≠ some t := fun e => by obtain ⟨cs, z, h9⟩ := rrow_typed H.2.2.2.1.1 t e; rw [H.1] at h9; simp at h9
    have hLt : LB W' t 65 C := (hgr.block t H.1.lt (Ne.symm hrg)).trans H.1
    have hx : ExT t W' (W'.setCell ⟨t, 16, none⟩ v') := fun b hb _ => set_other _ _ _ _ hb
    refine ⟨v', _, rfl, ?_, hrow.but hLt (by decide) (by decide) hx, ?_, ?_⟩
    · have e := hLt.set 16 v'
      rw [HC.out] at e
      exact e
    · exact Below.setCell ((H.2.2.1.mono HBW.out).trans hb') hB _
    · intro b ty C' hbt hty hL
      have h1 : LB W b ty C' := hL.kept H.2.2.1
      have h2 : LB W' b ty C' := (hgr.block b h1.lt (fun e => by
        obtain ⟨cs, z, h9⟩ := rrow_typed H.2.2.2.1.1 b e.symm
        rw [h1] at h9
        simp at h9
        exact hty h9.2.1)).trans h1
      exact h2.other _ _ hbt
  go_wp2_with fail
  obtain ⟨W4, hW4, hq⟩ := HV.out
  have H3 : Hid _ := hq
  rw [← hW4]
  clear hW4 hq HV H2 r11 f11 H0
  refine wp_region_held_drew (S := fun w' : World => w'.rangeAt w.heap.size 0 [.int .i64 3, .int .i64 r.x.k, .int .i64 S.x.id, .int .i64 r.x.p, .int .i64 r.x.t, .int .i64 S.x.la, .int .i64 r.x.l, .int .i64 r.x.c, .int .i64 r.x.n, .int .i64 r.x.i, .string r.nm, .slice a2 r.l.length c2]) (by kernel_rfl) (H3.out.2.1.kept (Below.drew (Below.refl _ _))).range (fun hH => ?_)
  have H4 : Hid (LB W4.drew t 65 C ∧ LB W4.drew w.heap.size 32 [.int .i64 3, .int .i64 r.x.k, .int .i64 S.x.id, .int .i64 r.x.p, .int .i64 r.x.t, .int .i64 S.x.la, .int .i64 r.x.l, .int .i64 r.x.c, .int .i64 r.x.n, .int .i64 r.x.i, .string r.nm, .slice a2 r.l.length c2] ∧ Below w.heap.size w W4.drew ∧ OutT B W4.drew (.slice av nv cv) ps ∧ Own B W4.drew (.slice a2 r.l.length c2) r.l ∧ w.heap.size < W4.drew.heap.size) := HKEEP.out _ _ H3.out (Below.drew (Below.refl _ _))
  clear H3
  generalize W4.drew = W5 at *
  have c16 := H4.out.1.cell 16 (.slice av nv cv) (by rw [HC.out]; rfl)
  refine wpAnyH_take (i := 0) (v := ?v1) rfl (by kernel_rfl) (by kernel_rfl) (by kernel_rfl) (fun _ _ _ h => h) (Or.inl ⟨by rfl, ?hy1⟩) hH ?rest1
  case hy1 => intro w' hSw; (try dsimp only at hSw); go_simp; all_goals rfl
  simp only [Act.put, List.setIfInBounds_toArray, List.set_cons_zero, List.set_cons_succ, List.getElem_toArray, List.getElem_cons_zero]
  refine wpAnyH_take (i := 1) (v := ?v2) rfl (by kernel_rfl) (by kernel_rfl) (by kernel_rfl) (fun _ _ _ h => h) (Or.inl ⟨by rfl, ?hy2⟩) hH ?rest2
  case hy2 => intro w' hSw; (try dsimp only at hSw); go_simp; all_goals rfl
  simp only [Act.put, List.setIfInBounds_toArray, List.set_cons_zero, List.set_cons_succ, List.getElem_toArray, List.getElem_cons_zero, List.getElem_cons_succ]
  refine wpAnyH_take (i := 2) (v := ?v3) rfl (by kernel_rfl) (by kernel_rfl) (by kernel_rfl) (fun _ _ _ h => h) (Or.inl ⟨by rfl, ?hy3⟩) hH ?rest3
  case hy3 => intro w' hSw; (try dsimp only at hSw); go_simp; all_goals rfl
  simp only [Act.put, List.setIfInBounds_toArray, List.set_cons_zero, List.set_cons_succ, List.getElem_toArray, List.getElem_cons_zero, List.getElem_cons_succ]
  refine wpAnyH_take (i := 3) (v := ?v4) rfl (by kernel_rfl) (by kernel_rfl) (by kernel_rfl) (fun _ _ _ h => h) (Or.inl ⟨by rfl, ?hy4⟩) hH ?rest4
  case hy4 => intro w' hSw; (try dsimp only at hSw); go_simp; all_goals rfl
  simp only [Act.put, List.setIfInBounds_toArray, List.set_cons_zero, List.set_cons_succ, List.getElem_toArray, List.getElem_cons_zero, List.getElem_cons_succ]
  refine wpAnyH_take (i := 5) rfl (by kernel_rfl) (by kernel_rfl) (by kernel_rfl) (fun _ _ _ h => h) (yieldsIf_load_mid (by rfl) _ _ rfl _ _ rfl [.int .i64 3, .int .i64 r.x.k, .int .i64 S.x.id, .int .i64 r.x.p, .int .i64 r.x.t, .int .i64 S.x.la, .int .i64 r.x.l, .int .i64 r.x.c, .int .i64 r.x.n, .int .i64 r.x.i, .string r.nm, .slice a2 r.l.length c2] _ (fun w' hSw => hSw) Tryz.underlying32 rfl HIR.out) hH ?_
  simp only [Act.put, List.setIfInBounds_toArray, List.set_cons_zero, List.set_cons_succ, List.getElem_toArray, List.getElem_cons_zero, List.getElem_cons_succ]
  refine wpAnyH_ready (rs := [4, 6]) (by kernel_rfl) (by simp) ?_
  refine AllReadyH.cons rfl (fun K hK => ?_) ?_
  · skip
    go_simp
    refine hK.out _ _ H4.out.2.1.range (fun hH2 => ?_)
    clear hK K hH
    have hH := hH2
    clear hH2
    refine wpAnyH_ready (rs := [6]) (by kernel_rfl) (by simp) ?_
    refine AllReadyH.cons rfl (fun K hK => ?_) AllReadyH.nil
    go_simp
    have H6 : Hid (LB (W5.alloc (.cells #[.int .i64 3, .int .i64 r.x.k, .int .i64 S.x.id, .int .i64 r.x.p, .int .i64 r.x.t, .int .i64 S.x.la, .int .i64 r.x.l, .int .i64 r.x.c, .int .i64 r.x.n, .int .i64 r.x.i, .string r.nm, .slice a2 r.l.length c2] 32)) t 65 C ∧ LB (W5.alloc (.cells #[.int .i64 3, .int .i64 r.x.k, .int .i64 S.x.id, .int .i64 r.x.p, .int .i64 r.x.t, .int .i64 S.x.la, .int .i64 r.x.l, .int .i64 r.x.c, .int .i64 r.x.n, .int .i64 r.x.i, .string r.nm, .slice a2 r.l.length c2] 32)) w.heap.size 32 [.int .i64 3, .int .i64 r.x.k, .int .i64 S.x.id, .int .i64 r.x.p, .int .i64 r.x.t, .int .i64 S.x.la, .int .i64 r.x.l, .int .i64 r.x.c, .int .i64 r.x.n, .int .i64 r.x.i, .string r.nm, .slice a2 r.l.length c2] ∧ Below w.heap.size w (W5.alloc (.cells #[.int .i64 3, .int .i64 r.x.k, .int .i64 S.x.id, .int .i64 r.x.p, .int .i64 r.x.t, .int .i64 S.x.la, .int .i64 r.x.l, .int .i64 r.x.c, .int .i64 r.x.n, .int .i64 r.x.i, .string r.nm, .slice a2 r.l.length c2] 32)) ∧ OutT B (W5.alloc (.cells #[.int .i64 3, .int .i64 r.x.k, .int .i64 S.x.id, .int .i64 r.x.p, .int .i64 r.x.t, .int .i64 S.x.la, .int .i64 r.x.l, .int .i64 r.x.c, .int .i64 r.x.n, .int .i64 r.x.i, .string r.nm, .slice a2 r.l.length c2] 32)) (.slice av nv cv) ps ∧ Own B (W5.alloc (.cells #[.int .i64 3, .int .i64 r.x.k, .int .i64 S.x.id, .int .i64 r.x.p, .int .i64 r.x.t, .int .i64 S.x.la, .int .i64 r.x.l, .int .i64 r.x.c, .int .i64 r.x.n, .int .i64 r.x.i, .string r.nm, .slice a2 r.l.length c2] 32)) (.slice a2 r.l.length c2) r.l ∧ w.heap.size < (W5.alloc (.cells #[.int .i64 3, .int .i64 r.x.k, .int .i64 S.x.id, .int .i64 r.x.p, .int .i64 r.x.t, .int .i64 S.x.la, .int .i64 r.x.l, .int .i64 r.x.c, .int .i64 r.x.n, .int .i64 r.x.i, .string r.nm, .slice a2 r.l.length c2] 32)).heap.size) := HKEEP.out _ _ H4.out (up0 _ _)
    refine hK.out _ _ H6.out.2.1.range (fun hH2 => ?_)
    clear hK K hH
    have hH := hH2
    clear hH2
    have HCE : Hid ((W5.alloc (.cells #[.int .i64 3, .int .i64 r.x.k, .int .i64 S.x.id, .int .i64 r.x.p, .int .i64 r.x.t, .int .i64 S.x.la, .int .i64 r.x.l, .int .i64 r.x.c, .int .i64 r.x.n, .int .i64 r.x.i, .string r.nm, .slice a2 r.l.length c2] 32)).rangeAt W5.heap.size 0 (rcl (told S r, .slice a2 r.l.length c2))) := (lb_new W5 [.int .i64 3, .int .i64 r.x.k, .int .i64 S.x.id, .int .i64 r.x.p, .int .i64 r.x.t, .int .i64 S.x.la, .int .i64 r.x.l, .int .i64 r.x.c, .int .i64 r.x.n, .int .i64 r.x.i, .string r.nm, .slice a2 r.l.length c2] 32).range
    refine wpAnyH_ready (rs := [7]) (by kernel_rfl) (by simp) ?_
    refine AllReadyH.cons rfl (fun K hK => ?_) AllReadyH.nil
    refine step_append_rec rfl (.tmp 25) (.tmp 27) 22 rfl B hin Tryz.underlying22 (.slice av nv cv) ps (told S r, .slice a2 r.l.length c2) rfl H6.out.2.2.2.1 W5.heap.size rfl HCE.out H6.out.2.2.2.2.1 (by omega) (by have := H6.out.2.2.2.2.2; have := HBW.out; omega) ?_
    intro v' w' hrow hb' hgr
    have HF : Hid _ := HFIN.out _ _ _ H6.out hrow hb' hgr
    have hrg : (Value.slice av nv cv).ownBlock ≠ some t := fun e => by obtain ⟨cs, z, h9⟩ := rrow_typed H6.out.2.2.2.1.1 t e; rw [H6.out.1] at h9; simp at h9
    have hLt : LB w' t 65 C := (hgr.block t H6.out.1.lt (Ne.symm hrg)).trans H6.out.1
    have hLx : LB w' w.heap.size 32 [.int .i64 3, .int .i64 r.x.k, .int .i64 S.x.id, .int .i64 r.x.p, .int .i64 r.x.t, .int .i64 S.x.la, .int .i64 r.x.l, .int .i64 r.x.c, .int .i64 r.x.n, .int .i64 r.x.i, .string r.nm, .slice a2 r.l.length c2] := (hgr.block _ H6.out.2.1.lt (fun e => Nat.lt_irrefl _ (HRB.out _ e.symm))).trans H6.out.2.1
    have HLX : Hid (LB (w'.setCell ⟨t, 16, none⟩ v') w.heap.size 32 [.int .i64 3, .int .i64 r.x.k, .int .i64 S.x.id, .int .i64 r.x.p, .int .i64 r.x.t, .int .i64 S.x.la, .int .i64 r.x.l, .int .i64 r.x.c, .int .i64 r.x.n, .int .i64 r.x.i, .string r.nm, .slice a2 r.l.length c2]) := hLx.other _ _ hg2
    have cg := hLt.cell 16 (.slice av nv cv) (by rw [HC.out]; rfl)
    have fg := hLt.free 16
    obtain ⟨a9, n9, c9, e9⟩ : ∃ a n c, v' = .slice a n c := by rcases hrow.1.2 with ⟨e, _⟩ | ⟨_, _, _, e, _⟩ <;> exact ⟨_, _, _, e⟩
    subst e9
    refine hK.out _ _ hLx.range (fun hH2 => ?_)
    clear hK K hH
    have hH := hH2
    clear hH2
    clear hrow hb' hgr hrg hLt hLx H4 H6 c16 HKEEP HFIN
    simp only [Act.put, List.setIfInBounds_toArray, List.set_cons_zero, List.set_cons_succ, List.getElem_toArray, List.getElem_cons_zero, List.getElem_cons_succ]
    refine wpAnyH_take (i := 8) (v := ?v5) rfl (by kernel_rfl) (by kernel_rfl) (by kernel_rfl) (fun _ _ _ h => h) (Or.inl ⟨by rfl, ?hy5⟩) hH ?rest5
    case hy5 => intro w' hSw; (try dsimp only at hSw); go_simp; all_goals rfl
    simp only [Act.put, List.setIfInBounds_toArray, List.set_cons_zero, List.set_cons_succ, List.getElem_toArray, List.getElem_cons_zero, List.getElem_cons_succ]
    refine wpAnyH_take (i := 9) (v := ?v6) rfl (by kernel_rfl) (by kernel_rfl) (by kernel_rfl) (fun _ _ _ h => h) (Or.inl ⟨by rfl, ?hy6⟩) hH ?rest6
    case hy6 => intro w' hSw; (try dsimp only at hSw); go_simp; all_goals rfl
    simp only [Act.put, List.setIfInBounds_toArray, List.set_cons_zero, List.set_cons_succ, List.getElem_toArray, List.getElem_cons_zero, List.getElem_cons_succ]
    refine wpAnyH_ready (rs := [10]) (by kernel_rfl) (by simp) ?_
    refine AllReadyH.cons rfl (fun K hK => ?_) AllReadyH.nil
    go_simp
    refine hK.out _ _ HLX.out.range (fun hH2 => ?_)
    clear hK K hH
    have hH := hH2
    clear hH2
    refine wpAnyH_done (by kernel_rfl) ?_ _
    go_wp2
    go_end0
    obtain ⟨v9, d9, _, q1, q2, q3, q4⟩ := HF.out
    exact ⟨v9, d9, rfl, q1, q2, q3, q4⟩
  · refine AllReadyH.cons rfl (fun K hK => ?_) AllReadyH.nil
    go_simp
    have H6 : Hid (LB (W5.alloc (.cells #[.int .i64 3, .int .i64 r.x.k, .int .i64 S.x.id, .int .i64 r.x.p, .int .i64 r.x.t, .int .i64 S.x.la, .int .i64 r.x.l, .int .i64 r.x.c, .int .i64 r.x.n, .int .i64 r.x.i, .string r.nm, .slice a2 r.l.length c2] 32)) t 65 C ∧ LB (W5.alloc (.cells #[.int .i64 3, .int .i64 r.x.k, .int .i64 S.x.id, .int .i64 r.x.p, .int .i64 r.x.t, .int .i64 S.x.la, .int .i64 r.x.l, .int .i64 r.x.c, .int .i64 r.x.n, .int .i64 r.x.i, .string r.nm, .slice a2 r.l.length c2] 32)) w.heap.size 32 [.int .i64 3, .int .i64 r.x.k, .int .i64 S.x.id, .int .i64 r.x.p, .int .i64 r.x.t, .int .i64 S.x.la, .int .i64 r.x.l, .int .i64 r.x.c, .int .i64 r.x.n, .int .i64 r.x.i, .string r.nm, .slice a2 r.l.length c2] ∧ Below w.heap.size w (W5.alloc (.cells #[.int .i64 3, .int .i64 r.x.k, .int .i64 S.x.id, .int .i64 r.x.p, .int .i64 r.x.t, .int .i64 S.x.la, .int .i64 r.x.l, .int .i64 r.x.c, .int .i64 r.x.n, .int .i64 r.x.i, .string r.nm, .slice a2 r.l.length c2] 32)) ∧ OutT B (W5.alloc (.cells #[.int .i64 3, .int .i64 r.x.k, .int .i64 S.x.id, .int .i64 r.x.p, .int .i64 r.x.t, .int .i64 S.x.la, .int .i64 r.x.l, .int .i64 r.x.c, .int .i64 r.x.n, .int .i64 r.x.i, .string r.nm, .slice a2 r.l.length c2] 32)) (.slice av nv cv) ps ∧ Own B (W5.alloc (.cells #[.int .i64 3, .int .i64 r.x.k, .int .i64 S.x.id, .int .i64 r.x.p, .int .i64 r.x.t, .int .i64 S.x.la, .int .i64 r.x.l, .int .i64 r.x.c, .int .i64 r.x.n, .int .i64 r.x.i, .string r.nm, .slice a2 r.l.length c2] 32)) (.slice a2 r.l.length c2) r.l ∧ w.heap.size < (W5.alloc (.cells #[.int .i64 3, .int .i64 r.x.k, .int .i64 S.x.id, .int .i64 r.x.p, .int .i64 r.x.t, .int .i64 S.x.la, .int .i64 r.x.l, .int .i64 r.x.c, .int .i64 r.x.n, .int .i64 r.x.i, .string r.nm, .slice a2 r.l.length c2] 32)).heap.size) := HKEEP.out _ _ H4.out (up0 _ _)
    refine hK.out _ _ H6.out.2.1.range (fun hH2 => ?_)
    clear hK K hH
    have hH := hH2
    clear hH2
    refine wpAnyH_ready (rs := [4]) (by kernel_rfl) (by simp) ?_
    refine AllReadyH.cons rfl (fun K hK => ?_) AllReadyH.nil
    have c16b := H6.out.1.cell 16 (.slice av nv cv) (by rw [HC.out]; rfl)
    go_simp
    refine hK.out _ _ H6.out.2.1.range (fun hH2 => ?_)
    clear hK K hH
    have hH := hH2
    clear hH2
    have HCE : Hid ((W5.alloc (.cells #[.int .i64 3, .int .i64 r.x.k, .int .i64 S.x.id, .int .i64 r.x.p, .int .i64 r.x.t, .int .i64 S.x.la, .int .i64 r.x.l, .int .i64 r.x.c, .int .i64 r.x.n, .int .i64 r.x.i, .string r.nm, .slice a2 r.l.length c2] 32)).rangeAt W5.heap.size 0 (rcl (told S r, .slice a2 r.l.length c2))) := (lb_new W5 [.int .i64 3, .int .i64 r.x.k, .int .i64 S.x.id, .int .i64 r.x.p, .int .i64 r.x.t, .int .i64 S.x.la, .int .i64 r.x.l, .int .i64 r.x.c, .int .i64 r.x.n, .int .i64 r.x.i, .string r.nm, .slice a2 r.l.length c2] 32).range
    refine wpAnyH_ready (rs := [7]) (by kernel_rfl) (by simp) ?_
    refine AllReadyH.cons rfl (fun K hK => ?_) AllReadyH.nil
    refine step_append_rec rfl (.tmp 25) (.tmp 27) 22 rfl B hin Tryz.underlying22 (.slice av nv cv) ps (told S r, .slice a2 r.l.length c2) rfl H6.out.2.2.2.1 W5.heap.size rfl HCE.out H6.out.2.2.2.2.1 (by omega) (by have := H6.out.2.2.2.2.2; have := HBW.out; omega) ?_
    intro v' w' hrow hb' hgr
    have HF : Hid _ := HFIN.out _ _ _ H6.out hrow hb' hgr
    have hrg : (Value.slice av nv cv).ownBlock ≠ some t := fun e => by obtain ⟨cs, z, h9⟩ := rrow_typed H6.out.2.2.2.1.1 t e; rw [H6.out.1] at h9; simp at h9
    have hLt : LB w' t 65 C := (hgr.block t H6.out.1.lt (Ne.symm hrg)).trans H6.out.1
    have hLx : LB w' w.heap.size 32 [.int .i64 3, .int .i64 r.x.k, .int .i64 S.x.id, .int .i64 r.x.p, .int .i64 r.x.t, .int .i64 S.x.la, .int .i64 r.x.l, .int .i64 r.x.c, .int .i64 r.x.n, .int .i64 r.x.i, .string r.nm, .slice a2 r.l.length c2] := (hgr.block _ H6.out.2.1.lt (fun e => Nat.lt_irrefl _ (HRB.out _ e.symm))).trans H6.out.2.1
    have HLX : Hid (LB (w'.setCell ⟨t, 16, none⟩ v') w.heap.size 32 [.int .i64 3, .int .i64 r.x.k, .int .i64 S.x.id, .int .i64 r.x.p, .int .i64 r.x.t, .int .i64 S.x.la, .int .i64 r.x.l, .int .i64 r.x.c, .int .i64 r.x.n, .int .i64 r.x.i, .string r.nm, .slice a2 r.l.length c2]) := hLx.other _ _ hg2
    have cg := hLt.cell 16 (.slice av nv cv) (by rw [HC.out]; rfl)
    have fg := hLt.free 16
    obtain ⟨a9, n9, c9, e9⟩ : ∃ a n c, v' = .slice a n c := by rcases hrow.1.2 with ⟨e, _⟩ | ⟨_, _, _, e, _⟩ <;> exact ⟨_, _, _, e⟩
    subst e9
    refine hK.out _ _ hLx.range (fun hH2 => ?_)
    clear hK K hH
    have hH := hH2
    clear hH2
    clear hrow hb' hgr hrg hLt hLx H4 H6 c16 HKEEP HFIN
    simp only [Act.put, List.setIfInBounds_toArray, List.set_cons_zero, List.set_cons_succ, List.getElem_toArray, List.getElem_cons_zero, List.getElem_cons_succ]
    refine wpAnyH_take (i := 8) (v := ?v7) rfl (by kernel_rfl) (by kernel_rfl) (by kernel_rfl) (fun _ _ _ h => h) (Or.inl ⟨by rfl, ?hy7⟩) hH ?rest7
    case hy7 => intro w' hSw; (try dsimp only at hSw); go_simp; all_goals rfl
    simp only [Act.put, List.setIfInBounds_toArray, List.set_cons_zero, List.set_cons_succ, List.getElem_toArray, List.getElem_cons_zero, List.getElem_cons_succ]
    refine wpAnyH_take (i := 9) (v := ?v8) rfl (by kernel_rfl) (by kernel_rfl) (by kernel_rfl) (fun _ _ _ h => h) (Or.inl ⟨by rfl, ?hy8⟩) hH ?rest8
    case hy8 => intro w' hSw; (try dsimp only at hSw); go_simp; all_goals rfl
    simp only [Act.put, List.setIfInBounds_toArray, List.set_cons_zero, List.set_cons_succ, List.getElem_toArray, List.getElem_cons_zero, List.getElem_cons_succ]
    refine wpAnyH_ready (rs := [10]) (by kernel_rfl) (by simp) ?_
    refine AllReadyH.cons rfl (fun K hK => ?_) AllReadyH.nil
    go_simp
    refine hK.out _ _ HLX.out.range (fun hH2 => ?_)
    clear hK K hH
    have hH := hH2
    clear hH2
    refine wpAnyH_done (by kernel_rfl) ?_ _
    go_wp2
    go_end0
    obtain ⟨v9, d9, _, q1, q2, q3, q4⟩ := HF.out
    exact ⟨v9, d9, rfl, q1, q2, q3, q4⟩
end Go.Proofs.YtdnackjakfiffaaGreatDoor
