import Derived.Deep.MidRow
import Derived.Deep.RegionHeld
import Derived.Lib.SlBytesConst
import Derived.Deep.CutRange
import Derived.Test.YtgmkjcfdpiinpaaGreatDoorVF4
import Derived.Test.YtgmkjcfdpiinpaaGreatDoorVBM1
set_option maxRecDepth 100000
set_option maxHeartbeats 4000000
namespace Go.Proofs.YtgmkjcfdpiinpaaGreatDoor
open Go Go.RowKit
open Wb

theorem recEq_self (x : Nums) (nm : ByteArray) (l : List Nat) : recEq x x nm nm l l = true := by simp [recEq]
end Go.Proofs.YtgmkjcfdpiinpaaGreatDoor
namespace Go.Proofs.YtgmkjcfdpiinpaaGreatDoor
open Go Go.RowKit Go.ChangeShapes Go.WideShapes Go.ChangeAt
open Wb

end Go.Proofs.YtgmkjcfdpiinpaaGreatDoor
namespace Go.Proofs.YtgmkjcfdpiinpaaGreatDoor
open Go Go.RowKit
open Wb

theorem size_set1 (w : World) (p : Addr) (v : Value) : (w.setCell p v).heap.size = w.heap.size := by simp [World.setCell]
theorem tell_any (B t : Nat) (S : Sg) (h : SH) (v : Value) (ps : List (Rec × Value)) (r : Rec) (d : Value) (w : World) (L : LB w t 95 (scl S h ++ [v])) (O : OutT B w v ps) (hB : B ≤ t) (hd : Bs w d r.l) (hl : r.l.length ≤ 16384) (hn : ps.length ≤ 10000) :
  Calls Tryz.prog 81 #[.pointer (some ⟨t, 0, none⟩), rv r.x r.nm d] w fun e w' => TellPost B t S h ps (told S r) w e w' := by
 have hlt := L.lt
 have hin := infoR12
 have HIR : Hid ((Tryz.prog.info? 28).map (·.size) = some 12) := infoRec
 have hg : t ≠ w.heap.size := Nat.ne_of_lt L.lt
 have hg2 : w.heap.size ≠ t := Ne.symm hg
 obtain ⟨C, hC⟩ : ∃ C, scl S h ++ [v] = C := ⟨_, rfl⟩
 rw [hC] at L
 have HC : Hid (C = scl S h ++ [v]) := hC.symm
 have HRB : Hid (∀ g, v.ownBlock = some g → g < w.heap.size) := fun g e => (World.ownsRow.lt O.1 g e).2
 obtain ⟨av, nv, cv, rfl⟩ : ∃ a n c, v = .slice a n c := by rcases O.1.2 with ⟨e, _⟩ | ⟨_, _, _, e, _⟩ <;> exact ⟨_, _, _, e⟩
 obtain ⟨ad, cd, rfl, _⟩ := hd.shape
 have HCL : Hid (∀ w', Bs w' (.slice ad r.l.length cd) r.l → Calls Tryz.prog 47 #[.slice ad r.l.length cd] w' fun e w'' => ∃ a, ∃ c : Nat, e = .returned (.slice a r.l.length c) ∧ Own w'.heap.size w'' (.slice a r.l.length c) r.l ∧ Below w'.heap.size w' w'') := fun w' hb => (bclone_any _ r.l w' hb (by omega)).mono fun e w'' ⟨v, he, ho, hb'⟩ => by
  obtain ⟨a, c, rfl, _⟩ := ho.bs.shape
  exact ⟨a, c, he, ho, hb'⟩
 have HX : Hid (∀ o, o = #[.int .i64 r.x.v, .int .i64 r.x.k, .int .i64 r.x.s, .int .i64 r.x.p, .int .i64 r.x.t, .int .i64 r.x.a, .int .i64 r.x.l, .int .i64 r.x.c, .int .i64 r.x.n, .int .i64 r.x.i, .string r.nm, .slice ad r.l.length cd] → LB (w.alloc (.cells o 28)) t 95 C ∧ LB (w.alloc (.cells o 28)) w.heap.size 28 [.int .i64 r.x.v, .int .i64 r.x.k, .int .i64 r.x.s, .int .i64 r.x.p, .int .i64 r.x.t, .int .i64 r.x.a, .int .i64 r.x.l, .int .i64 r.x.c, .int .i64 r.x.n, .int .i64 r.x.i, .string r.nm, .slice ad r.l.length cd] ∧ Below w.heap.size w (w.alloc (.cells o 28))) := fun o e => by subst e; exact lb_rec w t 95 28 C [.int .i64 r.x.v, .int .i64 r.x.k, .int .i64 r.x.s, .int .i64 r.x.p, .int .i64 r.x.t, .int .i64 r.x.a, .int .i64 r.x.l, .int .i64 r.x.c, .int .i64 r.x.n, .int .i64 r.x.i, .string r.nm, .slice ad r.l.length cd] L
 have H0 : Hid (OutT B w (.slice av nv cv) ps ∧ Bs w (.slice ad r.l.length cd) r.l) := ⟨O, hd⟩
 clear hC L O hd
 unfold rv
 go_enter Tryz.func81, Tryz.ntmps81
 go_wp2
 have HX1 := HX.out _ rfl
 generalize w.alloc (.cells #[.int .i64 r.x.v, .int .i64 r.x.k, .int .i64 r.x.s, .int .i64 r.x.p, .int .i64 r.x.t, .int .i64 r.x.a, .int .i64 r.x.l, .int .i64 r.x.c, .int .i64 r.x.n, .int .i64 r.x.i, .string r.nm, .slice ad r.l.length cd] 28) = W1 at HX1 ⊢
 have HY : Hid _ := HX1
 clear HX HX1
 have c0 := HY.out.1.cell 0 (.int .i64 S.x.id) (by rw [HC.out]; rfl)
 have c5 := HY.out.1.cell 5 (.int .i64 S.x.la) (by rw [HC.out]; rfl)
 have r0 := HY.out.2.1.cell 0 (.int .i64 r.x.v) rfl
 have f0 := HY.out.2.1.free 0
 have r2 := HY.out.2.1.cell 2 (.int .i64 r.x.s) rfl
 have f2 := HY.out.2.1.free 2
 have r5 := HY.out.2.1.cell 5 (.int .i64 r.x.a) rfl
 have f5 := HY.out.2.1.free 5
 have HW : Hid (∃ W2, W2 = (((W1.setCell ⟨w.heap.size, 0, none⟩ (.int .i64 3)).setCell ⟨w.heap.size, 2, none⟩ (.int .i64 S.x.id)).setCell ⟨w.heap.size, 5, none⟩ (.int .i64 S.x.la)).drew ∧ LB W2 t 95 C ∧ LB W2 w.heap.size 28 [.int .i64 3, .int .i64 r.x.k, .int .i64 S.x.id, .int .i64 r.x.p, .int .i64 r.x.t, .int .i64 S.x.la, .int .i64 r.x.l, .int .i64 r.x.c, .int .i64 r.x.n, .int .i64 r.x.i, .string r.nm, .slice ad r.l.length cd] ∧ Below w.heap.size w W2) := ⟨_, rfl, (((HY.out.1.other _ _ hg).other _ _ hg).other _ _ hg).kept (Below.drew (Below.refl _ _)), (((HY.out.2.1.set 0 _).set 2 _).set 5 _).kept (Below.drew (Below.refl _ _)), Below.drew (Below.setCell (Below.setCell (Below.setCell HY.out.2.2 (Nat.le_refl _) _) (Nat.le_refl _) _) (Nat.le_refl _) _)⟩
 go_region
 obtain ⟨W2, hW2, hq⟩ := HW.out
 have H1 : Hid _ := hq
 rw [← hW2]
 clear hW2 hq HW HY c0 c5 r0 f0 r2 f2 r5 f5
 have r11 := H1.out.2.1.cell 11 (.slice ad r.l.length cd) rfl
 go_wp2_with fail
 refine (HCL.out _ (H0.out.2.kept H1.out.2.2)).mono ?_
 rintro e w3 ⟨a2, c2, rfl, ho, b3⟩
 have H2 : Hid (LB w3 t 95 C ∧ LB w3 w.heap.size 28 [.int .i64 3, .int .i64 r.x.k, .int .i64 S.x.id, .int .i64 r.x.p, .int .i64 r.x.t, .int .i64 S.x.la, .int .i64 r.x.l, .int .i64 r.x.c, .int .i64 r.x.n, .int .i64 r.x.i, .string r.nm, .slice ad r.l.length cd] ∧ Below w.heap.size w w3 ∧ Own W2.heap.size w3 (.slice a2 r.l.length c2) r.l ∧ w.heap.size < W2.heap.size) := ⟨H1.out.1.kept b3, H1.out.2.1.kept b3, andThen H1.out.2.2 b3, ho, H1.out.2.1.lt⟩
 clear ho b3 H1 r11 HCL
 have r11 := H2.out.2.1.cell 11 (.slice ad r.l.length cd) rfl
 have f11 := H2.out.2.1.free 11
 have HBW : Hid (B ≤ w.heap.size) := by show B ≤ _; omega
 have HV : Hid (∃ W4, W4 = w3.setCell ⟨w.heap.size, 11, none⟩ (.slice a2 r.l.length c2) ∧ (LB W4 t 95 C ∧ LB W4 w.heap.size 28 [.int .i64 3, .int .i64 r.x.k, .int .i64 S.x.id, .int .i64 r.x.p, .int .i64 r.x.t, .int .i64 S.x.la, .int .i64 r.x.l, .int .i64 r.x.c, .int .i64 r.x.n, .int .i64 r.x.i, .string r.nm, .slice a2 r.l.length c2] ∧ Below w.heap.size w W4 ∧ OutT B W4 (.slice av nv cv) ps ∧ Own B W4 (.slice a2 r.l.length c2) r.l ∧ w.heap.size < W4.heap.size)) := ⟨_, rfl, H2.out.1.other _ _ hg, H2.out.2.1.set 11 _, Below.setCell H2.out.2.2.1 (Nat.le_refl _) _, ⟨rrow_kept2 (H0.out.1.kept H2.out.2.2.1).1 (fun g e => set_other _ _ _ _ (Nat.ne_of_lt (HRB.out g e))), fun p hp => own_keptB ((H0.out.1.kept H2.out.2.2.1).2 p hp) (fun g e => set_other _ _ _ _ (Nat.ne_of_lt (own_block (H0.out.1.2 p hp) g e).2))⟩, own_weak (own_set H2.out.2.2.2.1 _ _ H2.out.2.2.2.2) (by have := HBW.out; have := H2.out.2.2.2.2; omega), by rw [size_set1]; exact H2.out.2.1.lt⟩
 have HKEEP : Hid (∀ W W' : World, (LB W t 95 C ∧ LB W w.heap.size 28 [.int .i64 3, .int .i64 r.x.k, .int .i64 S.x.id, .int .i64 r.x.p, .int .i64 r.x.t, .int .i64 S.x.la, .int .i64 r.x.l, .int .i64 r.x.c, .int .i64 r.x.n, .int .i64 r.x.i, .string r.nm, .slice a2 r.l.length c2] ∧ Below w.heap.size w W ∧ OutT B W (.slice av nv cv) ps ∧ Own B W (.slice a2 r.l.length c2) r.l ∧ w.heap.size < W.heap.size) → Below W.heap.size W W' → (LB W' t 95 C ∧ LB W' w.heap.size 28 [.int .i64 3, .int .i64 r.x.k, .int .i64 S.x.id, .int .i64 r.x.p, .int .i64 r.x.t, .int .i64 S.x.la, .int .i64 r.x.l, .int .i64 r.x.c, .int .i64 r.x.n, .int .i64 r.x.i, .string r.nm, .slice a2 r.l.length c2] ∧ Below w.heap.size w W' ∧ OutT B W' (.slice av nv cv) ps ∧ Own B W' (.slice a2 r.l.length c2) r.l ∧ w.heap.size < W'.heap.size)) := fun W W' H b9 => ⟨H.1.kept b9, H.2.1.kept b9, andThen H.2.2.1 b9, H.2.2.2.1.kept b9, H.2.2.2.2.1.kept b9, Nat.lt_of_lt_of_le H.2.2.2.2.2 b9.size⟩
 have HFIN : Hid (∀ (W W' : World) (v' : Value), (LB W t 95 C ∧ LB W w.heap.size 28 [.int .i64 3, .int .i64 r.x.k, .int .i64 S.x.id, .int .i64 r.x.p, .int .i64 r.x.t, .int .i64 S.x.la, .int .i64 r.x.l, .int .i64 r.x.c, .int .i64 r.x.n, .int .i64 r.x.i, .string r.nm, .slice a2 r.l.length c2] ∧ Below w.heap.size w W ∧ OutT B W (.slice av nv cv) ps ∧ Own B W (.slice a2 r.l.length c2) r.l ∧ w.heap.size < W.heap.size) → OutT B W' v' (ps ++ [(told S r, .slice a2 r.l.length c2)]) → Below B W W' → W.grownBy W' (Value.slice av nv cv).ownBlock → TellPost B t S h ps (told S r) w (.returned (.tuple #[])) (W'.setCell ⟨t, 16, none⟩ v')) := by
  intro W W' v' H hrow hb' hgr
  have hrg : (Value.slice av nv cv).ownBlock ≠ some t := fun e => by obtain ⟨cs, z, h9⟩ := rrow_typed H.2.2.2.1.1 t e; rw [H.1] at h9; simp at h9
  have hLt : LB W' t 95 C := (hgr.block t H.1.lt (Ne.symm hrg)).trans H.1
  have hx : ExT t W' (W'.setCell ⟨t, 16, none⟩ v') := fun b hb _ => set_other _ _ _ _ hb
  refine ⟨v', _, rfl, ?_, hrow.but hLt (by decide) (by decide) hx, ?_, ?_⟩
  ·have e := hLt.set 16 v'
   rw [HC.out] at e
   exact e
  ·exact Below.setCell ((H.2.2.1.mono HBW.out).trans hb') hB _
  ·intro b ty C' hbt hty hL
   have h1 : LB W b ty C' := hL.kept H.2.2.1
   have h2 : LB W' b ty C' := (hgr.block b h1.lt (fun e => by
    obtain ⟨cs, z, h9⟩ := rrow_typed H.2.2.2.1.1 b e.symm
    rw [h1] at h9
    simp at h9
    exact hty h9.2.1)).trans h1
   exact h2.other _ _ hbt
 go_wp2_with fail
 obtain ⟨W4, hW4, hq⟩ := HV.out
 have H3 : Hid _ := hq
 rw [← hW4]
 clear hW4 hq HV H2 r11 f11 H0
 refine wp_region_held_drew (S := fun w' : World => w'.rangeAt w.heap.size 0 [.int .i64 3, .int .i64 r.x.k, .int .i64 S.x.id, .int .i64 r.x.p, .int .i64 r.x.t, .int .i64 S.x.la, .int .i64 r.x.l, .int .i64 r.x.c, .int .i64 r.x.n, .int .i64 r.x.i, .string r.nm, .slice a2 r.l.length c2]) (by kernel_rfl) (H3.out.2.1.kept (Below.drew (Below.refl _ _))).range (fun hH => ?_)
 have H4 : Hid (LB W4.drew t 95 C ∧ LB W4.drew w.heap.size 28 [.int .i64 3, .int .i64 r.x.k, .int .i64 S.x.id, .int .i64 r.x.p, .int .i64 r.x.t, .int .i64 S.x.la, .int .i64 r.x.l, .int .i64 r.x.c, .int .i64 r.x.n, .int .i64 r.x.i, .string r.nm, .slice a2 r.l.length c2] ∧ Below w.heap.size w W4.drew ∧ OutT B W4.drew (.slice av nv cv) ps ∧ Own B W4.drew (.slice a2 r.l.length c2) r.l ∧ w.heap.size < W4.drew.heap.size) := HKEEP.out _ _ H3.out (Below.drew (Below.refl _ _))
 clear H3
 generalize W4.drew = W5 at *
 have c16 := H4.out.1.cell 16 (.slice av nv cv) (by rw [HC.out]; rfl)
 refine zqk 0 rfl hH ?_
 simp only [zq]
 refine zqk 1 rfl hH ?_
 simp only [zq]
 refine zqk 2 rfl hH ?_
 simp only [zq]
 refine zqk 3 rfl hH ?_
 simp only [zq]
 refine zql 5 rfl (yieldsIf_load_mid (by rfl) _ _ rfl _ _ rfl [.int .i64 3, .int .i64 r.x.k, .int .i64 S.x.id, .int .i64 r.x.p, .int .i64 r.x.t, .int .i64 S.x.la, .int .i64 r.x.l, .int .i64 r.x.c, .int .i64 r.x.n, .int .i64 r.x.i, .string r.nm, .slice a2 r.l.length c2] _ (fun w' hSw => hSw) Tryz.underlying28 rfl HIR.out) hH ?_
 simp only [zq]
 refine wpAnyH_ready (rs := [4, 6]) (by kernel_rfl) (by simp) ?_
 refine AllReadyH.cons rfl (fun K hK => ?_) ?_
 ·skip
  go_simp
  refine hK.out _ _ H4.out.2.1.range (fun hH2 => ?_)
  clear hK K hH
  have hH := hH2
  clear hH2
  refine zqr 6 rfl (fun K hK => ?_)
  go_simp
  have H6 : Hid (LB (W5.alloc (.cells #[.int .i64 3, .int .i64 r.x.k, .int .i64 S.x.id, .int .i64 r.x.p, .int .i64 r.x.t, .int .i64 S.x.la, .int .i64 r.x.l, .int .i64 r.x.c, .int .i64 r.x.n, .int .i64 r.x.i, .string r.nm, .slice a2 r.l.length c2] 28)) t 95 C ∧ LB (W5.alloc (.cells #[.int .i64 3, .int .i64 r.x.k, .int .i64 S.x.id, .int .i64 r.x.p, .int .i64 r.x.t, .int .i64 S.x.la, .int .i64 r.x.l, .int .i64 r.x.c, .int .i64 r.x.n, .int .i64 r.x.i, .string r.nm, .slice a2 r.l.length c2] 28)) w.heap.size 28 [.int .i64 3, .int .i64 r.x.k, .int .i64 S.x.id, .int .i64 r.x.p, .int .i64 r.x.t, .int .i64 S.x.la, .int .i64 r.x.l, .int .i64 r.x.c, .int .i64 r.x.n, .int .i64 r.x.i, .string r.nm, .slice a2 r.l.length c2] ∧ Below w.heap.size w (W5.alloc (.cells #[.int .i64 3, .int .i64 r.x.k, .int .i64 S.x.id, .int .i64 r.x.p, .int .i64 r.x.t, .int .i64 S.x.la, .int .i64 r.x.l, .int .i64 r.x.c, .int .i64 r.x.n, .int .i64 r.x.i, .string r.nm, .slice a2 r.l.length c2] 28)) ∧ OutT B (W5.alloc (.cells #[.int .i64 3, .int .i64 r.x.k, .int .i64 S.x.id, .int .i64 r.x.p, .int .i64 r.x.t, .int .i64 S.x.la, .int .i64 r.x.l, .int .i64 r.x.c, .int .i64 r.x.n, .int .i64 r.x.i, .string r.nm, .slice a2 r.l.length c2] 28)) (.slice av nv cv) ps ∧ Own B (W5.alloc (.cells #[.int .i64 3, .int .i64 r.x.k, .int .i64 S.x.id, .int .i64 r.x.p, .int .i64 r.x.t, .int .i64 S.x.la, .int .i64 r.x.l, .int .i64 r.x.c, .int .i64 r.x.n, .int .i64 r.x.i, .string r.nm, .slice a2 r.l.length c2] 28)) (.slice a2 r.l.length c2) r.l ∧ w.heap.size < (W5.alloc (.cells #[.int .i64 3, .int .i64 r.x.k, .int .i64 S.x.id, .int .i64 r.x.p, .int .i64 r.x.t, .int .i64 S.x.la, .int .i64 r.x.l, .int .i64 r.x.c, .int .i64 r.x.n, .int .i64 r.x.i, .string r.nm, .slice a2 r.l.length c2] 28)).heap.size) := HKEEP.out _ _ H4.out (up0 _ _)
  refine hK.out _ _ H6.out.2.1.range (fun hH2 => ?_)
  clear hK K hH
  have hH := hH2
  clear hH2
  have HCE : Hid ((W5.alloc (.cells #[.int .i64 3, .int .i64 r.x.k, .int .i64 S.x.id, .int .i64 r.x.p, .int .i64 r.x.t, .int .i64 S.x.la, .int .i64 r.x.l, .int .i64 r.x.c, .int .i64 r.x.n, .int .i64 r.x.i, .string r.nm, .slice a2 r.l.length c2] 28)).rangeAt W5.heap.size 0 (rcl (told S r, .slice a2 r.l.length c2))) := (lb_new W5 [.int .i64 3, .int .i64 r.x.k, .int .i64 S.x.id, .int .i64 r.x.p, .int .i64 r.x.t, .int .i64 S.x.la, .int .i64 r.x.l, .int .i64 r.x.c, .int .i64 r.x.n, .int .i64 r.x.i, .string r.nm, .slice a2 r.l.length c2] 28).range
  refine zqr 7 rfl (fun K hK => ?_)
  refine step_append_rec rfl (.tmp 25) (.tmp 27) 46 rfl B hin Tryz.underlying46 (.slice av nv cv) ps (told S r, .slice a2 r.l.length c2) rfl H6.out.2.2.2.1 W5.heap.size rfl HCE.out H6.out.2.2.2.2.1 (by omega) (by have := H6.out.2.2.2.2.2; have := HBW.out; omega) ?_
  intro v' w' hrow hb' hgr
  have HF : Hid _ := HFIN.out _ _ _ H6.out hrow hb' hgr
  have hrg : (Value.slice av nv cv).ownBlock ≠ some t := fun e => by obtain ⟨cs, z, h9⟩ := rrow_typed H6.out.2.2.2.1.1 t e; rw [H6.out.1] at h9; simp at h9
  have hLt : LB w' t 95 C := (hgr.block t H6.out.1.lt (Ne.symm hrg)).trans H6.out.1
  have hLx : LB w' w.heap.size 28 [.int .i64 3, .int .i64 r.x.k, .int .i64 S.x.id, .int .i64 r.x.p, .int .i64 r.x.t, .int .i64 S.x.la, .int .i64 r.x.l, .int .i64 r.x.c, .int .i64 r.x.n, .int .i64 r.x.i, .string r.nm, .slice a2 r.l.length c2] := (hgr.block _ H6.out.2.1.lt (fun e => Nat.lt_irrefl _ (HRB.out _ e.symm))).trans H6.out.2.1
  have HLX : Hid (LB (w'.setCell ⟨t, 16, none⟩ v') w.heap.size 28 [.int .i64 3, .int .i64 r.x.k, .int .i64 S.x.id, .int .i64 r.x.p, .int .i64 r.x.t, .int .i64 S.x.la, .int .i64 r.x.l, .int .i64 r.x.c, .int .i64 r.x.n, .int .i64 r.x.i, .string r.nm, .slice a2 r.l.length c2]) := hLx.other _ _ hg2
  have cg := hLt.cell 16 (.slice av nv cv) (by rw [HC.out]; rfl)
  have fg := hLt.free 16
  obtain ⟨a9, n9, c9, e9⟩ : ∃ a n c, v' = .slice a n c := by rcases hrow.1.2 with ⟨e, _⟩ | ⟨_, _, _, e, _⟩ <;> exact ⟨_, _, _, e⟩
  subst e9
  refine hK.out _ _ hLx.range (fun hH2 => ?_)
  clear hK K hH
  have hH := hH2
  clear hH2
  clear hrow hb' hgr hrg hLt hLx H4 H6 c16 HKEEP HFIN
  simp only [zq]
  refine zqk 8 rfl hH ?_
  simp only [zq]
  refine zqk 9 rfl hH ?_
  simp only [zq]
  refine zqr 10 rfl (fun K hK => ?_)
  go_simp
  refine hK.out _ _ HLX.out.range (fun hH2 => ?_)
  clear hK K hH
  have hH := hH2
  clear hH2
  refine wpAnyH_done (by kernel_rfl) ?_ _
  go_wp2
  go_end0
  obtain ⟨v9, d9, _, q1, q2, q3, q4⟩ := HF.out
  exact ⟨v9, d9, rfl, q1, q2, q3, q4⟩
 ·refine AllReadyH.cons rfl (fun K hK => ?_) AllReadyH.nil
  go_simp
  have H6 : Hid (LB (W5.alloc (.cells #[.int .i64 3, .int .i64 r.x.k, .int .i64 S.x.id, .int .i64 r.x.p, .int .i64 r.x.t, .int .i64 S.x.la, .int .i64 r.x.l, .int .i64 r.x.c, .int .i64 r.x.n, .int .i64 r.x.i, .string r.nm, .slice a2 r.l.length c2] 28)) t 95 C ∧ LB (W5.alloc (.cells #[.int .i64 3, .int .i64 r.x.k, .int .i64 S.x.id, .int .i64 r.x.p, .int .i64 r.x.t, .int .i64 S.x.la, .int .i64 r.x.l, .int .i64 r.x.c, .int .i64 r.x.n, .int .i64 r.x.i, .string r.nm, .slice a2 r.l.length c2] 28)) w.heap.size 28 [.int .i64 3, .int .i64 r.x.k, .int .i64 S.x.id, .int .i64 r.x.p, .int .i64 r.x.t, .int .i64 S.x.la, .int .i64 r.x.l, .int .i64 r.x.c, .int .i64 r.x.n, .int .i64 r.x.i, .string r.nm, .slice a2 r.l.length c2] ∧ Below w.heap.size w (W5.alloc (.cells #[.int .i64 3, .int .i64 r.x.k, .int .i64 S.x.id, .int .i64 r.x.p, .int .i64 r.x.t, .int .i64 S.x.la, .int .i64 r.x.l, .int .i64 r.x.c, .int .i64 r.x.n, .int .i64 r.x.i, .string r.nm, .slice a2 r.l.length c2] 28)) ∧ OutT B (W5.alloc (.cells #[.int .i64 3, .int .i64 r.x.k, .int .i64 S.x.id, .int .i64 r.x.p, .int .i64 r.x.t, .int .i64 S.x.la, .int .i64 r.x.l, .int .i64 r.x.c, .int .i64 r.x.n, .int .i64 r.x.i, .string r.nm, .slice a2 r.l.length c2] 28)) (.slice av nv cv) ps ∧ Own B (W5.alloc (.cells #[.int .i64 3, .int .i64 r.x.k, .int .i64 S.x.id, .int .i64 r.x.p, .int .i64 r.x.t, .int .i64 S.x.la, .int .i64 r.x.l, .int .i64 r.x.c, .int .i64 r.x.n, .int .i64 r.x.i, .string r.nm, .slice a2 r.l.length c2] 28)) (.slice a2 r.l.length c2) r.l ∧ w.heap.size < (W5.alloc (.cells #[.int .i64 3, .int .i64 r.x.k, .int .i64 S.x.id, .int .i64 r.x.p, .int .i64 r.x.t, .int .i64 S.x.la, .int .i64 r.x.l, .int .i64 r.x.c, .int .i64 r.x.n, .int .i64 r.x.i, .string r.nm, .slice a2 r.l.length c2] 28)).heap.size) := HKEEP.out _ _ H4.out (up0 _ _)
  refine hK.out _ _ H6.out.2.1.range (fun hH2 => ?_)
  clear hK K hH
  have hH := hH2
  clear hH2
  refine zqr 4 rfl (fun K hK => ?_)
  have c16b := H6.out.1.cell 16 (.slice av nv cv) (by rw [HC.out]; rfl)
  go_simp
  refine hK.out _ _ H6.out.2.1.range (fun hH2 => ?_)
  clear hK K hH
  have hH := hH2
  clear hH2
  have HCE : Hid ((W5.alloc (.cells #[.int .i64 3, .int .i64 r.x.k, .int .i64 S.x.id, .int .i64 r.x.p, .int .i64 r.x.t, .int .i64 S.x.la, .int .i64 r.x.l, .int .i64 r.x.c, .int .i64 r.x.n, .int .i64 r.x.i, .string r.nm, .slice a2 r.l.length c2] 28)).rangeAt W5.heap.size 0 (rcl (told S r, .slice a2 r.l.length c2))) := (lb_new W5 [.int .i64 3, .int .i64 r.x.k, .int .i64 S.x.id, .int .i64 r.x.p, .int .i64 r.x.t, .int .i64 S.x.la, .int .i64 r.x.l, .int .i64 r.x.c, .int .i64 r.x.n, .int .i64 r.x.i, .string r.nm, .slice a2 r.l.length c2] 28).range
  refine zqr 7 rfl (fun K hK => ?_)
  refine step_append_rec rfl (.tmp 25) (.tmp 27) 46 rfl B hin Tryz.underlying46 (.slice av nv cv) ps (told S r, .slice a2 r.l.length c2) rfl H6.out.2.2.2.1 W5.heap.size rfl HCE.out H6.out.2.2.2.2.1 (by omega) (by have := H6.out.2.2.2.2.2; have := HBW.out; omega) ?_
  intro v' w' hrow hb' hgr
  have HF : Hid _ := HFIN.out _ _ _ H6.out hrow hb' hgr
  have hrg : (Value.slice av nv cv).ownBlock ≠ some t := fun e => by obtain ⟨cs, z, h9⟩ := rrow_typed H6.out.2.2.2.1.1 t e; rw [H6.out.1] at h9; simp at h9
  have hLt : LB w' t 95 C := (hgr.block t H6.out.1.lt (Ne.symm hrg)).trans H6.out.1
  have hLx : LB w' w.heap.size 28 [.int .i64 3, .int .i64 r.x.k, .int .i64 S.x.id, .int .i64 r.x.p, .int .i64 r.x.t, .int .i64 S.x.la, .int .i64 r.x.l, .int .i64 r.x.c, .int .i64 r.x.n, .int .i64 r.x.i, .string r.nm, .slice a2 r.l.length c2] := (hgr.block _ H6.out.2.1.lt (fun e => Nat.lt_irrefl _ (HRB.out _ e.symm))).trans H6.out.2.1
  have HLX : Hid (LB (w'.setCell ⟨t, 16, none⟩ v') w.heap.size 28 [.int .i64 3, .int .i64 r.x.k, .int .i64 S.x.id, .int .i64 r.x.p, .int .i64 r.x.t, .int .i64 S.x.la, .int .i64 r.x.l, .int .i64 r.x.c, .int .i64 r.x.n, .int .i64 r.x.i, .string r.nm, .slice a2 r.l.length c2]) := hLx.other _ _ hg2
  have cg := hLt.cell 16 (.slice av nv cv) (by rw [HC.out]; rfl)
  have fg := hLt.free 16
  obtain ⟨a9, n9, c9, e9⟩ : ∃ a n c, v' = .slice a n c := by rcases hrow.1.2 with ⟨e, _⟩ | ⟨_, _, _, e, _⟩ <;> exact ⟨_, _, _, e⟩
  subst e9
  refine hK.out _ _ hLx.range (fun hH2 => ?_)
  clear hK K hH
  have hH := hH2
  clear hH2
  clear hrow hb' hgr hrg hLt hLx H4 H6 c16 HKEEP HFIN
  simp only [zq]
  refine zqk 8 rfl hH ?_
  simp only [zq]
  refine zqk 9 rfl hH ?_
  simp only [zq]
  refine zqr 10 rfl (fun K hK => ?_)
  go_simp
  refine hK.out _ _ HLX.out.range (fun hH2 => ?_)
  clear hK K hH
  have hH := hH2
  clear hH2
  refine wpAnyH_done (by kernel_rfl) ?_ _
  go_wp2
  go_end0
  obtain ⟨v9, d9, _, q1, q2, q3, q4⟩ := HF.out
  exact ⟨v9, d9, rfl, q1, q2, q3, q4⟩
theorem tell_T (B t : Nat) (S : Sg) (h : SH) (rs : List Rec) (r : Rec) (d : Value) (w : World) (k : TS B t S h rs w) (hB : B ≤ t) (hd : Bs w d r.l) (hl : r.l.length ≤ 16384) (hn : rs.length ≤ 10000) :
  Calls Tryz.prog 81 #[.pointer (some ⟨t, 0, none⟩), rv r.x r.nm d] w fun e w' => TP B t S h (rs ++ [told S r]) w e w' := by
 obtain ⟨v, ps, h1, h2, rfl⟩ := k
 refine (tell_any B t S h v ps r d w h1 h2 hB hd hl (by simpa using hn)).mono ?_
 rintro e w' ⟨v', d', he, q1, q2, q3, q4⟩
 exact ⟨he, ⟨v', _, q1, q2, by simp⟩, q3, q4⟩
theorem box1 (w : World) (t : TypeId) (Z D : List Value) (hl : D.length = Z.length) : LB ((w.alloc (.cells Z.toArray t)).setCells w.heap.size 0 D) w.heap.size t D ∧ Below w.heap.size w ((w.alloc (.cells Z.toArray t)).setCells w.heap.size 0 D) := ⟨(lb_new w Z t).sets D hl, below_cells (Nat.le_refl _) _ 0 _ (up0 _ _)⟩
theorem tbegin_any (B t : Nat) (S : Sg) (h : SH) (w : World) (k : TS B t S h [] w) (hB : B ≤ t) (hd : Bs w (.slice h.ai S.inp.length h.ci) S.inp) (hl : S.inp.length ≤ 16384) :
  Calls Tryz.prog 80 #[.pointer (some ⟨t, 0, none⟩)] w fun e w' => TP B t S h [stB S] w e w' := by
 have HTE : Hid (∀ w', TS B t S h [] w' → Bs w' (.slice h.ai S.inp.length h.ci) S.inp → Calls Tryz.prog 81 #[.pointer (some ⟨t, 0, none⟩), .agg #[.int .i64 0, .int .i64 1, .int .i64 0, .int .i64 0, .int .i64 0, .int .i64 0, .int .i64 0, .int .i64 0, .int .i64 S.x.cnt, .int .i64 S.x.piv, .string S.nm, .slice h.ai S.inp.length h.ci]] w' fun e w'' => ∃ v' d', e = .returned (.tuple #[]) ∧ LB w'' t 95 (scl S h ++ [v']) ∧ OutT B w'' v' [(⟨⟨3, 1, S.x.id, 0, 0, S.x.la, 0, 0, S.x.cnt, S.x.piv⟩, S.nm, S.inp⟩, d')] ∧ Below B w' w'' ∧ Fr t w' w'') := fun w' k' hb => by
  obtain ⟨v, ps, h1, h2, h3⟩ := k'
  obtain rfl : ps = [] := by simpa using h3
  exact tell_any B t S h v [] ⟨⟨0, 1, 0, 0, 0, 0, 0, 0, S.x.cnt, S.x.piv⟩, S.nm, S.inp⟩ _ w' h1 h2 hB hb hl (by simp)
 obtain ⟨Z, hZ⟩ : ∃ Z, Z = zcl := ⟨_, rfl⟩
 have HZ : Hid (Z = zcl) := hZ
 obtain ⟨D, hD, hL, hE⟩ := sv_letter S h
 have HL : Hid _ := hL
 have HE : Hid (D = scl S h) := hE
 have HR : Hid (w.rangeAt t 0 D) := by show w.rangeAt t 0 D; rw [hE]; exact k.range
 have H1 : Hid (∀ v ∈ D, v.oneCell' = true) := by show ∀ v ∈ D, _; rw [hE]; exact scl_one _ _
 have HDZ : Hid (D.length = Z.length) := by show _ = _; rw [hE, hZ]; rfl
 have HT1 : Hid ((w.alloc (.cells Z.toArray 31)).there w.heap.size 0 D.toArray.size) := there_of (lb_new w Z _) (by simpa using HDZ.out)
 have H2 : Hid (∃ W2, W2 = (w.alloc (.cells Z.toArray 31)).setCells w.heap.size 0 D ∧ LB W2 w.heap.size 31 D ∧ TS B t S h [] W2 ∧ Bs W2 (.slice h.ai S.inp.length h.ci) S.inp ∧ Below w.heap.size w W2) := by
  obtain ⟨q1, q2⟩ := box1 w 31 Z D HDZ.out
  exact ⟨_, rfl, q1, k.kept q2, hd.kept q2, q2⟩
 have hlt : t < w.heap.size := k.lt
 have hne : w.heap.size ≠ t := by omega
 have HLT : Hid (t < w.heap.size) := hlt
 clear k hd hD hL hE hZ
 go_enter Tryz.func80, Tryz.ntmps80
 go_wp2_with (first | (refine wpList_load_mid rfl 31 _ rfl t 0 rfl D _ HR.out Tryz.underlying31 rfl HL.out ?_) | (refine wpList_alloc_Z HZ.out rfl rfl ?_) | (refine wpList_store_mid rfl 31 (.tmp 2) (.tmp 6) rfl w.heap.size 0 D.toArray rfl rfl HT1.out (by simpa using HL.out) (all_oneCell_toArray H1.out) ?_; (obtain ⟨W2, hW2, hq⟩ := H2.out); (have H3 : Hid _ := hq); (rw [List.toList_toArray, ← hW2]); (clear hW2 hq H2 HT1); (have c1 := H3.out.1.cell 1 (.string S.nm) (by rw [HE.out]; rfl)); (have c2 := H3.out.1.cell 2 (.int .i64 S.x.cnt) (by rw [HE.out]; rfl)); (have c3 := H3.out.1.cell 3 (.int .i64 S.x.piv) (by rw [HE.out]; rfl)); (have c6 := H3.out.1.cell 6 (.slice h.ai S.inp.length h.ci) (by rw [HE.out]; rfl))) | fail)
 refine (HTE.out _ H3.out.2.1 H3.out.2.2.1).mono ?_
 rintro e w1 ⟨v1, d1, rfl, l1, o1, b1, f1⟩
 obtain ⟨g, cap, rfl⟩ : ∃ g cap, v1 = .slice (some ⟨g, 0, none⟩) 1 cap := by
  rcases o1.1.2 with ⟨_, e⟩ | ⟨g, cap, _, e, _⟩
  ·simp at e
  ·exact ⟨g, cap, e⟩
 have hbl : Below B w w1 := (H3.out.2.2.2.mono (by omega)).trans b1
 have hfr : Fr t w w1 := (Fr.below H3.out.2.2.2).trans f1
 have HB4 : Hid (LB w1 w.heap.size 31 D) := f1 _ _ _ hne (by decide) H3.out.1
 have hgB : B ≤ g := (World.ownsRow.lt o1.1 g rfl).1
 have hgt : g ≠ t := fun e => by obtain ⟨cs, z, h9⟩ := rrow_typed o1.1 g rfl; rw [e, l1] at h9; simp at h9
 obtain ⟨hst, hgr⟩ := o1.1.stored 5 (.int .i64 S.x.beg)
 have HFIN : Hid (TP B t S h [stB S] w (.returned (.tuple #[])) (w1.setCell ⟨g, 5, none⟩ (.int .i64 S.x.beg)).drew) := by
  refine ⟨rfl, ⟨.slice (some ⟨g, 0, none⟩) 1 cap, [(stB S, d1)], ?_, ⟨?_, ?_⟩, rfl⟩, ?_, ?_⟩
  ·exact (l1.other _ _ (Ne.symm hgt)).kept (Below.drew (Below.refl _ _))
  ·exact World.ownsRow.drew hst
  ·intro p hp
   obtain rfl := List.mem_singleton.1 hp
   have h1 := o1.2 _ (List.mem_singleton.2 rfl)
   refine (own_keptB h1 fun b e => set_other _ _ _ _ ?_).kept (Below.drew (Below.refl _ _))
   rintro rfl
   obtain ⟨cs, z, h8⟩ := own_typed h1 b e
   obtain ⟨cs', z', h9⟩ := rrow_typed o1.1 b rfl
   rw [h8] at h9
   simp at h9
  ·exact Below.drew (Below.setCell hbl hgB _)
  ·intro b ty C hbt hty hL
   have h1 := hfr b ty C hbt hty hL
   refine (h1.other _ _ ?_).kept (Below.drew (Below.refl _ _))
   rintro rfl
   obtain ⟨cs, z, h9⟩ := rrow_typed o1.1 b rfl
   rw [h1] at h9
   simp at h9
   exact hty h9.2.1
 have c16 := l1.cell 16 (.slice (some ⟨g, 0, none⟩) 1 cap) rfl
 have c4 := HB4.out.cell 4 (.int .i64 S.x.beg) (by rw [HE.out]; rfl)
 have g5 := o1.1.cellAt 5 (by decide)
 rw [show ([((⟨⟨3, 1, S.x.id, 0, 0, S.x.la, 0, 0, S.x.cnt, S.x.piv⟩, S.nm, S.inp⟩ : Rec), d1)].flatMap rcl)[5]? = some (.int .i64 S.x.la) from rfl] at g5
 have fg := o1.1.frozenAt 5
 clear c1 c2 c3 c6 H3 HTE hbl hfr hst hgr l1 o1 b1 f1
 go_wp2
 go_region
 go_wp2
 go_end0
 exact HFIN.out
theorem tfail_any (B t : Nat) (S : Sg) (h : SH) (rs : List Rec) (w : World) (k : TS B t S h rs w) (hB : B ≤ t) (w0 : World) (hB0 : B = w0.heap.size) (hA : SgAt w0 S h) (hb0 : Below B w0 w) (hf : S.fail.length ≤ 16384) (hu : shortP S.und = true) (hul : S.und.length ≤ 32) (hfs : 0 ≤ S.x.fs ∧ S.x.fs ≤ 32) (hfw : S.x.fwd = false) (hn : rs.length ≤ 5000) :
  Calls Tryz.prog 82 #[.pointer (some ⟨t, 0, none⟩)] w fun e w' => TP B t S h (rs ++ failL S) w e w' := by
 have HT1 : Hid (∀ (rs' : List Rec) (w' : World), TS B t S h rs' w' → rs'.length ≤ 10000 → Calls Tryz.prog 81 #[.pointer (some ⟨t, 0, none⟩), .agg #[.int .i64 0, .int .i64 2, .int .i64 0, .int .i64 S.x.fs, .int .i64 1, .int .i64 0, .int .i64 0, .int .i64 0, .int .i64 0, .int .i64 0, .string ⟨#[]⟩, .slice none 0 0]] w' fun e w'' => TP B t S h (rs' ++ [stR S 2 S.x.fs 1 0 0 []]) w' e w'') := fun rs' w' k' hn' => tell_T B t S h rs' ⟨⟨0, 2, 0, S.x.fs, 1, 0, 0, 0, 0, 0⟩, ⟨#[]⟩, []⟩ _ w' k' hB (Bs.nil _) (by simp) hn'
 have HT2 : Hid (∀ (rs' : List Rec) (w' : World), TS B t S h rs' w' → rs'.length ≤ 10000 → Bs w' (.slice h.af S.fail.length h.cf) S.fail → S.fail.length ≤ 16384 → Calls Tryz.prog 81 #[.pointer (some ⟨t, 0, none⟩), .agg #[.int .i64 0, .int .i64 4, .int .i64 0, .int .i64 S.x.fs, .int .i64 0, .int .i64 0, .int .i64 1, .int .i64 S.x.fc, .int .i64 0, .int .i64 0, .string ⟨#[]⟩, .slice h.af S.fail.length h.cf]] w' fun e w'' => TP B t S h (rs' ++ [stR S 4 S.x.fs 0 1 S.x.fc S.fail]) w' e w'') := fun rs' w' k' hn' hb hl => tell_T B t S h rs' ⟨⟨0, 4, 0, S.x.fs, 0, 0, 1, S.x.fc, 0, 0⟩, ⟨#[]⟩, S.fail⟩ _ w' k' hB hb hl hn'
 have HT3 : Hid (∀ (p : Int) (rs' : List Rec) (w' : World), TS B t S h rs' w' → rs'.length ≤ 10000 → Calls Tryz.prog 81 #[.pointer (some ⟨t, 0, none⟩), .agg #[.int .i64 0, .int .i64 5, .int .i64 0, .int .i64 p, .int .i64 1, .int .i64 0, .int .i64 0, .int .i64 0, .int .i64 0, .int .i64 0, .string ⟨#[]⟩, .slice none 0 0]] w' fun e w'' => TP B t S h (rs' ++ [stR S 5 p 1 0 0 []]) w' e w'') := fun p rs' w' k' hn' => tell_T B t S h rs' ⟨⟨0, 5, 0, p, 1, 0, 0, 0, 0, 0⟩, ⟨#[]⟩, []⟩ _ w' k' hB (Bs.nil _) (by simp) hn'
 have HT4 : Hid (∀ (p : Int) (d : Value) (o : List Nat) (rs' : List Rec) (w' : World), TS B t S h rs' w' → rs'.length ≤ 10000 → Bs w' (d) o → o.length ≤ 16384 → Calls Tryz.prog 81 #[.pointer (some ⟨t, 0, none⟩), .agg #[.int .i64 0, .int .i64 6, .int .i64 0, .int .i64 p, .int .i64 0, .int .i64 0, .int .i64 0, .int .i64 0, .int .i64 0, .int .i64 0, .string ⟨#[]⟩, d]] w' fun e w'' => TP B t S h (rs' ++ [stR S 6 p 0 0 0 o]) w' e w'') := fun p d o rs' w' k' hn' hb hl => tell_T B t S h rs' ⟨⟨0, 6, 0, p, 0, 0, 0, 0, 0, 0⟩, ⟨#[]⟩, o⟩ _ w' k' hB hb hl hn'
 have HK : Hid (∀ w', Below B w w' → Below w0.heap.size w0 w') := fun w' hb => by rw [← hB0]; exact hb0.trans hb
 have HU : Hid (∀ j (hj : j < S.und.length), ∃ b off d, h.au = some ⟨b, off, none⟩ ∧ (∀ w', Below B w w' → w'.cell? ⟨b, off + j, none⟩ = some d ∧ Bs w' d S.und[j]) ∧ S.und[j].length ≤ 16384) := fun j hj => by
  obtain ⟨a1, p1, e1, _, h1⟩ := hA.und.shape
  simp only [Value.slice.injEq] at e1
  obtain ⟨rfl, _, rfl⟩ := e1
  obtain ⟨b, off, r1, r2⟩ := h1 (by intro e; rw [e] at hj; simp at hj)
  obtain ⟨d, q1, q2⟩ := r2 j hj
  exact ⟨b, off, d, r1, fun w' hb => ⟨((HK.out w' hb).cell (World.block_lt_of_cell? _ _ q1)).trans q1, q2.kept (HK.out w' hb)⟩, by simpa using List.all_eq_true.1 hu _ (List.getElem_mem hj)⟩
 have HF : Hid (∀ w', Below B w w' → Bs w' (.slice h.af S.fail.length h.cf) S.fail) := fun w' hb => hA.fail.kept (HK.out w' hb)
 have HFL : Hid (failL S = stR S 2 S.x.fs 1 0 0 [] :: stR S 4 S.x.fs 0 1 S.x.fc S.fail :: undL S (S.x.fs - 1) S.und) := by show _ = _; unfold failL; rw [if_neg (by simp [hfw])]
 obtain ⟨Z, hZ⟩ : ∃ Z, Z = zcl := ⟨_, rfl⟩
 have HZ : Hid (Z = zcl) := hZ
 obtain ⟨D, hD, hL, hE⟩ := sv_letter S h
 have HL : Hid _ := hL
 have HE : Hid (D = scl S h) := hE
 have HR : Hid (w.rangeAt t 0 D) := by show w.rangeAt t 0 D; rw [hE]; exact k.range
 have H1 : Hid (∀ v ∈ D, v.oneCell' = true) := by show ∀ v ∈ D, _; rw [hE]; exact scl_one _ _
 have HDZ : Hid (D.length = Z.length) := by show _ = _; rw [hE, hZ]; rfl
 have HT : Hid ((w.alloc (.cells Z.toArray 31)).there w.heap.size 0 D.toArray.size) := there_of (lb_new w Z _) (by simpa using HDZ.out)
 have hlt : t < w.heap.size := k.lt
 have HNE : Hid (w.heap.size ≠ t ∧ B ≤ w.heap.size) := ⟨by omega, by omega⟩
 have H2 : Hid (∃ W2, W2 = (w.alloc (.cells Z.toArray 31)).setCells w.heap.size 0 D ∧ LB W2 w.heap.size 31 D ∧ TS B t S h rs W2 ∧ Below B w W2 ∧ Fr t w W2) := by
  obtain ⟨q1, q2⟩ := box1 w 31 Z D HDZ.out
  exact ⟨_, rfl, q1, k.kept q2, q2.mono HNE.out.2, Fr.below q2⟩
 clear k hA hb0 hB0 hu hfw hD hL hE hZ HK
 go_enter Tryz.func82, Tryz.ntmps82
 go_wp2_with (first | (refine wpList_load_mid rfl 31 _ rfl t 0 rfl D _ HR.out Tryz.underlying31 rfl HL.out ?_) | (refine wpList_alloc_Z HZ.out rfl rfl ?_) | (refine wpList_store_mid rfl 31 (.tmp 2) (.tmp 9) rfl w.heap.size 0 D.toArray rfl rfl HT.out (by simpa using HL.out) (all_oneCell_toArray H1.out) ?_; (obtain ⟨W2, hW2, hq⟩ := H2.out); (have H3 : Hid _ := hq); (rw [List.toList_toArray, ← hW2]); (clear hW2 hq H2 HT HR); (have c13 := H3.out.1.cell 13 (.int .i64 S.x.fs) (by rw [HE.out]; rfl))) | fail)
 refine (HT1.out _ _ H3.out.2.1 (by omega)).mono ?_
 rintro e w1 ⟨rfl, k1, b1, f1⟩
 have H4 : Hid (LB w1 w.heap.size 31 D ∧ TS B t S h (rs ++ [stR S 2 S.x.fs 1 0 0 []]) w1 ∧ Below B w w1 ∧ Fr t w w1) := ⟨f1 _ _ _ HNE.out.1 (by decide) H3.out.1, k1, H3.out.2.2.1.trans b1, H3.out.2.2.2.trans f1⟩
 clear k1 b1 f1 H3 HT1 c13
 have c13 := H4.out.1.cell 13 (.int .i64 S.x.fs) (by rw [HE.out]; rfl)
 have c14 := H4.out.1.cell 14 (.int .i64 S.x.fc) (by rw [HE.out]; rfl)
 have c15 := H4.out.1.cell 15 (.slice h.af S.fail.length h.cf) (by rw [HE.out]; rfl)
 go_wp2_with fail
 refine (HT2.out _ _ H4.out.2.1 (by simp; omega) (HF.out _ H4.out.2.2.1) (by assumption)).mono ?_
 rintro e w2 ⟨rfl, k2, b2, f2⟩
 have H5 : Hid (LB w2 w.heap.size 31 D ∧ TS B t S h (rs ++ [stR S 2 S.x.fs 1 0 0 []] ++ [stR S 4 S.x.fs 0 1 S.x.fc S.fail]) w2 ∧ Below B w w2 ∧ Fr t w w2) := ⟨f2 _ _ _ HNE.out.1 (by decide) H4.out.1, k2, H4.out.2.2.1.trans b2, H4.out.2.2.2.trans f2⟩
 clear k2 b2 f2 H4 HT2 HF c13 c14 c15
 have c12 := H5.out.1.cell 12 (.slice h.au S.und.length h.cu) (by rw [HE.out]; rfl)
 go_wp2
 clear c12
 go_loopw [27] (fun i wr => ∃ (n : Nat) (cur : List Rec), i = .int .i64 (n : Int) ∧ n ≤ S.und.length ∧ TS B t S h cur wr ∧ cur ++ undL S (S.x.fs - 1 - (n : Int)) (S.und.drop n) = rs ++ failL S ∧ cur.length ≤ rs.length + 2 + 2 * n ∧ LB wr w.heap.size 31 D ∧ Below B w wr ∧ Fr t w wr) (fun i _ => S.und.length - (intOf i).toNat)
 case atStart => exact ⟨0, _, rfl, Nat.zero_le _, H5.out.2.1, by rw [HFL.out]; simp, by simp, H5.out.1, H5.out.2.2.1, H5.out.2.2.2⟩
 case round =>
  obtain ⟨n, cur, rfl, hn2, kc, he, hcl, lb, bl, fr⟩ := hrel
  have HR : Hid (TS B t S h cur wr ∧ LB wr w.heap.size 31 D ∧ Below B w wr ∧ Fr t w wr) := ⟨kc, lb, bl, fr⟩
  have HEQ : Hid (cur ++ undL S (S.x.fs - 1 - (n : Int)) (S.und.drop n) = rs ++ failL S) := he
  clear kc lb bl fr he H5
  by_cases hlt2 : n < S.und.length
  ·obtain ⟨b, off, d, hau, qw, q3⟩ := HU.out n hlt2
   obtain ⟨o, hoo⟩ : ∃ o, S.und[n] = o := ⟨_, rfl⟩
   have HDR : Hid (S.und.drop n = o :: S.und.drop (n + 1)) := by show _ = _; rw [List.drop_eq_getElem_cons hlt2, hoo]
   rw [hoo] at qw q3
   obtain ⟨q1, q2⟩ := qw _ HR.out.2.2.1
   have HQ : Hid (o.length ≤ 16384) := q3
   have c13 := HR.out.2.1.cell 13 (.int .i64 S.x.fs) (by rw [HE.out]; rfl)
   have i1 : IntKind.i64.wrap (S.x.fs - 1) = S.x.fs - 1 := IntWalk.i64_in _ (by omega)
   have i2 : IntKind.i64.wrap (S.x.fs - 1 - (n : Int)) = S.x.fs - 1 - (n : Int) := IntWalk.i64_in _ (by omega)
   obtain ⟨ad, cd, rfl, _⟩ := q2.shape
   have HQW : Hid _ := qw
   clear q2 q3 hoo qw
   rw [hau]
   go_wp2_with fail
   refine (HT3.out _ _ _ HR.out.1 (by omega)).mono ?_
   rintro e w3 ⟨rfl, k3, b3, f3⟩
   have H6 : Hid (LB w3 w.heap.size 31 D ∧ TS B t S h (cur ++ [stR S 5 (S.x.fs - 1 - (n : Int)) 1 0 0 []]) w3 ∧ Below B w w3 ∧ Fr t w w3) := ⟨f3 _ _ _ HNE.out.1 (by decide) HR.out.2.1, k3, HR.out.2.2.1.trans b3, HR.out.2.2.2.trans f3⟩
   have H7 : Hid (Bs w3 (.slice ad o.length cd) o ∧ o.length ≤ 16384) := ⟨(HQW.out _ H6.out.2.2.1).2, HQ.out⟩
   clear k3 b3 f3 c13 q1
   go_wp2_with fail
   refine (HT4.out _ _ o _ _ H6.out.2.1 (by simp; omega) H7.out.1 H7.out.2).mono ?_
   rintro e w4 ⟨rfl, k4, b4, f4⟩
   have H8 : Hid (LB w4 w.heap.size 31 D ∧ TS B t S h (cur ++ [stR S 5 (S.x.fs - 1 - (n : Int)) 1 0 0 []] ++ [stR S 6 (S.x.fs - 1 - (n : Int)) 0 0 0 o]) w4 ∧ Below B w w4 ∧ Fr t w w4) := ⟨f4 _ _ _ HNE.out.1 (by decide) H6.out.1, k4, H6.out.2.2.1.trans b4, H6.out.2.2.2.trans f4⟩
   clear k4 b4 f4 H6 H7
   go_wp2
   go_roundw
   case rel => exact ⟨n + 1, _, by go_num, by omega, H8.out.2.1, by rw [← HEQ.out, HDR.out]; simp [undL]; congr 1; omega, by simp; omega, H8.out.1, H8.out.2.2.1, H8.out.2.2.2⟩
   case measure => simp [intOf]; omega
  ·obtain rfl : n = S.und.length := by omega
   have hfin : cur = rs ++ failL S := by
    have := HEQ.out
    rw [List.drop_length] at this
    simpa [undL] using this
   go_wp2
   go_end0
   exact ⟨rfl, by rw [← hfin]; exact HR.out.1, HR.out.2.2.1, HR.out.2.2.2⟩
theorem trl_step (S : Sg) (kk p : Int) (m n : Nat) : trL S kk p m (n + 1) = stR S kk p ((m : Int) + 1) 0 0 [] :: ((if n ≠ 0 ∨ S.x.fl = false then [stR S 4 p 0 0 0 []] else []) ++ trL S kk p (m + 1) n) := rfl
theorem tries_f (B t : Nat) (S : Sg) (h : SH) (rs : List Rec) (w : World) (k : TS B t S h rs w) (hB : B ≤ t) (hnx : 0 ≤ S.x.nx ∧ S.x.nx ≤ 32) (htr : 0 ≤ S.x.tr ∧ S.x.tr ≤ 1000) (hfw : S.x.fwd = true) (hn : rs.length ≤ 5000) :
  Calls Tryz.prog 83 #[.pointer (some ⟨t, 0, none⟩)] w fun e w' => TP B t S h (rs ++ trL S 2 S.x.turn 0 S.x.tr.toNat) w e w' := by
 obtain ⟨p, hp⟩ : ∃ p, S.x.turn = p := ⟨_, rfl⟩
 have HT1 : Hid (∀ (m : Int) (rs' : List Rec) (w' : World), TS B t S h rs' w' → rs'.length ≤ 10000 → Calls Tryz.prog 81 #[.pointer (some ⟨t, 0, none⟩), .agg #[.int .i64 0, .int .i64 2, .int .i64 0, .int .i64 p, .int .i64 m, .int .i64 0, .int .i64 0, .int .i64 0, .int .i64 0, .int .i64 0, .string ⟨#[]⟩, .slice none 0 0]] w' fun e w'' => TP B t S h (rs' ++ [stR S 2 p m 0 0 []]) w' e w'') := fun m rs' w' k' hn' => tell_T B t S h rs' ⟨⟨0, 2, 0, p, m, 0, 0, 0, 0, 0⟩, ⟨#[]⟩, []⟩ _ w' k' hB (Bs.nil _) (by simp) hn'
 have HT2 : Hid (∀ (rs' : List Rec) (w' : World), TS B t S h rs' w' → rs'.length ≤ 10000 → Calls Tryz.prog 81 #[.pointer (some ⟨t, 0, none⟩), .agg #[.int .i64 0, .int .i64 4, .int .i64 0, .int .i64 p, .int .i64 0, .int .i64 0, .int .i64 0, .int .i64 0, .int .i64 0, .int .i64 0, .string ⟨#[]⟩, .slice none 0 0]] w' fun e w'' => TP B t S h (rs' ++ [stR S 4 p 0 0 0 []]) w' e w'') := fun rs' w' k' hn' => tell_T B t S h rs' ⟨⟨0, 4, 0, p, 0, 0, 0, 0, 0, 0⟩, ⟨#[]⟩, []⟩ _ w' k' hB (Bs.nil _) (by simp) hn'
 have HTU0 : ∀ w', Calls Tryz.prog 95 #[sv S h] w' fun e w'' => e = .returned (.int .i64 p) ∧ Below w'.heap.size w' w'' := fun w' => by rw [← hp]; exact turn_any S h w' hnx
 have HFW0 : ∀ w', Calls Tryz.prog 51 #[sv S h] w' fun e w'' => e = .returned (.bool true) ∧ Below w'.heap.size w' w'' := fun w' => by rw [← hfw]; exact fwd_any S h w'
 obtain ⟨D, hD, hL, hE⟩ := sv_letter S h
 rw [hD] at HTU0 HFW0
 have HTU : Hid _ := HTU0
 have HFW : Hid _ := HFW0
 have HL : Hid _ := hL
 have HE : Hid (D = scl S h) := hE
 have HR : Hid (∀ rs' w', TS B t S h rs' w' → w'.rangeAt t 0 D) := fun rs' w' k' => by show w'.rangeAt t 0 D; rw [hE]; exact k'.range
 have H0 : Hid (TS B t S h rs w ∧ B ≤ w.heap.size) := ⟨k, by have := k.lt; omega⟩
 have HRw : Hid (w.rangeAt t 0 D) := HR.out _ _ k
 have hT : (S.x.tr.toNat : Int) = S.x.tr := by omega
 rw [hp]
 clear k hD hL hE hp hnx hfw HTU0 HFW0
 go_enter Tryz.func83, Tryz.ntmps83
 go_wp2_with (first | (refine wpList_load_mid rfl 31 _ rfl t 0 rfl D _ HRw.out Tryz.underlying31 rfl HL.out ?_) | fail)
 refine (HTU.out _).mono ?_
 rintro e w1 ⟨rfl, b1⟩
 have H1 : Hid (TS B t S h rs w1 ∧ Below w.heap.size w w1) := ⟨H0.out.1.kept b1, b1⟩
 have HR1 : Hid (w1.rangeAt t 0 D) := HR.out _ _ H1.out.1
 clear b1 HRw
 go_wp2_with (first | (refine wpList_load_mid rfl 31 _ rfl t 0 rfl D _ HR1.out Tryz.underlying31 rfl HL.out ?_) | fail)
 refine (HFW.out _).mono ?_
 rintro e w2 ⟨rfl, b2⟩
 have H2 : Hid (TS B t S h rs w2 ∧ Below w.heap.size w w2) := ⟨H1.out.1.kept b2, andThen H1.out.2 b2⟩
 clear b2 HR1 H1 HTU HFW
 go_wp2
 go_loopw [4] (fun i wr => ∃ (m : Nat) (cur : List Rec), i = .int .i64 ((m : Int) + 1) ∧ m ≤ S.x.tr.toNat ∧ TS B t S h cur wr ∧ cur ++ trL S 2 p m (S.x.tr.toNat - m) = rs ++ trL S 2 p 0 S.x.tr.toNat ∧ cur.length ≤ rs.length + 2 * m ∧ Below B w wr ∧ Fr t w wr) (fun i _ => S.x.tr.toNat + 1 - (intOf i).toNat)
 case atStart => exact ⟨0, rs, rfl, Nat.zero_le _, H2.out.1, by simp, by simp, H2.out.2.mono H0.out.2, Fr.below H2.out.2⟩
 case round =>
  obtain ⟨m, cur, rfl, hm, kc, he, hcl, bl, fr⟩ := hrel
  have HC : Hid (TS B t S h cur wr ∧ Below B w wr ∧ Fr t w wr) := ⟨kc, bl, fr⟩
  have HEQ : Hid (cur ++ trL S 2 p m (S.x.tr.toNat - m) = rs ++ trL S 2 p 0 S.x.tr.toNat) := he
  clear kc bl fr he H2
  have c10 := HC.out.1.cell 10 (.int .i64 S.x.tr) rfl
  by_cases hlt : m < S.x.tr.toNat
  ·obtain ⟨n, hnn⟩ : ∃ n, S.x.tr.toNat - m = n + 1 := ⟨S.x.tr.toNat - m - 1, by omega⟩
   have hn2 : S.x.tr.toNat - (m + 1) = n := by omega
   rw [hnn, trl_step] at HEQ
   have d1 : decide ((m : Int) + 1 ≤ S.x.tr) = true := by simp; omega
   go_wp2_with fail
   refine (HT1.out _ _ _ HC.out.1 (by omega)).mono ?_
   rintro e w3 ⟨rfl, k3, b3, f3⟩
   have H3 : Hid (TS B t S h (cur ++ [stR S 2 p ((m : Int) + 1) 0 0 []]) w3 ∧ Below B w w3 ∧ Fr t w w3) := ⟨k3, HC.out.2.1.trans b3, HC.out.2.2.trans f3⟩
   clear k3 b3 f3 HC c10 d1
   have c10 := H3.out.1.cell 10 (.int .i64 S.x.tr) rfl
   by_cases hn0 : n = 0
   ·have d2 : decide ((m : Int) + 1 < S.x.tr) = false := by simp; omega
    cases hfl : S.x.fl with
    | true =>
     have c9 := H3.out.1.cell 9 (.bool true) (by rw [← hfl]; rfl)
     rw [if_neg (by simp [hn0, hfl])] at HEQ
     go_wp2
     go_roundw
     case rel => exact ⟨m + 1, _, by go_num, by omega, H3.out.1, by rw [hn2, ← HEQ.out]; simp, by simp; omega, H3.out.2.1, H3.out.2.2⟩
     case measure => simp [intOf]; omega
    | false =>
     have c9 := H3.out.1.cell 9 (.bool false) (by rw [← hfl]; rfl)
     rw [if_pos (.inr hfl)] at HEQ
     go_wp2_with fail
     refine (HT2.out _ _ H3.out.1 (by simp; omega)).mono ?_
     rintro e w4 ⟨rfl, k4, b4, f4⟩
     have H4 : Hid (TS B t S h (cur ++ [stR S 2 p ((m : Int) + 1) 0 0 []] ++ [stR S 4 p 0 0 0 []]) w4 ∧ Below B w w4 ∧ Fr t w w4) := ⟨k4, H3.out.2.1.trans b4, H3.out.2.2.trans f4⟩
     clear k4 b4 f4 H3 c10 c9
     go_wp2
     go_roundw
     case rel => exact ⟨m + 1, _, by go_num, by omega, H4.out.1, by rw [hn2, ← HEQ.out]; simp, by simp; omega, H4.out.2.1, H4.out.2.2⟩
     case measure => simp [intOf]; omega
   ·have d2 : decide ((m : Int) + 1 < S.x.tr) = true := by simp; omega
    rw [if_pos (.inl hn0)] at HEQ
    go_wp2_with fail
    refine (HT2.out _ _ H3.out.1 (by simp; omega)).mono ?_
    rintro e w4 ⟨rfl, k4, b4, f4⟩
    have H4 : Hid (TS B t S h (cur ++ [stR S 2 p ((m : Int) + 1) 0 0 []] ++ [stR S 4 p 0 0 0 []]) w4 ∧ Below B w w4 ∧ Fr t w w4) := ⟨k4, H3.out.2.1.trans b4, H3.out.2.2.trans f4⟩
    clear k4 b4 f4 H3 c10
    go_wp2
    go_roundw
    case rel => exact ⟨m + 1, _, by go_num, by omega, H4.out.1, by rw [hn2, ← HEQ.out]; simp, by simp; omega, H4.out.2.1, H4.out.2.2⟩
    case measure => simp [intOf]; omega
  ·obtain rfl : m = S.x.tr.toNat := by omega
   have d1 : decide (((S.x.tr.toNat : Nat) : Int) + 1 ≤ S.x.tr) = false := by simp; omega
   have hfin : cur = rs ++ trL S 2 p 0 S.x.tr.toNat := by
    have := HEQ.out
    rw [Nat.sub_self] at this
    simpa [trL] using this
   go_wp2
   go_end0
   exact ⟨rfl, by rw [← hfin]; exact HC.out.1, HC.out.2.1, HC.out.2.2⟩
end Go.Proofs.YtgmkjcfdpiinpaaGreatDoor

