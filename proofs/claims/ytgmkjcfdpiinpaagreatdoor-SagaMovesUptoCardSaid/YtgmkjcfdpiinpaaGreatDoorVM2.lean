import Derived.Laws.AppendOwnNone
import Derived.Deep.RegionWith
import Derived.Deep.CutRange
import Derived.RegionTactic
import Derived.Test.YtgmkjcfdpiinpaaGreatDoorVS8
import Derived.Test.YtgmkjcfdpiinpaaGreatDoorVM1
set_option maxRecDepth 100000
set_option maxHeartbeats 4000000
namespace Go.Proofs.YtgmkjcfdpiinpaaGreatDoor
open Go Go.RowKit
open Wb

theorem undone_any (S : Sg) (h : SH) (x : Nums) (nm : ByteArray) (ad : Option Addr) (l : List Nat) (cd : Nat) (B g : Nat) (w : World) (L : LB w g 61 (scl S h)) (hB : B ≤ g) (hR : OwnP B w (.slice h.au S.und.length h.cu) S.und) (hd : Own B w (.slice ad l.length cd) l) (hn : 0 ≤ S.x.nx ∧ S.x.nx ≤ 32) (hs : S.und.length ≤ 100) :
  Calls Tryz.prog 64 #[.pointer (some ⟨g, 0, none⟩), rv x nm (.slice ad l.length cd)] w fun e w' => ∃ a', ∃ c' : Nat, e = .returned (.tuple #[]) ∧ LB w' g 61 (scl { S with x := { S.x with fl := false, tr := 0, nx := S.x.nx - 1 }, und := S.und ++ [l] } { h with au := a', cu := c' }) ∧ OwnP B w' (.slice a' (S.und.length + 1) c') (S.und ++ [l]) ∧ But B g (Value.slice h.au S.und.length h.cu).ownBlock w w' := by
 obtain ⟨E, hD2, hL2, hE2⟩ := rv_letter x nm (.slice ad l.length cd)
 rw [hD2]
 obtain ⟨C, hC⟩ : ∃ C, scl S h = C := ⟨_, rfl⟩
 rw [hC] at L
 have HC : Hid (C = scl S h) := hC.symm
 have HE2 : Hid (E = rcE x nm (.slice ad l.length cd)) := hE2
 have hg : g ≠ w.heap.size := Nat.ne_of_lt L.lt
 have hg2 : w.heap.size ≠ g := Ne.symm hg
 have HIN : Hid ((Tryz.prog.info? 26).map (fun i => (i.zero, i.size, i.bytes)) = some (some (.slice none 0 0), 1, 24)) := info22
 have i1 : IntKind.i64.wrap (S.x.nx - 1) = S.x.nx - 1 := IntWalk.i64_in _ (by omega)
 obtain ⟨vs, hr, hvl, hve⟩ := hR
 have HX := lb_rec w g 61 28 C E L
 have hlt := L.lt
 have HLT : Hid (g < w.heap.size) := L.lt
 have hoth : ∀ b, b < w.heap.size → b ≠ g → ((((w.alloc (.cells E.toArray 28)).setCell ⟨g, 9, none⟩ (.bool false)).setCell ⟨g, 10, none⟩ (.int .i64 0)).setCell ⟨g, 8, none⟩ (.int .i64 (S.x.nx - 1))).heap[b]? = w.heap[b]? := fun b hb hne => by rw [set_other _ _ _ _ hne, set_other _ _ _ _ hne, set_other _ _ _ _ hne, heap_old _ _ _ hb]
 have hrg : (Value.slice h.au S.und.length h.cu).ownBlock ≠ some g := fun e => by obtain ⟨cs, z, h9⟩ := row_typed hr g e; rw [L] at h9; simp at h9
 have hdg : ∀ (v : Value) (m : List Nat), Own B w v m → v.ownBlock ≠ some g := fun v m hv e => by rcases hv.row.2 with ⟨e3, _⟩ | ⟨g', cap, cur, e3, _, hg', _⟩; (· rw [e3] at e; simp [Value.ownBlock] at e); (· rw [e3] at e; simp [Value.ownBlock] at e; subst e; rw [L] at hg'; simp at hg')
 have HW : Hid (∃ W2, W2 = ((((w.alloc (.cells E.toArray 28)).setCell ⟨g, 9, none⟩ (.bool false)).setCell ⟨g, 10, none⟩ (.int .i64 0)).setCell ⟨g, 8, none⟩ (.int .i64 (S.x.nx - 1))) ∧ LB W2 g 61 (((C.set 9 (.bool false)).set 10 (.int .i64 0)).set 8 (.int .i64 (S.x.nx - 1))) ∧ LB W2 w.heap.size 28 E ∧ Below g w W2 ∧ Row B W2 (.slice h.au S.und.length h.cu) vs ∧ (∀ j (h : j < vs.length) (h2 : j < S.und.length), Own B W2 vs[j] S.und[j]) ∧ Own B W2 (.slice ad l.length cd) l ∧ (∀ b, b < w.heap.size → b ≠ g → W2.heap[b]? = w.heap[b]?) ∧ w.heap.size < W2.heap.size) := ⟨_, rfl, ((HX.1.set _ _).set _ _).set _ _, ((HX.2.1.other _ _ hg2).other _ _ hg2).other _ _ hg2, Below.setCell (Below.setCell (Below.setCell (below_le HX.2.2 (Nat.le_of_lt hlt)) (Nat.le_refl _) _) (Nat.le_refl _) _) (Nat.le_refl _) _, row_kept2 hr (fun b e => hoth b (row_block hr b e).2 (fun e2 => hrg (by rw [e, e2]))), fun j a b => own_keptB (hve j a b) (fun c e => hoth c (own_block (hve j a b) c e).2 (fun e2 => hdg _ _ (hve j a b) (by rw [e, e2]))), own_keptB hd (fun c e => hoth c (own_block hd c e).2 (fun e2 => hdg _ _ hd (by rw [e, e2]))), hoth, (((HX.2.1.other _ _ hg2).other _ _ hg2).other _ _ hg2).lt⟩
 have HC0 := HX.1
 have c9 := HX.1.cell 9 (.bool S.x.fl) (by rw [HC.out]; rfl)
 have f9 := HX.1.free 9
 have c10 := HX.1.cell 10 (.int .i64 S.x.tr) (by rw [HC.out]; rfl)
 have f10 := HX.1.free 10
 have c8 := HX.1.cell 8 (.int .i64 S.x.nx) (by rw [HC.out]; rfl)
 have f8 := HX.1.free 8
 have HVL : Hid (vs.length = S.und.length) := hvl
 clear hD2 hL2 hE2 hC L hr hvl hve hd HX hoth hrg hdg HC0 hlt
 go_enter Tryz.func64, Tryz.ntmps64
 go_wp2
 obtain ⟨W2, hW2, HW3⟩ := HW.out
 rw [← hW2]
 have HW4 : Hid _ := HW3
 clear hW2 HW HW3 c9 f9 c10 f10 c8 f8
 obtain ⟨C2, hC2⟩ : ∃ C2, ((C.set 9 (.bool false)).set 10 (.int .i64 0)).set 8 (.int .i64 (S.x.nx - 1)) = C2 := ⟨_, rfl⟩
 rw [hC2] at HW4
 have HC2 : Hid (C2 = scl { S with x := { S.x with fl := false, tr := 0, nx := S.x.nx - 1 } } h) := by show _ = _; rw [← hC2, HC.out]; rfl
 clear hC2 HC i1
 have HKEEP : Hid (∀ W W' : World, (LB W g 61 C2 ∧ LB W w.heap.size 28 E ∧ Below g w W ∧ Row B W (.slice h.au S.und.length h.cu) vs ∧ (∀ j (h : j < vs.length) (h2 : j < S.und.length), Own B W vs[j] S.und[j]) ∧ Own B W (.slice ad l.length cd) l ∧ (∀ b, b < w.heap.size → b ≠ g → W.heap[b]? = w.heap[b]?) ∧ w.heap.size < W.heap.size) → Below W.heap.size W W' → (LB W' g 61 C2 ∧ LB W' w.heap.size 28 E ∧ Below g w W' ∧ Row B W' (.slice h.au S.und.length h.cu) vs ∧ (∀ j (h : j < vs.length) (h2 : j < S.und.length), Own B W' vs[j] S.und[j]) ∧ Own B W' (.slice ad l.length cd) l ∧ (∀ b, b < w.heap.size → b ≠ g → W'.heap[b]? = w.heap[b]?) ∧ w.heap.size < W'.heap.size)) := fun W W' H b9 => ⟨H.1.kept b9, H.2.1.kept b9, H.2.2.1.trans (below_le b9 (Nat.le_of_lt H.1.lt)), H.2.2.2.1.kept b9, fun j a b => (H.2.2.2.2.1 j a b).kept b9, H.2.2.2.2.2.1.kept b9, fun b h1 h2 => (b9.block b (Nat.lt_trans h1 H.2.2.2.2.2.2.2)).trans (H.2.2.2.2.2.2.1 b h1 h2), Nat.lt_of_lt_of_le H.2.2.2.2.2.2.2 b9.size⟩
 have HFIN : Hid (∀ (W W' : World) (v' : Value), (LB W g 61 C2 ∧ LB W w.heap.size 28 E ∧ Below g w W ∧ Row B W (.slice h.au S.und.length h.cu) vs ∧ (∀ j (h : j < vs.length) (h2 : j < S.und.length), Own B W vs[j] S.und[j]) ∧ Own B W (.slice ad l.length cd) l ∧ (∀ b, b < w.heap.size → b ≠ g → W.heap[b]? = w.heap[b]?) ∧ w.heap.size < W.heap.size) → Row B W' v' (vs ++ [.slice ad l.length cd]) → Below B W W' → W.grownBy W' (Value.slice h.au S.und.length h.cu).ownBlock → ∃ a', ∃ c' : Nat, LB (W'.setCell ⟨g, 12, none⟩ v') g 61 (scl { S with x := { S.x with fl := false, tr := 0, nx := S.x.nx - 1 }, und := S.und ++ [l] } { h with au := a', cu := c' }) ∧ OwnP B (W'.setCell ⟨g, 12, none⟩ v') (.slice a' (S.und.length + 1) c') (S.und ++ [l]) ∧ But B g (Value.slice h.au S.und.length h.cu).ownBlock w (W'.setCell ⟨g, 12, none⟩ v')) := by
  intro W W' v' H hrow hb' hgr
  have hrg : (Value.slice h.au S.und.length h.cu).ownBlock ≠ some g := fun e => by obtain ⟨cs, z, h9⟩ := row_typed H.2.2.2.1 g e; rw [H.1] at h9; simp at h9
  have hpush := OwnP.push H.2.2.2.1 HVL.out H.2.2.2.2.1 H.2.2.2.2.2.1 hrow hgr
  have hLg : LB W' g 61 C2 := (hgr.block g H.1.lt (Ne.symm hrg)).trans H.1
  obtain ⟨a', c', e'⟩ := hpush.shape
  have hln : (S.und ++ [l]).length = S.und.length + 1 := by simp
  rw [hln] at e'
  subst e'
  have hrow2 : (Value.slice a' (S.und.length + 1) c').ownBlock ≠ some g := fun e => by obtain ⟨cs, z, h9⟩ := row_typed hrow g e; rw [hLg] at h9; simp at h9
  refine ⟨a', c', ?_, ?_, ⟨?_, ?_⟩⟩
  ·have e := hLg.set 12 (.slice a' (S.und.length + 1) c')
   rw [HC2.out] at e
   have e3 : scl { S with x := { S.x with fl := false, tr := 0, nx := S.x.nx - 1 }, und := S.und ++ [l] } { h with au := a', cu := c' } = (scl { S with x := { S.x with fl := false, tr := 0, nx := S.x.nx - 1 } } h).set 12 (.slice a' (S.und.length + 1) c') := by simp [scl]
   rw [e3]; exact e
  ·obtain ⟨us, u1, u2, u3⟩ := hpush
   refine ⟨us, row_kept2 u1 (fun b e => set_other _ _ _ _ (fun e2 => hrow2 (by rw [e]; exact congrArg some e2))), u2, fun j a b => own_keptB (u3 j a b) (fun c e => set_other _ _ _ _ (fun e2 => ?_))⟩
   rcases (u3 j a b).row.2 with ⟨e3, _⟩ | ⟨g', cap, cur, e3, _, hg', _⟩
   ·rw [e3] at e; simp [Value.ownBlock] at e
   ·rw [e3] at e; simp [Value.ownBlock] at e; subst e; have e2' : g' = g := e2; subst e2'; rw [hLg] at hg'; simp at hg'
  ·exact Below.setCell ((below_le H.2.2.1 hB).trans hb') hB _
  ·intro b hbg hne
   rw [set_other _ _ _ _ (show b ≠ g by omega), hgr.block b (by have := H.1.lt; omega) (Ne.symm hne)]
   exact H.2.2.2.2.2.2.1 b (Nat.lt_trans hbg HLT.out) (by omega)
 refine wp_region_held_drew (S := fun _ => True) (by kernel_rfl) trivial (fun hH => ?_)
 have H1 : Hid (LB W2.drew g 61 C2 ∧ LB W2.drew w.heap.size 28 E ∧ Below g w W2.drew ∧ Row B W2.drew (.slice h.au S.und.length h.cu) vs ∧ (∀ j (h : j < vs.length) (h2 : j < S.und.length), Own B W2.drew vs[j] S.und[j]) ∧ Own B W2.drew (.slice ad l.length cd) l ∧ (∀ b, b < w.heap.size → b ≠ g → W2.drew.heap[b]? = w.heap[b]?) ∧ w.heap.size < W2.drew.heap.size) := HKEEP.out _ _ HW4.out (Below.drew (Below.refl _ _))
 clear HW4
 generalize W2.drew = W3 at *
 have cO := H1.out.1.cell 12 (.slice h.au S.und.length h.cu) (by rw [HC2.out]; rfl)
 have cR := H1.out.2.1.cell 11 (.slice ad l.length cd) (by rw [HE2.out]; rfl)
 refine zqk 0 rfl hH ?_
 simp only [zq]
 refine zqk 1 rfl hH ?_
 simp only [zq]
 refine zqk 2 rfl hH ?_
 simp only [zq]
 refine zqk 3 rfl hH ?_
 simp only [zq]
 refine zqk 5 rfl hH ?_
 simp only [zq]
 refine wpAnyH_ready (rs := [4, 6]) (by kernel_rfl) (by simp) ?_
 refine AllReadyH.cons rfl (fun K hK => ?_) ?_
 ·skip
  go_simp
  refine hK.out _ _ trivial (fun _ => ?_)
  clear hK K
  refine zqr 6 rfl (fun K hK => ?_)
  go_simp
  refine hK.out _ _ trivial (fun _ => ?_)
  clear hK K
  refine zqr 7 rfl (fun K hK => ?_)
  go_simp
  refine hK.out _ _ trivial (fun _ => ?_)
  clear hK K
  have H2 : Hid (LB (W3.alloc (.cells #[.slice ad l.length cd] 26)) g 61 C2 ∧ LB (W3.alloc (.cells #[.slice ad l.length cd] 26)) w.heap.size 28 E ∧ Below g w (W3.alloc (.cells #[.slice ad l.length cd] 26)) ∧ Row B (W3.alloc (.cells #[.slice ad l.length cd] 26)) (.slice h.au S.und.length h.cu) vs ∧ (∀ j (h : j < vs.length) (h2 : j < S.und.length), Own B (W3.alloc (.cells #[.slice ad l.length cd] 26)) vs[j] S.und[j]) ∧ Own B (W3.alloc (.cells #[.slice ad l.length cd] 26)) (.slice ad l.length cd) l ∧ (∀ b, b < w.heap.size → b ≠ g → (W3.alloc (.cells #[.slice ad l.length cd] 26)).heap[b]? = w.heap[b]?) ∧ w.heap.size < (W3.alloc (.cells #[.slice ad l.length cd] 26)).heap.size) := HKEEP.out _ _ H1.out (up0 _ _)
  have HCE : Hid ((W3.alloc (.cells #[.slice ad l.length cd] 26)).cell? ⟨W3.heap.size, 0, none⟩ = some (.slice ad l.length cd)) := by show _ = _; rw [World.cell?_alloc_new]; rfl
  have cO2 := H2.out.1.cell 12 (.slice h.au S.und.length h.cu) (by rw [HC2.out]; rfl)
  refine zqr 8 rfl (fun K hK => ?_)
  refine step_push rfl (.tmp 21) (.tmp 24) 29 rfl B HIN.out Tryz.underlying29 (.slice h.au S.und.length h.cu) vs rfl H2.out.2.2.2.1 W3.heap.size (.slice ad l.length cd) rfl HCE.out rfl (by rw [HVL.out]; omega) (Nat.le_trans hB (Nat.le_of_lt H2.out.1.lt)) ?_
  intro v' w' hrow hb' hgr
  have HF : Hid _ := HFIN.out _ _ _ H2.out hrow hb' hgr
  have hrg : (Value.slice h.au S.und.length h.cu).ownBlock ≠ some g := fun e => by obtain ⟨cs, z, h9⟩ := row_typed H2.out.2.2.2.1 g e; rw [H2.out.1] at h9; simp at h9
  have hLg : LB w' g 61 C2 := (hgr.block g H2.out.1.lt (Ne.symm hrg)).trans H2.out.1
  have cg := hLg.cell 12 (.slice h.au S.und.length h.cu) (by rw [HC2.out]; rfl)
  have fg := hLg.free 12
  have h1c : v'.oneCell' = true := by rcases Row.shape hrow with ⟨e, _⟩ | ⟨_, _, e, _⟩ <;> (rw [e]; rfl)
  obtain ⟨a9, n9, c9, e9⟩ : ∃ a n c, v' = .slice a n c := by rcases Row.shape hrow with ⟨e, _⟩ | ⟨_, _, e, _⟩ <;> exact ⟨_, _, _, e⟩
  subst e9
  refine hK.out _ _ trivial (fun _ => ?_)
  clear hK K hrow hb' hgr hrg hLg h1c H1 H2 cO cO2 cR HKEEP HFIN
  simp only [zq]
  refine zqk 9 rfl hH ?_
  simp only [zq]
  refine zqk 10 rfl hH ?_
  simp only [zq]
  refine zqr 11 rfl (fun K hK => ?_)
  go_simp
  refine hK.out _ _ trivial (fun _ => ?_)
  clear hK K
  refine wpAnyH_done (by kernel_rfl) ?_ _
  go_wp2
  go_end0
  obtain ⟨a', c', q1, q2, q3⟩ := HF.out
  exact ⟨rfl, a', c', q1, q2, q3⟩
 ·refine AllReadyH.cons rfl (fun K hK => ?_) AllReadyH.nil
  go_simp
  refine hK.out _ _ trivial (fun _ => ?_)
  clear hK K
  refine wpAnyH_ready (rs := [4, 7]) (by kernel_rfl) (by simp) ?_
  refine AllReadyH.cons rfl (fun K hK => ?_) ?_
  ·skip
   go_simp
   refine hK.out _ _ trivial (fun _ => ?_)
   clear hK K
   refine zqr 7 rfl (fun K hK => ?_)
   go_simp
   refine hK.out _ _ trivial (fun _ => ?_)
   clear hK K
   have H2 : Hid (LB (W3.alloc (.cells #[.slice ad l.length cd] 26)) g 61 C2 ∧ LB (W3.alloc (.cells #[.slice ad l.length cd] 26)) w.heap.size 28 E ∧ Below g w (W3.alloc (.cells #[.slice ad l.length cd] 26)) ∧ Row B (W3.alloc (.cells #[.slice ad l.length cd] 26)) (.slice h.au S.und.length h.cu) vs ∧ (∀ j (h : j < vs.length) (h2 : j < S.und.length), Own B (W3.alloc (.cells #[.slice ad l.length cd] 26)) vs[j] S.und[j]) ∧ Own B (W3.alloc (.cells #[.slice ad l.length cd] 26)) (.slice ad l.length cd) l ∧ (∀ b, b < w.heap.size → b ≠ g → (W3.alloc (.cells #[.slice ad l.length cd] 26)).heap[b]? = w.heap[b]?) ∧ w.heap.size < (W3.alloc (.cells #[.slice ad l.length cd] 26)).heap.size) := HKEEP.out _ _ H1.out (up0 _ _)
   have HCE : Hid ((W3.alloc (.cells #[.slice ad l.length cd] 26)).cell? ⟨W3.heap.size, 0, none⟩ = some (.slice ad l.length cd)) := by show _ = _; rw [World.cell?_alloc_new]; rfl
   have cO2 := H2.out.1.cell 12 (.slice h.au S.und.length h.cu) (by rw [HC2.out]; rfl)
   refine zqr 8 rfl (fun K hK => ?_)
   refine step_push rfl (.tmp 21) (.tmp 24) 29 rfl B HIN.out Tryz.underlying29 (.slice h.au S.und.length h.cu) vs rfl H2.out.2.2.2.1 W3.heap.size (.slice ad l.length cd) rfl HCE.out rfl (by rw [HVL.out]; omega) (Nat.le_trans hB (Nat.le_of_lt H2.out.1.lt)) ?_
   intro v' w' hrow hb' hgr
   have HF : Hid _ := HFIN.out _ _ _ H2.out hrow hb' hgr
   have hrg : (Value.slice h.au S.und.length h.cu).ownBlock ≠ some g := fun e => by obtain ⟨cs, z, h9⟩ := row_typed H2.out.2.2.2.1 g e; rw [H2.out.1] at h9; simp at h9
   have hLg : LB w' g 61 C2 := (hgr.block g H2.out.1.lt (Ne.symm hrg)).trans H2.out.1
   have cg := hLg.cell 12 (.slice h.au S.und.length h.cu) (by rw [HC2.out]; rfl)
   have fg := hLg.free 12
   have h1c : v'.oneCell' = true := by rcases Row.shape hrow with ⟨e, _⟩ | ⟨_, _, e, _⟩ <;> (rw [e]; rfl)
   obtain ⟨a9, n9, c9, e9⟩ : ∃ a n c, v' = .slice a n c := by rcases Row.shape hrow with ⟨e, _⟩ | ⟨_, _, e, _⟩ <;> exact ⟨_, _, _, e⟩
   subst e9
   refine hK.out _ _ trivial (fun _ => ?_)
   clear hK K hrow hb' hgr hrg hLg h1c H1 H2 cO cO2 cR HKEEP HFIN
   simp only [zq]
   refine zqk 9 rfl hH ?_
   simp only [zq]
   refine zqk 10 rfl hH ?_
   simp only [zq]
   refine zqr 11 rfl (fun K hK => ?_)
   go_simp
   refine hK.out _ _ trivial (fun _ => ?_)
   clear hK K
   refine wpAnyH_done (by kernel_rfl) ?_ _
   go_wp2
   go_end0
   obtain ⟨a', c', q1, q2, q3⟩ := HF.out
   exact ⟨rfl, a', c', q1, q2, q3⟩
  ·refine AllReadyH.cons rfl (fun K hK => ?_) AllReadyH.nil
   go_simp
   refine hK.out _ _ trivial (fun _ => ?_)
   clear hK K
   have H2 : Hid (LB (W3.alloc (.cells #[.slice ad l.length cd] 26)) g 61 C2 ∧ LB (W3.alloc (.cells #[.slice ad l.length cd] 26)) w.heap.size 28 E ∧ Below g w (W3.alloc (.cells #[.slice ad l.length cd] 26)) ∧ Row B (W3.alloc (.cells #[.slice ad l.length cd] 26)) (.slice h.au S.und.length h.cu) vs ∧ (∀ j (h : j < vs.length) (h2 : j < S.und.length), Own B (W3.alloc (.cells #[.slice ad l.length cd] 26)) vs[j] S.und[j]) ∧ Own B (W3.alloc (.cells #[.slice ad l.length cd] 26)) (.slice ad l.length cd) l ∧ (∀ b, b < w.heap.size → b ≠ g → (W3.alloc (.cells #[.slice ad l.length cd] 26)).heap[b]? = w.heap[b]?) ∧ w.heap.size < (W3.alloc (.cells #[.slice ad l.length cd] 26)).heap.size) := HKEEP.out _ _ H1.out (up0 _ _)
   have HCE : Hid ((W3.alloc (.cells #[.slice ad l.length cd] 26)).cell? ⟨W3.heap.size, 0, none⟩ = some (.slice ad l.length cd)) := by show _ = _; rw [World.cell?_alloc_new]; rfl
   have cO2 := H2.out.1.cell 12 (.slice h.au S.und.length h.cu) (by rw [HC2.out]; rfl)
   refine zqr 4 rfl (fun K hK => ?_)
   go_simp
   refine hK.out _ _ trivial (fun _ => ?_)
   clear hK K
   refine zqr 8 rfl (fun K hK => ?_)
   refine step_push rfl (.tmp 21) (.tmp 24) 29 rfl B HIN.out Tryz.underlying29 (.slice h.au S.und.length h.cu) vs rfl H2.out.2.2.2.1 W3.heap.size (.slice ad l.length cd) rfl HCE.out rfl (by rw [HVL.out]; omega) (Nat.le_trans hB (Nat.le_of_lt H2.out.1.lt)) ?_
   intro v' w' hrow hb' hgr
   have HF : Hid _ := HFIN.out _ _ _ H2.out hrow hb' hgr
   have hrg : (Value.slice h.au S.und.length h.cu).ownBlock ≠ some g := fun e => by obtain ⟨cs, z, h9⟩ := row_typed H2.out.2.2.2.1 g e; rw [H2.out.1] at h9; simp at h9
   have hLg : LB w' g 61 C2 := (hgr.block g H2.out.1.lt (Ne.symm hrg)).trans H2.out.1
   have cg := hLg.cell 12 (.slice h.au S.und.length h.cu) (by rw [HC2.out]; rfl)
   have fg := hLg.free 12
   have h1c : v'.oneCell' = true := by rcases Row.shape hrow with ⟨e, _⟩ | ⟨_, _, e, _⟩ <;> (rw [e]; rfl)
   obtain ⟨a9, n9, c9, e9⟩ : ∃ a n c, v' = .slice a n c := by rcases Row.shape hrow with ⟨e, _⟩ | ⟨_, _, e, _⟩ <;> exact ⟨_, _, _, e⟩
   subst e9
   refine hK.out _ _ trivial (fun _ => ?_)
   clear hK K hrow hb' hgr hrg hLg h1c H1 H2 cO cO2 cR HKEEP HFIN
   simp only [zq]
   refine zqk 9 rfl hH ?_
   simp only [zq]
   refine zqk 10 rfl hH ?_
   simp only [zq]
   refine zqr 11 rfl (fun K hK => ?_)
   go_simp
   refine hK.out _ _ trivial (fun _ => ?_)
   clear hK K
   refine wpAnyH_done (by kernel_rfl) ?_ _
   go_wp2
   go_end0
   obtain ⟨a', c', q1, q2, q3⟩ := HF.out
   exact ⟨rfl, a', c', q1, q2, q3⟩
theorem own_ne_g {B g : Nat} {w : World} {d : Value} {l : List Nat} {C : List Value} (h : Own B w d l) (L : LB w g 61 C) (b : Nat) (e : d.ownBlock = some b) : b ≠ g := by
 rintro rfl
 rcases h.row.2 with ⟨e3, _⟩ | ⟨g', cap, cur, e3, _, hg', _⟩
 ·rw [e3] at e; simp [Value.ownBlock] at e
 ·rw [e3] at e; simp [Value.ownBlock] at e; subst e; rw [L] at hg'; simp at hg'
theorem own_ne_row {B : Nat} {w : World} {d : Value} {l : List Nat} {v : Value} {ls : List (List Nat)} (h : Own B w d l) (r : OwnP B w v ls) (b : Nat) (e : d.ownBlock = some b) : v.ownBlock ≠ some b := by
 intro e2
 obtain ⟨vs, r1, _⟩ := r
 obtain ⟨cs, z, h4⟩ := row_typed r1 b e2
 rcases h.row.2 with ⟨e3, _⟩ | ⟨g', cap, cur, e3, _, hg', _⟩
 ·rw [e3] at e; simp [Value.ownBlock] at e
 ·rw [e3] at e; simp [Value.ownBlock] at e; subst e; rw [hg'] at h4; simp at h4
theorem own_g {B g : Nat} {w w' : World} {d : Value} {l : List Nat} {C : List Value} (h : Own B w d l) (L : LB w g 61 C) (hs : w.heap.size ≤ g + 1) (hb : Below g w w') : Own B w' d l := own_keptB h fun b e => hb.block b (by have := own_ne_g h L b e; have := (own_block h b e).2; omega)
theorem ownp_ne_g {B g : Nat} {w : World} {v : Value} {ls : List (List Nat)} {C : List Value} (h : OwnP B w v ls) (L : LB w g 61 C) : v.ownBlock ≠ some g := fun e => by
 obtain ⟨vs, r1, _⟩ := h
 obtain ⟨cs, z, h4⟩ := row_typed r1 g e
 rw [L] at h4
 simp at h4
theorem ownp_g {B g : Nat} {w w' : World} {v : Value} {ls : List (List Nat)} {C : List Value} (h : OwnP B w v ls) (L : LB w g 61 C) (hs : w.heap.size ≤ g + 1) (hb : Below g w w') : OwnP B w' v ls := by
 have hng := ownp_ne_g h L
 obtain ⟨vs, r1, r2, r3⟩ := h
 refine ⟨vs, row_kept2 r1 fun b e => hb.block b ?_, r2, fun j a b => own_g (r3 j a b) L hs hb⟩
 have := (row_block r1 b e).2
 have h9 : b ≠ g := fun e2 => hng (by rw [e, e2])
 omega
theorem do_plain {P : Program} {f : FuncId} {args : Array Value} {B g : Nat} {w : World} {S0 S' : Sg} {h h' : SH} (L : LB w g 61 (scl S0 h)) (hs : w.heap.size ≤ g + 1) (hB : B ≤ g) (hi : Own B w (.slice h'.ai S'.inp.length h'.ci) S'.inp) (ho : OwnP B w (.slice h'.ao S'.outs.length h'.co) S'.outs) (hu : OwnP B w (.slice h'.au S'.und.length h'.cu) S'.und) (hf : Own B w (.slice h'.af S'.fail.length h'.cf) S'.fail)
  (c : Calls P f args w fun e w' => e = .returned (.tuple #[]) ∧ LB w' g 61 (scl S' h') ∧ Below g w w') : Calls P f args w fun e w' => DoPost B g w S' e w' :=
 c.mono fun _ _ ⟨he, hl, hb⟩ => ⟨h', he, hl, ⟨own_g hi L hs hb, ownp_g ho L hs hb, ownp_g hu L hs hb, own_g hf L hs hb⟩, hb.mono hB, fun b _ _ hbg _ h1 => (hb.block b hbg).trans h1⟩
theorem do_any (S : Sg) (h : SH) (u : Rec) (ad : Option Addr) (cd : Nat) (B g : Nat) (w : World) (L : LB w g 61 (scl { S with x := { S.x with la := u.x.a } } h)) (hs : w.heap.size ≤ g + 1) (hB : B ≤ g) (k : SgOwn B w S h) (hd : Own B w (.slice ad u.l.length cd) u.l) (hc : chkS S = true) (hv : V3 u) (hk1 : u.x.k ≠ 1) :
  Calls Tryz.prog (fK u.x.k) #[.pointer (some ⟨g, 0, none⟩), rv u.x u.nm (.slice ad u.l.length cd)] w fun e w' => DoPost B g w (deedS S u) e w' := by
 obtain ⟨hGB, hG⟩ := (chkS_iff S).1 hc
 have hn : 0 ≤ S.x.nx ∧ S.x.nx ≤ 32 ∧ S.outs.length ≤ 32 ∧ S.und.length ≤ 32 := by
  obtain ⟨_, _, h3, _⟩ := hGB
  rcases hG with ⟨_, _, _, _, c4, c5, c6, c7, _⟩ | ⟨_, _, _, _, c4, c5, c6, _⟩ | ⟨_, c1, c2, c3, c4, c5, c6, _⟩ | ⟨_, c0, c1, c2, c3, c4, c5, c6, _⟩
  ·rw [c4]; simp; omega
  ·rw [c4]; simp; omega
  ·omega
  ·omega
 obtain ⟨v1, v2, v3, vk⟩ := hv
 have hk : (u.x.k = 2 ∨ u.x.k = 5) ∨ u.x.k = 3 ∨ u.x.k = 4 ∨ u.x.k = 6 ∨ u.x.k = 7 := by omega
 rcases hk with k2 | k3 | k4 | k6 | k7
 ·have ef : fK u.x.k = 61 := by unfold fK; rw [if_pos k2]
  have ed : deedS S u = { S with x := { S.x with la := u.x.a, fl := true, tr := u.x.t } } := by unfold deedS; rw [if_pos k2]
  rw [ef, ed]
  exact do_plain L hs hB k.inp k.outs k.und k.fail (start_any _ h u.x u.nm _ g w L)
 ·have ef : fK u.x.k = 62 := by unfold fK; rw [if_neg (by omega), if_pos k3]
  have ed : deedS S u = { S with x := { S.x with la := u.x.a, fl := false, tr := 0, nx := S.x.nx + 1 }, outs := S.outs ++ [u.l] } := by unfold deedS; rw [if_neg (by omega), if_pos k3]
  rw [ef, ed]
  have hrt : ∀ b, (Value.slice h.ao S.outs.length h.co).ownBlock = some b → ∃ cs z, w.heap[b]? = some (.cells cs 26 z) := fun b e => by obtain ⟨vs, r1, _⟩ := k.outs; exact row_typed r1 b e
  refine (done_any { S with x := { S.x with la := u.x.a } } h u.x u.nm ad u.l cd B g w L hB k.outs hd ⟨hn.1, hn.2.1⟩ (show S.outs.length ≤ 100 by omega)).mono fun e w' ⟨a', c', he, hl, hop, hbut⟩ => ?_
  refine ⟨{ h with ao := a', co := c' }, he, hl, ⟨own_other k.inp hbut fun b e => ⟨?_, own_ne_row k.inp k.outs b e⟩, ?_, ownp_other k.und hbut hs (ownp_ne_g k.und L) ?_ hrt ⟨_, L⟩, own_other k.fail hbut fun b e => ⟨?_, own_ne_row k.fail k.outs b e⟩⟩, hbut.below, fun b t cs hbg ht h1 => (hbut.rest b hbg (fun e2 => ?_)).trans h1⟩
  ·have := own_ne_g k.inp L b e; have := (own_block k.inp b e).2; omega
  ·have e9 : (S.outs ++ [u.l]).length = S.outs.length + 1 := by simp
   have := hop
   rw [← e9] at this
   exact this
  ·by_cases e9 : (Value.slice h.au S.und.length h.cu).ownBlock = none
   ·exact .inr e9
   ·obtain ⟨b9, hb9⟩ := Option.ne_none_iff_exists'.1 e9
    exact .inl (fun e8 => k.apart b9 (by rw [← hb9]; exact e8) hb9)
  ·have := own_ne_g k.fail L b e; have := (own_block k.fail b e).2; omega
  ·obtain ⟨cs2, z, h4⟩ := hrt b e2
   rw [h1] at h4
   simp at h4
   exact ht h4.2.1
 ·have ef : fK u.x.k = 63 := by unfold fK; rw [if_neg (by omega), if_neg (by omega), if_pos k4]
  rw [ef]
  by_cases hl0 : u.x.l = 0
  ·have ed : deedS S u = { S with x := { S.x with la := u.x.a, fl := false } } := by unfold deedS; rw [if_neg (by omega), if_neg (by omega), if_pos k4, if_pos hl0]
   rw [ed]
   exact do_plain L hs hB k.inp k.outs k.und k.fail (fail0_any _ h u.x u.nm _ g w L (by simp [hl0]))
  ·have ed : deedS S u = { S with x := { S.x with la := u.x.a, fl := false, tr := 0, ph := 2, fs := u.x.p, fc := u.x.c }, fail := u.l } := by unfold deedS; rw [if_neg (by omega), if_neg (by omega), if_pos k4, if_neg hl0]
   rw [ed]
   exact do_plain (h' := { h with af := ad, cf := cd }) L hs hB k.inp k.outs k.und hd (fail1_any _ h u.x u.nm ad u.l cd g w L (by simpa using hl0))
 ·have ef : fK u.x.k = 64 := by unfold fK; rw [if_neg (by omega), if_neg (by omega), if_neg (by omega), if_pos k6]
  have ed : deedS S u = { S with x := { S.x with la := u.x.a, fl := false, tr := 0, nx := S.x.nx - 1 }, und := S.und ++ [u.l] } := by unfold deedS; rw [if_neg (by omega), if_neg (by omega), if_neg (by omega), if_pos k6]
  rw [ef, ed]
  have hrt : ∀ b, (Value.slice h.au S.und.length h.cu).ownBlock = some b → ∃ cs z, w.heap[b]? = some (.cells cs 26 z) := fun b e => by obtain ⟨vs, r1, _⟩ := k.und; exact row_typed r1 b e
  refine (undone_any { S with x := { S.x with la := u.x.a } } h u.x u.nm ad u.l cd B g w L hB k.und hd ⟨hn.1, hn.2.1⟩ (show S.und.length ≤ 100 by omega)).mono fun e w' ⟨a', c', he, hl, hop, hbut⟩ => ?_
  refine ⟨{ h with au := a', cu := c' }, he, hl, ⟨own_other k.inp hbut fun b e => ⟨?_, own_ne_row k.inp k.und b e⟩, ownp_other k.outs hbut hs (ownp_ne_g k.outs L) ?_ hrt ⟨_, L⟩, ?_, own_other k.fail hbut fun b e => ⟨?_, own_ne_row k.fail k.und b e⟩⟩, hbut.below, fun b t cs hbg ht h1 => (hbut.rest b hbg (fun e2 => ?_)).trans h1⟩
  ·have := own_ne_g k.inp L b e; have := (own_block k.inp b e).2; omega
  ·by_cases e9 : (Value.slice h.ao S.outs.length h.co).ownBlock = none
   ·exact .inr e9
   ·obtain ⟨b9, hb9⟩ := Option.ne_none_iff_exists'.1 e9
    exact .inl (fun e8 => k.apart b9 hb9 (by rw [← hb9]; exact e8))
  ·have e9 : (S.und ++ [u.l]).length = S.und.length + 1 := by simp
   have := hop
   rw [← e9] at this
   exact this
  ·have := own_ne_g k.fail L b e; have := (own_block k.fail b e).2; omega
  ·obtain ⟨cs2, z, h4⟩ := hrt b e2
   rw [h1] at h4
   simp at h4
   exact ht h4.2.1
 ·have ef : fK u.x.k = 65 := by unfold fK; rw [if_neg (by omega), if_neg (by omega), if_neg (by omega), if_neg (by omega)]
  have ed : deedS S u = { S with x := { S.x with la := u.x.a, ph := if S.x.ph = 1 then 3 else 4 } } := by unfold deedS; rw [if_neg (by omega), if_neg (by omega), if_neg (by omega), if_neg (by omega)]
  rw [ef, ed]
  by_cases hp : S.x.ph = 1
  ·rw [if_pos hp]
   exact do_plain L hs hB k.inp k.outs k.und k.fail (end1_any _ h u.x u.nm _ g w L (by simpa using hp))
  ·rw [if_neg hp]
   exact do_plain L hs hB k.inp k.outs k.und k.fail (end2_any _ h u.x u.nm _ g w L (by simpa using hp))
theorem deed_2 (w : World) : Calls Tryz.prog 33 #[.int .i64 2] w fun e w' => e = .returned (.func (.func 61) #[] #[]) ∧ w = w' := by
 have hx : (Instr.index 86 (.agg #[.nilFunc, .nilFunc, .func (.func 61) #[] #[], .func (.func 62) #[] #[], .func (.func 63) #[] #[], .func (.func 61) #[] #[], .func (.func 64) #[] #[], .func (.func 65) #[] #[]]) (.int .i64 2)).run Tryz.prog w = .ok (.func (.func 61) #[] #[]) w := rfl
 go_enter Tryz.func33, Tryz.ntmps33
 go_wp2
 go_ret
 exact ⟨rfl, rfl⟩
theorem deed_3 (w : World) : Calls Tryz.prog 33 #[.int .i64 3] w fun e w' => e = .returned (.func (.func 62) #[] #[]) ∧ w = w' := by
 have hx : (Instr.index 86 (.agg #[.nilFunc, .nilFunc, .func (.func 61) #[] #[], .func (.func 62) #[] #[], .func (.func 63) #[] #[], .func (.func 61) #[] #[], .func (.func 64) #[] #[], .func (.func 65) #[] #[]]) (.int .i64 3)).run Tryz.prog w = .ok (.func (.func 62) #[] #[]) w := rfl
 go_enter Tryz.func33, Tryz.ntmps33
 go_wp2
 go_ret
 exact ⟨rfl, rfl⟩
theorem deed_4 (w : World) : Calls Tryz.prog 33 #[.int .i64 4] w fun e w' => e = .returned (.func (.func 63) #[] #[]) ∧ w = w' := by
 have hx : (Instr.index 86 (.agg #[.nilFunc, .nilFunc, .func (.func 61) #[] #[], .func (.func 62) #[] #[], .func (.func 63) #[] #[], .func (.func 61) #[] #[], .func (.func 64) #[] #[], .func (.func 65) #[] #[]]) (.int .i64 4)).run Tryz.prog w = .ok (.func (.func 63) #[] #[]) w := rfl
 go_enter Tryz.func33, Tryz.ntmps33
 go_wp2
 go_ret
 exact ⟨rfl, rfl⟩
theorem deed_5 (w : World) : Calls Tryz.prog 33 #[.int .i64 5] w fun e w' => e = .returned (.func (.func 61) #[] #[]) ∧ w = w' := by
 have hx : (Instr.index 86 (.agg #[.nilFunc, .nilFunc, .func (.func 61) #[] #[], .func (.func 62) #[] #[], .func (.func 63) #[] #[], .func (.func 61) #[] #[], .func (.func 64) #[] #[], .func (.func 65) #[] #[]]) (.int .i64 5)).run Tryz.prog w = .ok (.func (.func 61) #[] #[]) w := rfl
 go_enter Tryz.func33, Tryz.ntmps33
 go_wp2
 go_ret
 exact ⟨rfl, rfl⟩
theorem deed_6 (w : World) : Calls Tryz.prog 33 #[.int .i64 6] w fun e w' => e = .returned (.func (.func 64) #[] #[]) ∧ w = w' := by
 have hx : (Instr.index 86 (.agg #[.nilFunc, .nilFunc, .func (.func 61) #[] #[], .func (.func 62) #[] #[], .func (.func 63) #[] #[], .func (.func 61) #[] #[], .func (.func 64) #[] #[], .func (.func 65) #[] #[]]) (.int .i64 6)).run Tryz.prog w = .ok (.func (.func 64) #[] #[]) w := rfl
 go_enter Tryz.func33, Tryz.ntmps33
 go_wp2
 go_ret
 exact ⟨rfl, rfl⟩
theorem deed_7 (w : World) : Calls Tryz.prog 33 #[.int .i64 7] w fun e w' => e = .returned (.func (.func 65) #[] #[]) ∧ w = w' := by
 have hx : (Instr.index 86 (.agg #[.nilFunc, .nilFunc, .func (.func 61) #[] #[], .func (.func 62) #[] #[], .func (.func 63) #[] #[], .func (.func 61) #[] #[], .func (.func 64) #[] #[], .func (.func 65) #[] #[]]) (.int .i64 7)).run Tryz.prog w = .ok (.func (.func 65) #[] #[]) w := rfl
 go_enter Tryz.func33, Tryz.ntmps33
 go_wp2
 go_ret
 exact ⟨rfl, rfl⟩
theorem wpList_alloc_C {Z : List Value} (hZ : Z = zcl) {ops : Array Oper} {rest : List Oper} {op : Oper} {a : Act} {w : World} {Q : Exit → Act → World → Prop} (hgd : op.guard = none) (ho : op.op = .alloc 61)
  (h : wpList Tryz.prog ops Q rest (a.put op.dst (.pointer (some ⟨w.heap.size, 0, none⟩))) (w.alloc (.cells Z.toArray 61))) : wpList Tryz.prog ops Q (op :: rest) a w := by
 subst hZ
 refine wpList_plain hgd fun K hK => ?_
 obtain ⟨dst, op', ty, pos, after, guard⟩ := op
 simp only at ho hgd
 subst ho hgd
 have hK2 := hK _ _ h
 clear hK h
 unfold zcl at hK2
 go_simp
 exact hK2
theorem infoCourse : (Tryz.prog.info? 61).map (·.size) = some 16 := by kernel_rfl
theorem sgOwn_kept {B : Nat} {w w' : World} {S : Sg} {h : SH} (k : SgOwn B w S h) (hb : Below w.heap.size w w') : SgOwn B w' S h := ⟨k.inp.kept hb, k.outs.kept hb, k.und.kept hb, k.fail.kept hb, k.apart⟩
theorem sgOwn_weak {B B2 : Nat} {w : World} {S : Sg} {h : SH} (k : SgOwn B2 w S h) (hB : B ≤ B2) : SgOwn B w S h := ⟨own_weak k.inp hB, k.outs.weak hB, k.und.weak hB, own_weak k.fail hB, k.apart⟩
theorem sgOwn_fresh {B B2 : Nat} {w : World} {S : Sg} {h : SH} (k : SgOwn B2 w S h) (hB : B ≤ B2) (Z C : List Value) (t : TypeId) : SgOwn B ((w.alloc (.cells Z.toArray t)).setCells w.heap.size 0 C) S h := by
 have hb : ∀ b, b < w.heap.size → ((w.alloc (.cells Z.toArray t)).setCells w.heap.size 0 C).heap[b]? = w.heap[b]? := fun b hb => by rw [cells_other _ _ _ _ _ (Nat.ne_of_lt hb), heap_old _ _ _ hb]
 have k2 := sgOwn_weak k hB
 exact ⟨own_keptB k2.inp (fun b e => hb b (own_block k2.inp b e).2), k2.outs.keptB (fun b _ h2 => hb b h2), k2.und.keptB (fun b _ h2 => hb b h2), own_keptB k2.fail (fun b e => hb b (own_block k2.fail b e).2), k2.apart⟩
theorem sgOwn_set {B g : Nat} {w : World} {S : Sg} {h : SH} {C : List Value} (k : SgOwn B w S h) (L : LB w g 61 C) (j : Nat) (v : Value) : SgOwn B (w.setCell ⟨g, j, none⟩ v) S h := by
 have hp : ∀ {u : Value} {ls : List (List Nat)}, OwnP B w u ls → OwnP B (w.setCell ⟨g, j, none⟩ v) u ls := fun {u ls} hq => by
  have hng := ownp_ne_g hq L
  obtain ⟨vs, r1, r2, r3⟩ := hq
  exact ⟨vs, row_kept2 r1 (fun b e => set_other _ _ _ _ (fun e2 => hng (by rw [e]; exact congrArg some e2))), r2, fun i a b => own_keptB (r3 i a b) (fun c e => set_other _ _ _ _ (own_ne_g (r3 i a b) L c e))⟩
 exact ⟨own_keptB k.inp (fun b e => set_other _ _ _ _ (own_ne_g k.inp L b e)), hp k.outs, hp k.und, own_keptB k.fail (fun b e => set_other _ _ _ _ (own_ne_g k.fail L b e)), k.apart⟩
theorem light_of (S : Sg) (h : chkS S = true) : Light S := by
 obtain ⟨⟨_, _, b3, _, _, _, _, b8, b9, b10, b11⟩, hG⟩ := (chkS_iff S).1 h
 have hn : S.outs.length ≤ 32 ∧ S.und.length ≤ 32 := by
  rcases hG with ⟨_, _, _, _, c4, c5, c6, c7, _⟩ | ⟨_, _, _, _, c4, c5, c6, _⟩ | ⟨_, c1, c2, c3, c4, c5, c6, _⟩ | ⟨_, c0, c1, c2, c3, c4, c5, c6, _⟩
  ·rw [c4]; simp; omega
  ·rw [c4]; simp; omega
  ·omega
  ·omega
 refine ⟨by omega, by omega, by omega, by omega, fun l hl => ?_, fun l hl => ?_⟩
 ·have := List.all_eq_true.1 b10 l hl; simp at this; omega
 ·have := List.all_eq_true.1 b11 l hl; simp at this; omega
theorem apply_c (S : Sg) (h : SH) (r : Rec) (d : Value) (w : World) (k : SgAt w S h) (hT : STabs w) (hnm : S.nm.size ≤ 140737488355000) (hc : chkS S = false) : Calls Tryz.prog 18 #[sv S h, rv r.x r.nm d] w fun e w' => ApPost w (100, zSg) e w' := by
 have HCK0 : ∀ w', Below w.heap.size w w' → Calls Tryz.prog 30 #[sv S h] w' fun e w'' => e = .returned (.int .i64 100) ∧ Below w'.heap.size w' w'' := fun w' hb' => by have e := scheck_any S h w' (k.kept hb') (hT.kept hb').e.tabs.lets hnm; rw [hc] at e; exact e
 obtain ⟨Z, hZ⟩ : ∃ Z, Z = zcl := ⟨_, rfl⟩
 have HZ : Hid (Z = zcl) := hZ
 have HZL : Hid (Z.length = 16) := by show _ = _; rw [hZ]; rfl
 have HZI : Hid ((Tryz.prog.info? 31).map (·.size) = some Z.length) := by show _ = _; rw [hZ]; exact infoSaga
 have HZ1 : Hid (∀ v ∈ Z, v.oneCell' = true) := by show ∀ v ∈ Z, _; rw [hZ]; exact scl_one zSg ⟨none, 0, none, 0, none, 0, none, 0⟩
 clear hZ
 obtain ⟨D, hD, hL, hE⟩ := sv_letter S h
 obtain ⟨E, hD2, hL2, hE2⟩ := rv_letter r.x r.nm d
 rw [hD, hD2]
 rw [hD] at HCK0
 have HCK : Hid _ := HCK0
 have HL : Hid _ := hL
 have HE : Hid (D = scl S h) := hE
 have HL2 : Hid _ := hL2
 have HX : Hid (∀ t t2 t3, LB (((w.alloc (.cells D.toArray t)).alloc (.cells E.toArray t2)).alloc (.cells Z.toArray t3)) w.heap.size t D ∧ LB (((w.alloc (.cells D.toArray t)).alloc (.cells E.toArray t2)).alloc (.cells Z.toArray t3)) (w.heap.size + 1) t2 E ∧ LB (((w.alloc (.cells D.toArray t)).alloc (.cells E.toArray t2)).alloc (.cells Z.toArray t3)) (w.heap.size + 1 + 1) t3 Z ∧ Below w.heap.size w (((w.alloc (.cells D.toArray t)).alloc (.cells E.toArray t2)).alloc (.cells Z.toArray t3))) := fun t t2 t3 => lb_new3 w D E Z t t2 t3
 clear hD hL hE hD2 hL2 hE2 HCK0
 go_enter Tryz.func18, Tryz.ntmps18
 go_wp2_with (first | (refine wpList_alloc_Z HZ.out rfl rfl ?_) | (refine wpList_load_mid rfl 31 _ rfl w.heap.size 0 rfl D _ (HX.out _ _ _).1.range Tryz.underlying31 rfl HL.out ?_))
 refine (HCK.out _ (HX.out _ _ _).2.2.2).mono ?_
 rintro e w1 ⟨rfl, b1⟩
 have H1 : Hid (LB w1 w.heap.size 31 D ∧ LB w1 (w.heap.size + 1) 28 E ∧ LB w1 (w.heap.size + 1 + 1) 31 Z ∧ Below w.heap.size w w1) := ⟨(HX.out _ _ _).1.kept b1, (HX.out _ _ _).2.1.kept b1, (HX.out _ _ _).2.2.1.kept b1, andThen (HX.out _ _ _).2.2.2 b1⟩
 clear b1 HX HCK
 clear k hT hnm hc HL HL2 HE
 have HT4 : Hid (w1.there (w.heap.size + 1 + 1) 0 Z.toArray.size) := there_of H1.out.2.2.1 (by simp)
 go_wp2_with (first | (refine wpList_build_Z HZ.out rfl rfl ?_) | (refine wpList_store_mid rfl 31 (.tmp 4) (.tmp 15) rfl (w.heap.size + 1 + 1) 0 Z.toArray rfl rfl HT4.out (by simpa using HZI.out) (all_oneCell_toArray HZ1.out) ?_))
 have HR5 : Hid ((w1.setCells (w.heap.size + 1 + 1) 0 Z).rangeAt (w.heap.size + 1 + 1) 0 Z) := (H1.out.2.2.1.sets Z rfl).range
 have HBF : Hid (Below w.heap.size w (w1.setCells (w.heap.size + 1 + 1) 0 Z)) := below_cells (by omega) _ 0 _ H1.out.2.2.2
 refine bodyPost_ret (results_cell_slot (p := 4) (s := 5) (ty := 31) rfl _ (w1.setCells (w.heap.size + 1 + 1) 0 Z) (w.heap.size + 1 + 1) Z _ rfl HR5.out Tryz.underlying31 rfl HZI.out) rfl ?_
 exact ⟨⟨none, 0, none, 0, none, 0, none, 0⟩, by rw [HZ.out]; rfl, sgO_zero _ _, HBF.out⟩
theorem apply_u (S : Sg) (h : SH) (r : Rec) (d : Value) (w : World) (k : SgAt w S h) (hb : Bs w d r.l) (hT : STabs w) (hnm : S.nm.size ≤ 140737488355000) (hnm2 : r.nm.size ≤ 140737488355000) (hf : r.x.fit) (hc : chkS S = true) (h0 : (upP 3 r).1 ≠ 0) : Calls Tryz.prog 18 #[sv S h, rv r.x r.nm d] w fun e w' => ApPost w ((upP 3 r).1, zSg) e w' := by
 have HCK0 : ∀ w', Below w.heap.size w w' → Calls Tryz.prog 30 #[sv S h] w' fun e w'' => e = .returned (.int .i64 0) ∧ Below w'.heap.size w' w'' := fun w' hb' => by have e := scheck_any S h w' (k.kept hb') (hT.kept hb').e.tabs.lets hnm; rw [hc] at e; exact e
 have HUP0 : ∀ w', Below w.heap.size w w' → Calls Tryz.prog 15 #[rv r.x r.nm d, .int .i64 3] w' fun e w'' => OwnT w' w'' (upP 3 r) e := fun w' hb' => up_O 3 r d w' (hb.kept hb') (hT.kept hb').e hnm2 hf
 obtain ⟨Z, hZ⟩ : ∃ Z, Z = zcl := ⟨_, rfl⟩
 have HZ : Hid (Z = zcl) := hZ
 have HZL : Hid (Z.length = 16) := by show _ = _; rw [hZ]; rfl
 have HZI : Hid ((Tryz.prog.info? 31).map (·.size) = some Z.length) := by show _ = _; rw [hZ]; exact infoSaga
 have HZ1 : Hid (∀ v ∈ Z, v.oneCell' = true) := by show ∀ v ∈ Z, _; rw [hZ]; exact scl_one zSg ⟨none, 0, none, 0, none, 0, none, 0⟩
 clear hZ
 obtain ⟨D, hD, hL, hE⟩ := sv_letter S h
 obtain ⟨E, hD2, hL2, hE2⟩ := rv_letter r.x r.nm d
 rw [hD, hD2]
 rw [hD] at HCK0
 rw [hD2] at HUP0
 have HUP : Hid _ := HUP0
 have HCK : Hid _ := HCK0
 have HL : Hid _ := hL
 have HE : Hid (D = scl S h) := hE
 have HL2 : Hid _ := hL2
 have HX : Hid (∀ t t2 t3, LB (((w.alloc (.cells D.toArray t)).alloc (.cells E.toArray t2)).alloc (.cells Z.toArray t3)) w.heap.size t D ∧ LB (((w.alloc (.cells D.toArray t)).alloc (.cells E.toArray t2)).alloc (.cells Z.toArray t3)) (w.heap.size + 1) t2 E ∧ LB (((w.alloc (.cells D.toArray t)).alloc (.cells E.toArray t2)).alloc (.cells Z.toArray t3)) (w.heap.size + 1 + 1) t3 Z ∧ Below w.heap.size w (((w.alloc (.cells D.toArray t)).alloc (.cells E.toArray t2)).alloc (.cells Z.toArray t3))) := fun t t2 t3 => lb_new3 w D E Z t t2 t3
 clear hD hL hE hD2 hL2 hE2 HCK0 HUP0
 go_enter Tryz.func18, Tryz.ntmps18
 go_wp2_with (first | (refine wpList_alloc_Z HZ.out rfl rfl ?_) | (refine wpList_load_mid rfl 31 _ rfl w.heap.size 0 rfl D _ (HX.out _ _ _).1.range Tryz.underlying31 rfl HL.out ?_))
 refine (HCK.out _ (HX.out _ _ _).2.2.2).mono ?_
 rintro e w1 ⟨rfl, b1⟩
 have H1 : Hid (LB w1 w.heap.size 31 D ∧ LB w1 (w.heap.size + 1) 28 E ∧ LB w1 (w.heap.size + 1 + 1) 31 Z ∧ Below w.heap.size w w1) := ⟨(HX.out _ _ _).1.kept b1, (HX.out _ _ _).2.1.kept b1, (HX.out _ _ _).2.2.1.kept b1, andThen (HX.out _ _ _).2.2.2 b1⟩
 clear b1 HX HCK
 clear k hT hnm hnm2 hf hb hc HL HE
 go_wp2_with (refine wpList_load_mid rfl 28 _ rfl (w.heap.size + 1) 0 rfl E _ H1.out.2.1.range Tryz.underlying28 rfl HL2.out ?_)
 refine (HUP.out _ H1.out.2.2.2).mono ?_
 rintro e w2 ⟨ad, cd, rfl, ho2, b2⟩
 have H2 : Hid (LB w2 w.heap.size 31 D ∧ LB w2 (w.heap.size + 1 + 1) 31 Z ∧ Own (w.heap.size + 3) w2 (.slice ad (upP 3 r).2.l.length cd) (upP 3 r).2.l ∧ Below w.heap.size w w2) := ⟨H1.out.1.kept b2, H1.out.2.2.1.kept b2, own_weak ho2 H1.out.2.2.1.lt, andThen H1.out.2.2.2 b2⟩
 clear b2 ho2 H1 HUP HL2
 obtain ⟨u, hu⟩ : ∃ u, (upP 3 r).2 = u := ⟨_, rfl⟩
 have HU : Hid ((upP 3 r).2 = u) := hu
 rw [hu] at H2 ⊢
 clear hu
 obtain ⟨z, hz⟩ : ∃ z, (upP 3 r).1 = z := ⟨_, rfl⟩
 have hz2 : (z != 0) = true := by rw [← hz, bne_iff_ne]; exact h0
 have HZE : Hid ((upP 3 r).1 = z) := hz
 rw [hz]
 clear hz h0
 obtain ⟨G, hG, hGL, hGE⟩ := rv_letter u.x u.nm (.slice ad u.l.length cd)
 rw [hG]
 have HGL : Hid _ := hGL
 have HGE : Hid (G = rcE u.x u.nm (.slice ad u.l.length cd)) := hGE
 have HG1 : Hid (∀ v ∈ G, v.oneCell' = true) := by show ∀ v ∈ G, _; rw [hGE]; exact rcE_one _ _ _ rfl
 clear hG hGL hGE
 obtain ⟨ZR, hZR⟩ : ∃ ZR, ZR = zrl := ⟨_, rfl⟩
 have HZR : Hid (ZR = zrl) := hZR
 have HZRL : Hid (G.length = ZR.length) := by show _ = _; rw [hZR, HGE.out]; rfl
 clear hZR
 have HTZ : Hid (∀ t, (w2.alloc (.cells ZR.toArray t)).there w2.heap.size 0 G.toArray.size) := fun t => there_of (lb_new w2 ZR t) (by simpa using HZRL.out)
 have H3 : Hid (∃ W3, W3 = (w2.alloc (.cells ZR.toArray 28)).setCells w2.heap.size 0 G ∧ LB W3 w.heap.size 31 D ∧ LB W3 (w.heap.size + 1 + 1) 31 Z ∧ Own (w.heap.size + 3) W3 (.slice ad u.l.length cd) u.l ∧ LB W3 w2.heap.size 28 G ∧ w.heap.size + 1 + 1 < w2.heap.size ∧ Below w.heap.size w W3) := ⟨_, rfl, (H2.out.1.kept (up0 _ _)).others _ _ _ (Nat.ne_of_lt H2.out.1.lt), (H2.out.2.1.kept (up0 _ _)).others _ _ _ (Nat.ne_of_lt H2.out.2.1.lt), own_keptB (H2.out.2.2.1.alloc _) (fun b e => cells_other _ _ _ _ _ (Nat.ne_of_lt (own_block H2.out.2.2.1 b e).2)), (lb_new w2 ZR _).sets G HZRL.out, H2.out.2.1.lt, below_cells (Nat.le_of_lt H2.out.1.lt) _ 0 _ (up H2.out.2.2.2 _)⟩
 go_wp2_with (first | (refine wpList_alloc_R HZR.out rfl rfl ?_) | (refine wpList_store_mid rfl 28 (.tmp 7) (.tmp 20) rfl w2.heap.size 0 G.toArray rfl rfl (HTZ.out _) (by simpa using HGL.out) (all_oneCell_toArray HG1.out) ?_; (obtain ⟨W3, hW3, hq⟩ := H3.out); (have H4 : Hid _ := hq); (rw [List.toList_toArray, ← hW3]); (clear hW3 hq H3 HTZ)) | (refine wpList_build_Z HZ.out rfl rfl ?_) | (refine wpList_store_mid rfl 31 (.tmp 4) (.tmp 24) rfl (w.heap.size + 1 + 1) 0 Z.toArray rfl rfl (there_of H4.out.2.1 (by simp)) (by simpa using HZI.out) (all_oneCell_toArray HZ1.out) ?_) | fail)
 have HR5 : Hid ((W3.setCells (w.heap.size + 1 + 1) 0 Z).rangeAt (w.heap.size + 1 + 1) 0 Z) := (H4.out.2.1.sets Z rfl).range
 have HBF : Hid (Below w.heap.size w (W3.setCells (w.heap.size + 1 + 1) 0 Z)) := below_cells (by omega) _ 0 _ H4.out.2.2.2.2.2
 refine bodyPost_ret (results_cell_slot (p := 4) (s := 5) (ty := 31) rfl _ (W3.setCells (w.heap.size + 1 + 1) 0 Z) (w.heap.size + 1 + 1) Z _ rfl HR5.out Tryz.underlying31 rfl HZI.out) rfl ?_
 exact ⟨⟨none, 0, none, 0, none, 0, none, 0⟩, by rw [HZ.out, HZE.out]; rfl, sgO_zero _ _, HBF.out⟩
end Go.Proofs.YtgmkjcfdpiinpaaGreatDoor

