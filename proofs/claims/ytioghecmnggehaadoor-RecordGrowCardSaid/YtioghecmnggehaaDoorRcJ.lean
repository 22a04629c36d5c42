/-
  Package record: readParts.
-/
import Derived.Test.YtioghecmnggehaaDoorRcI
namespace Go.Proofs.YtioghecmnggehaaDoor
open Go Go.RowKit
open Wb

theorem cells_other (g : Nat) : ∀ (vs : List Value) (o : Nat) (w : World) (i : Nat), i ≠ g → (w.setCells g o vs).heap[i]? = w.heap[i]?
  | [], _, _, _, _ => rfl
  | v :: r, o, w, i, h => by
    show ((w.setCell ⟨g, o, none⟩ v).setCells g (o + 1) r).heap[i]? = _
    rw [cells_other g r (o + 1) _ i h, set_other w ⟨g, o, none⟩ v i h]
theorem below_cells {B g : Nat} {a : World} (hg : B ≤ g) : ∀ (vs : List Value) (o : Nat) (w : World), Below B a w → Below B a (w.setCells g o vs)
  | [], _, _, h => h
  | v :: r, o, _, h => below_cells hg r (o + 1) _ (Below.setCell h hg v)
theorem Own.cells {B : Nat} {w : World} {v : Value} {l : List Nat} (h : Own B w v l) (g o : Nat) (vs : List Value) (hp : g < B) : Own B (w.setCells g o vs) v l := by
  refine ⟨⟨h.row.1, ?_⟩, h.good⟩
  rcases h.row.2 with h1 | ⟨g', cap, cur, rfl, h1, hg, rest⟩
  · exact .inl h1
  · exact .inr ⟨g', cap, cur, rfl, h1, (cells_other g vs o w g' (by omega)).trans hg, rest⟩

theorem infoParts : (Tryd.prog.info? 47).map (·.size) = some 12 := by kernel_rfl
set_option maxRecDepth 100000 in
set_option maxHeartbeats 4000000 in
theorem rparts_any (v : Value) (b : List Nat) (w : World) (h : Bs w v b) (hlen : b.length ≤ 140737488355328) (A : Nat × Pts) (hA : rpF b 12 0 0 zeroPts = A) :
    Calls Tryd.prog 20 #[v] w fun e w' => ∃ ao cap, e = .returned (.tuple #[pv A.2.x (bstr A.2.nm) (.slice ao A.2.l.length cap), .int .i64 (A.1 : Int)]) ∧ Own w.heap.size w' (.slice ao A.2.l.length cap) A.2.l ∧ Below w.heap.size w w' := by
  have HA : Hid (rpF b 12 0 0 zeroPts = A) := hA
  have HIP : Hid ((Tryd.prog.info? 47).map (·.size) = some 12) := infoParts
  have HV : Hid (∀ w', Below w.heap.size w w' → Bs w' v b) := fun w' hb => h.kept hb
  have HX : Hid (∀ o1 o2, ((w.alloc o1).alloc o2).heap[w.heap.size]? = some o1 ∧ ((w.alloc o1).alloc o2).heap[w.heap.size + 1]? = some o2 ∧ Below w.heap.size w ((w.alloc o1).alloc o2)) := fun o1 o2 => heap2 w o1 o2
  obtain ⟨ao, cap, rfl, _⟩ := h.shape
  clear h hA
  unfold pv
  go_enter Tryd.func20, Tryd.ntmps20
  go_wp2
  go_loopw [5, 6] (fun i j wr => ∃ (at' : Int) (last n : Nat) (q : Pts), i = .int .i64 at' ∧ j = .int .i64 (last : Int) ∧ last ≤ 11 ∧ 12 ≤ n + last ∧ rpF b n at' last q = A ∧ Pl wr (w.heap.size + 1) q ∧ PBox wr w.heap.size zeroNums ⟨#[]⟩ (.slice none 0 0) ∧ Below w.heap.size w wr) (fun _ j _ => 12 - (intOf j).toNat)
  case atStart => exact ⟨0, 0, 12, zeroPts, rfl, rfl, by omega, by omega, HA.out, ⟨none, 0, (HX.out _ _).2.1, Own.nil _ _⟩, (HX.out _ _).1, (HX.out _ _).2.2⟩
  case round =>
    obtain ⟨at', last, n, q, rfl, rfl, hlast, hn, hr, hpl, hz, hbel⟩ := hrel
    obtain ⟨n, rfl⟩ : ∃ m, n = m + 1 := ⟨n - 1, by omega⟩
    have HR : Hid (rpF b (n + 1) at' last q = A) := hr
    clear hr HA HX
    by_cases hlt : at' < (b.length : Int)
    · have HRT : Hid (Calls Tryd.prog 32 #[.slice ao b.length cap, .int .i64 at', .int .i64 (last : Int)] wr fun e w' => e = .returned (.tuple #[.int .i64 ((rt b at' last).1 : Int), .int .i64 (rt b at' last).2.1, .int .i64 ((rt b at' last).2.2 : Int)]) ∧ w' = wr) := rtag_any _ b at' last wr (HV.out _ hbel) hlen hlast
      have HR2 : Hid (A = if (rt b at' last).2.2 ≠ 0 then ((rt b at' last).2.2, zeroPts)
       else if (rdp b (rt b at' last).2.1 (rt b at' last).1 q).2.1 ≠ 0 then ((rdp b (rt b at' last).2.1 (rt b at' last).1 q).2.1, zeroPts)
       else if zeroT (rdp b (rt b at' last).2.1 (rt b at' last).1 q).2.2.x (bstr (rdp b (rt b at' last).2.1 (rt b at' last).1 q).2.2.nm) (rdp b (rt b at' last).2.1 (rt b at' last).1 q).2.2.l.length (rt b at' last).1 then (38, zeroPts)
       else rpF b n (rdp b (rt b at' last).2.1 (rt b at' last).1 q).1 (rt b at' last).1 (rdp b (rt b at' last).2.1 (rt b at' last).1 q).2.2) := by show _ = _; rw [← HR.out, rpF, if_pos hlt]
      have HOK : Hid ((rt b at' last).2.2 = 0 → last < (rt b at' last).1 ∧ (rt b at' last).1 ≤ 11) := rt_ok b at' last
      clear HR
      generalize rt b at' last = T at *
      obtain ⟨tag, frm, e1⟩ := T
      simp only at HRT HR2 HOK
      by_cases he1 : e1 = 0
      · subst he1
        obtain ⟨ht1, ht2⟩ := HOK.out rfl
        have HRD : Hid (Calls Tryd.prog 33 #[.pointer (some ⟨w.heap.size + 1, 0, none⟩), .int .i64 (tag : Int), .slice ao b.length cap, .int .i64 frm] wr fun e w' => e = .returned (.tuple #[.int .i64 (rdp b frm tag q).1, .int .i64 ((rdp b frm tag q).2.1 : Int)]) ∧ Pl w' (w.heap.size + 1) (rdp b frm tag q).2.2 ∧ Below (w.heap.size + 1) wr w') := read_any _ b frm tag (w.heap.size + 1) q wr (HV.out _ hbel) hlen hpl (by omega) ht2 (fun w' hb => HV.out _ (hbel.trans (hb.mono (Nat.le_succ _))))
        have HR3 : Hid (A = if (rdp b frm tag q).2.1 ≠ 0 then ((rdp b frm tag q).2.1, zeroPts) else if zeroT (rdp b frm tag q).2.2.x (bstr (rdp b frm tag q).2.2.nm) (rdp b frm tag q).2.2.l.length tag then (38, zeroPts) else rpF b n (rdp b frm tag q).1 tag (rdp b frm tag q).2.2) := by show _ = _; rw [HR2.out, if_neg (by simp)]
        have HZ : Hid (∀ w', Below (w.heap.size + 1) wr w' → PBox w' w.heap.size zeroNums ⟨#[]⟩ (.slice none 0 0) ∧ Below w.heap.size w w') := fun w' hb => ⟨(hb.block w.heap.size (Nat.lt_succ_self _)).trans hz, hbel.trans (hb.mono (Nat.le_succ _))⟩
        clear HR2 HOK hpl hz hbel
        generalize rdp b frm tag q = D at *
        obtain ⟨end', e2, q2⟩ := D
        simp only at HRD HR3
        go_wp2_with fail
        refine HRT.out.mono ?_
        rintro e w1 ⟨rfl, rfl⟩
        go_wp2_with fail
        refine HRD.out.mono ?_
        rintro e w2 ⟨rfl, hpl2, b2⟩
        have HZ2 := HZ.out _ b2
        clear HZ b2 HRT HRD
        obtain ⟨hz, hbel⟩ := HZ2
        by_cases he2 : e2 = 0
        · subst he2
          have HR4 : Hid (A = if zeroT q2.x (bstr q2.nm) q2.l.length tag then (38, zeroPts) else rpF b n end' tag q2) := by show _ = _; rw [HR3.out, if_neg (by simp)]
          clear HR3
          obtain ⟨ao2, cap2, hbx, how⟩ := hpl2
          obtain ⟨c0, c1, c2, c3, c4, c5, c6, c7, c8, c9, c10, c11⟩ := hbx.cells
          have HIZ : Hid (Calls Tryd.prog 28 #[pv q2.x (bstr q2.nm) (.slice ao2 q2.l.length cap2), .int .i64 (tag : Int)] w2 fun e w'' => e = .returned (.bool (zeroT q2.x (bstr q2.nm) q2.l.length tag)) ∧ Below w2.heap.size w2 w'') := isZero_any q2.x (bstr q2.nm) ao2 q2.l.length cap2 tag w2 (by omega) ht2
          have HK : Hid (∀ w', Below w2.heap.size w2 w' → Pl w' (w.heap.size + 1) q2 ∧ PBox w' w.heap.size zeroNums ⟨#[]⟩ (.slice none 0 0) ∧ Below w.heap.size w w') := fun w' hb => ⟨⟨ao2, cap2, hbx.kept hb, how.kept hb⟩, hz.kept hb, andThen hbel hb⟩
          clear hbx how hz hbel
          unfold pv at HIZ
          cases hzt : zeroT q2.x (bstr q2.nm) q2.l.length tag with
          | true =>
            have HF : Hid ((38, zeroPts) = A) := by show _ = _; rw [HR4.out, hzt]; rfl
            rw [hzt] at HIZ
            clear HR4 hzt
            go_wp2_with fail
            refine HIZ.out.mono ?_
            rintro e w3 ⟨rfl, b3⟩
            have HK3 := HK.out _ b3
            clear HK HIZ b3 c0 c1 c2 c3 c4 c5 c6 c7 c8 c9 c10 c11
            obtain ⟨_, hz, hbel⟩ := HK3
            obtain ⟨z0, z1, z2, z3, z4, z5, z6, z7, z8, z9, z10, z11⟩ := hz.cells
            have f0 := hz.free 0
            have f1 := hz.free 1
            have f2 := hz.free 2
            have f3 := hz.free 3
            have f4 := hz.free 4
            have f5 := hz.free 5
            have f6 := hz.free 6
            have f7 := hz.free 7
            have f8 := hz.free 8
            have f9 := hz.free 9
            have f10 := hz.free 10
            have f11 := hz.free 11
            have HTH : Hid (w3.there w.heap.size 0 12) := hz.there
            have HBF : Hid (Below w.heap.size w (w3.setCells w.heap.size 0 [.int .i64 0, .int .i64 0, .int .i64 0, .int .i64 0, .int .i64 0, .int .i64 0, .int .i64 0, .int .i64 0, .int .i64 0, .int .i64 0, .string ⟨#[]⟩, .slice none 0 0])) := below_cells (Nat.le_refl _) _ 0 _ hbel
            go_wp2
            have HRG := World.rangeAt_setCells_same w3 w.heap.size 0 [.int .i64 0, .int .i64 0, .int .i64 0, .int .i64 0, .int .i64 0, .int .i64 0, .int .i64 0, .int .i64 0, .int .i64 0, .int .i64 0, .string ⟨#[]⟩, .slice none 0 0] HTH.out
            refine bodyPost_ret (results_cell_slot (p := 2) (s := 3) (ty := 47) rfl _ _ w.heap.size [.int .i64 0, .int .i64 0, .int .i64 0, .int .i64 0, .int .i64 0, .int .i64 0, .int .i64 0, .int .i64 0, .int .i64 0, .int .i64 0, .string ⟨#[]⟩, .slice none 0 0] _ rfl HRG Tryd.underlying47 rfl HIP.out) rfl ?_
            have hF := HF.out
            subst hF
            exact ⟨none, 0, rfl, Own.nil _ _, HBF.out⟩
          | false =>
            have HF : Hid (rpF b n end' tag q2 = A) := by show _ = _; rw [HR4.out, hzt]; rfl
            rw [hzt] at HIZ
            clear HR4 hzt
            go_wp2_with fail
            refine HIZ.out.mono ?_
            rintro e w3 ⟨rfl, b3⟩
            have HK3 : Hid (Pl w3 (w.heap.size + 1) q2 ∧ PBox w3 w.heap.size zeroNums ⟨#[]⟩ (.slice none 0 0) ∧ Below w.heap.size w w3) := HK.out _ b3
            clear HK HIZ b3 c0 c1 c2 c3 c4 c5 c6 c7 c8 c9 c10 c11
            go_wp2
            go_roundw
            case rel => exact ⟨end', tag, n, q2, rfl, rfl, ht2, by omega, HF.out, HK3.out.1, HK3.out.2.1, HK3.out.2.2⟩
            case measure => simp [intOf]; omega
        · have HF : Hid ((e2, zeroPts) = A) := by show _ = _; rw [HR3.out, if_pos he2]
          have d2 : ((e2 : Int) != 0) = true := by rw [bne_iff_ne]; omega
          clear HR3 hpl2 he2
          obtain ⟨z0, z1, z2, z3, z4, z5, z6, z7, z8, z9, z10, z11⟩ := hz.cells
          have f0 := hz.free 0
          have f1 := hz.free 1
          have f2 := hz.free 2
          have f3 := hz.free 3
          have f4 := hz.free 4
          have f5 := hz.free 5
          have f6 := hz.free 6
          have f7 := hz.free 7
          have f8 := hz.free 8
          have f9 := hz.free 9
          have f10 := hz.free 10
          have f11 := hz.free 11
          have HTH : Hid (w2.there w.heap.size 0 12) := hz.there
          have HBF : Hid (Below w.heap.size w (w2.setCells w.heap.size 0 [.int .i64 0, .int .i64 0, .int .i64 0, .int .i64 0, .int .i64 0, .int .i64 0, .int .i64 0, .int .i64 0, .int .i64 0, .int .i64 0, .string ⟨#[]⟩, .slice none 0 0])) := below_cells (Nat.le_refl _) _ 0 _ hbel
          go_wp2
          have HRG := World.rangeAt_setCells_same w2 w.heap.size 0 [.int .i64 0, .int .i64 0, .int .i64 0, .int .i64 0, .int .i64 0, .int .i64 0, .int .i64 0, .int .i64 0, .int .i64 0, .int .i64 0, .string ⟨#[]⟩, .slice none 0 0] HTH.out
          refine bodyPost_ret (results_cell_slot (p := 2) (s := 3) (ty := 47) rfl _ _ w.heap.size [.int .i64 0, .int .i64 0, .int .i64 0, .int .i64 0, .int .i64 0, .int .i64 0, .int .i64 0, .int .i64 0, .int .i64 0, .int .i64 0, .string ⟨#[]⟩, .slice none 0 0] _ rfl HRG Tryd.underlying47 rfl HIP.out) rfl ?_
          have hF := HF.out
          subst hF
          exact ⟨none, 0, rfl, Own.nil _ _, HBF.out⟩
      · have HF : Hid ((e1, zeroPts) = A) := by show _ = _; rw [HR2.out, if_pos he1]
        have d1 : ((e1 : Int) != 0) = true := by rw [bne_iff_ne]; omega
        clear HR2 HOK he1 hpl
        go_wp2_with fail
        refine HRT.out.mono ?_
        rintro e w1 ⟨rfl, rfl⟩
        clear HRT
        obtain ⟨z0, z1, z2, z3, z4, z5, z6, z7, z8, z9, z10, z11⟩ := hz.cells
        have f0 := hz.free 0
        have f1 := hz.free 1
        have f2 := hz.free 2
        have f3 := hz.free 3
        have f4 := hz.free 4
        have f5 := hz.free 5
        have f6 := hz.free 6
        have f7 := hz.free 7
        have f8 := hz.free 8
        have f9 := hz.free 9
        have f10 := hz.free 10
        have f11 := hz.free 11
        have HTH : Hid (w1.there w.heap.size 0 12) := hz.there
        have HBF : Hid (Below w.heap.size w (w1.setCells w.heap.size 0 [.int .i64 0, .int .i64 0, .int .i64 0, .int .i64 0, .int .i64 0, .int .i64 0, .int .i64 0, .int .i64 0, .int .i64 0, .int .i64 0, .string ⟨#[]⟩, .slice none 0 0])) := below_cells (Nat.le_refl _) _ 0 _ hbel
        go_wp2
        have HRG := World.rangeAt_setCells_same w1 w.heap.size 0 [.int .i64 0, .int .i64 0, .int .i64 0, .int .i64 0, .int .i64 0, .int .i64 0, .int .i64 0, .int .i64 0, .int .i64 0, .int .i64 0, .string ⟨#[]⟩, .slice none 0 0] HTH.out
        refine bodyPost_ret (results_cell_slot (p := 2) (s := 3) (ty := 47) rfl _ _ w.heap.size [.int .i64 0, .int .i64 0, .int .i64 0, .int .i64 0, .int .i64 0, .int .i64 0, .int .i64 0, .int .i64 0, .int .i64 0, .int .i64 0, .string ⟨#[]⟩, .slice none 0 0] _ rfl HRG Tryd.underlying47 rfl HIP.out) rfl ?_
        have hF := HF.out
        subst hF
        exact ⟨none, 0, rfl, Own.nil _ _, HBF.out⟩
    · have HF : Hid ((0, q) = A) := by show _ = _; rw [← HR.out, rpF, if_neg hlt]
      clear HR
      obtain ⟨ao2, cap2, hbx, how⟩ := hpl
      have hrng : wr.rangeAt (w.heap.size + 1) 0 [.int .i64 0, .int .i64 q.x.k, .int .i64 q.x.s, .int .i64 q.x.p, .int .i64 q.x.t, .int .i64 q.x.a, .int .i64 q.x.l, .int .i64 q.x.c, .int .i64 q.x.n, .int .i64 q.x.i, .string (bstr q.nm), .slice ao2 q.l.length cap2] := World.rangeAt_of_block hbx 0 12
      have HTH : Hid (wr.there w.heap.size 0 12) := hz.there
      have HOW : Hid (∀ vs, Own w.heap.size (wr.setCells w.heap.size 0 vs) (.slice ao2 q.l.length cap2) q.l ∧ Below w.heap.size w (wr.setCells w.heap.size 0 vs)) := fun vs => ⟨Own.mono (Own.cells how w.heap.size 0 vs (by omega)) (by omega), below_cells (Nat.le_refl _) vs 0 _ hbel⟩
      clear hbx how hz
      obtain ⟨D, hD⟩ : ∃ D : List Value, [.int .i64 0, .int .i64 q.x.k, .int .i64 q.x.s, .int .i64 q.x.p, .int .i64 q.x.t, .int .i64 q.x.a, .int .i64 q.x.l, .int .i64 q.x.c, .int .i64 q.x.n, .int .i64 q.x.i, .string (bstr q.nm), .slice ao2 q.l.length cap2] = D := ⟨_, rfl⟩
      have HD : Hid ([.int .i64 0, .int .i64 q.x.k, .int .i64 q.x.s, .int .i64 q.x.p, .int .i64 q.x.t, .int .i64 q.x.a, .int .i64 q.x.l, .int .i64 q.x.c, .int .i64 q.x.n, .int .i64 q.x.i, .string (bstr q.nm), .slice ao2 q.l.length cap2] = D) := hD
      have HDL : Hid (D.length = 12) := by show _ = _; rw [← hD]; rfl
      have HDO : Hid (D.toArray.all (·.oneCell') = true) := by show _ = _; rw [← hD]; simp [Value.oneCell']
      have HDI : Hid ((Tryd.prog.info? 47).map (·.size) = some D.length) := by show _ = _; rw [HDL.out]; exact HIP.out
      rw [hD] at hrng
      have hst : (storeCells ⟨w.heap.size, 0, none⟩ D).run Tryd.prog wr = .ok () (wr.setCells w.heap.size 0 D) := run_storeCells_cells (P := Tryd.prog) w.heap.size 0 D 0 wr (fun j hj => by rw [HDL.out] at hj; simpa using (HTH.out j hj).1) (fun j hj => by rw [HDL.out] at hj; simpa using (HTH.out j hj).2) (fun v hv => (Array.all_eq_true_iff_forall_mem.1 HDO.out) v (by simpa using hv))
      clear hD
      go_wp2_with (first
        | (refine wpList_load_mid rfl 47 _ rfl (w.heap.size + 1) 0 rfl D _ hrng Tryd.underlying47 rfl HDI.out ?_))
      have HRG := World.rangeAt_setCells_same wr w.heap.size 0 D (by rw [HDL.out]; exact HTH.out)
      refine bodyPost_ret (results_cell_slot (p := 2) (s := 3) (ty := 47) rfl _ _ w.heap.size D _ rfl HRG Tryd.underlying47 rfl HDI.out) rfl ?_
      have hF := HF.out
      subst hF
      have hD := HD.out
      subst hD
      exact ⟨ao2, cap2, rfl, (HOW.out _).1, (HOW.out _).2⟩
end Go.Proofs.YtioghecmnggehaaDoor
