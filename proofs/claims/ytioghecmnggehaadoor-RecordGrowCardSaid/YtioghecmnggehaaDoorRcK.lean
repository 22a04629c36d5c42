/-
  Package record: Decode.
-/
import Derived.Test.YtioghecmnggehaaDoorRcJ
namespace Go.Proofs.YtioghecmnggehaaDoor
open Go Go.RowKit
open Wb

theorem rpF_fits (b : List Nat) : ∀ (n : Nat) (p : Int) (last : Nat) (q : Pts), q.fits → (rpF b n p last q).2.fits
  | 0, _, _, _, h => h
  | n + 1, p, last, q, h => by
    have hz : zeroPts.fits := ⟨by decide, by decide⟩
    unfold rpF
    split
    · split
      · exact hz
      · split
        · exact hz
        · split
          · exact hz
          · exact rpF_fits b n _ _ _ (rdp_fits b _ _ q h)
    · exact h
def Pts.ofV (q : Pts) (v : Int) : Pts := { q with x := q.x.ofV v }
/-- Decode's answer -/
def dcd (v : Int) (b : List Nat) : Int × Pts :=
  if ¬ (1 ≤ v ∧ v ≤ 3) then (3, zeroPts)
  else if (rpF b 12 0 0 zeroPts).1 ≠ 0 then (((rpF b 12 0 0 zeroPts).1 : Int), zeroPts)
  else if chk ((rpF b 12 0 0 zeroPts).2.x.ofV v) (bstr (rpF b 12 0 0 zeroPts).2.nm) (rpF b 12 0 0 zeroPts).2.l ≠ 0 then (chk ((rpF b 12 0 0 zeroPts).2.x.ofV v) (bstr (rpF b 12 0 0 zeroPts).2.nm) (rpF b 12 0 0 zeroPts).2.l, zeroPts)
  else (0, (rpF b 12 0 0 zeroPts).2.ofV v)
theorem infoRec : (Tryd.prog.info? 24).map (·.size) = some 12 := by kernel_rfl
theorem Box.free' {w : World} {g : Nat} {x : Nums} {nm : ByteArray} {d : Value} (h : Box w g x nm d) (j : Nat) : w.frozen? ⟨g, j, none⟩ = false := by
  unfold Box at h
  simp [World.frozen?, h]
theorem Box.there {w : World} {g : Nat} {x : Nums} {nm : ByteArray} {d : Value} (h : Box w g x nm d) : w.there g 0 12 := by
  intro j hj
  rw [Nat.zero_add]
  obtain ⟨c0, c1, c2, c3, c4, c5, c6, c7, c8, c9, c10, c11⟩ := h.cells
  match j, hj with
  | 0, _ => exact ⟨by rw [c0]; rfl, h.free' 0⟩
  | 1, _ => exact ⟨by rw [c1]; rfl, h.free' 1⟩
  | 2, _ => exact ⟨by rw [c2]; rfl, h.free' 2⟩
  | 3, _ => exact ⟨by rw [c3]; rfl, h.free' 3⟩
  | 4, _ => exact ⟨by rw [c4]; rfl, h.free' 4⟩
  | 5, _ => exact ⟨by rw [c5]; rfl, h.free' 5⟩
  | 6, _ => exact ⟨by rw [c6]; rfl, h.free' 6⟩
  | 7, _ => exact ⟨by rw [c7]; rfl, h.free' 7⟩
  | 8, _ => exact ⟨by rw [c8]; rfl, h.free' 8⟩
  | 9, _ => exact ⟨by rw [c9]; rfl, h.free' 9⟩
  | 10, _ => exact ⟨by rw [c10]; rfl, h.free' 10⟩
  | 11, _ => exact ⟨by rw [c11]; rfl, h.free' 11⟩
set_option maxRecDepth 100000 in
set_option maxHeartbeats 4000000 in
theorem decode_any (v : Int) (bv : Value) (b : List Nat) (w : World) (h : Bs w bv b) (hlen : b.length ≤ 140737488355328) (hT : Text.TabP 1 .i32 Text.Tx.lets w) (hG : TagsT w) (A : Int × Pts) (hA : dcd v b = A) :
    Calls Tryd.prog 7 #[.int .i64 v, bv] w fun e w' => ∃ ao cap, e = .returned (.tuple #[rv A.2.x (bstr A.2.nm) (.slice ao A.2.l.length cap), .int .i64 A.1]) ∧ Own w.heap.size w' (.slice ao A.2.l.length cap) A.2.l ∧ Below w.heap.size w w' := by
  have HIR : Hid ((Tryd.prog.info? 24).map (·.size) = some 12) := infoRec
  have HX : Hid (∀ o, (w.alloc o).heap[w.heap.size]? = some o ∧ Below w.heap.size w (w.alloc o)) := fun o => ⟨Array.getElem?_push_size, up0 w o⟩
  have HT : Hid (∀ w', Below w.heap.size w w' → Text.TabP 1 .i32 Text.Tx.lets w') := fun w' hb => hT.kept hb
  have HG : Hid (∀ w', Below w.heap.size w w' → TagsT w') := fun w' hb => hG.kept hb
  have HRP : Hid (∀ w', Below w.heap.size w w' → Calls Tryd.prog 20 #[bv] w' fun e w'' => ∃ ao cap, e = .returned (.tuple #[pv (rpF b 12 0 0 zeroPts).2.x (bstr (rpF b 12 0 0 zeroPts).2.nm) (.slice ao (rpF b 12 0 0 zeroPts).2.l.length cap), .int .i64 ((rpF b 12 0 0 zeroPts).1 : Int)]) ∧ Own w'.heap.size w'' (.slice ao (rpF b 12 0 0 zeroPts).2.l.length cap) (rpF b 12 0 0 zeroPts).2.l ∧ Below w'.heap.size w' w'') := fun w' hb => rparts_any bv b w' (h.kept hb) hlen _ rfl
  have HFT : Hid ((rpF b 12 0 0 zeroPts).2.fits) := rpF_fits b 12 0 0 zeroPts ⟨by decide, by decide⟩
  have HA : Hid (dcd v b = A) := hA
  obtain ⟨ao, cap, rfl, _⟩ := h.shape
  clear h hT hG hA
  by_cases hv : 1 ≤ v ∧ v ≤ 3
  · have HV : Hid ((decide (1 ≤ v) && decide (v ≤ 3)) = true) := by show _ = _; simp [hv.1, hv.2]
    have HA2 : Hid (A = if (rpF b 12 0 0 zeroPts).1 ≠ 0 then (((rpF b 12 0 0 zeroPts).1 : Int), zeroPts) else if chk ((rpF b 12 0 0 zeroPts).2.x.ofV v) (bstr (rpF b 12 0 0 zeroPts).2.nm) (rpF b 12 0 0 zeroPts).2.l ≠ 0 then (chk ((rpF b 12 0 0 zeroPts).2.x.ofV v) (bstr (rpF b 12 0 0 zeroPts).2.nm) (rpF b 12 0 0 zeroPts).2.l, zeroPts) else (0, (rpF b 12 0 0 zeroPts).2.ofV v)) := by show _ = _; rw [← HA.out, dcd, if_neg (by simp [hv.1, hv.2])]
    clear HA
    generalize rpF b 12 0 0 zeroPts = Q at *
    obtain ⟨er, q⟩ := Q
    simp only at HRP HFT HA2
    unfold rv
    unfold pv at HRP
    go_enter Tryd.func7, Tryd.ntmps7
    go_wp2_with fail
    refine (isV_any v _).mono ?_
    rw [HV.out]
    rintro e w0 ⟨rfl, rfl⟩
    go_wp2_with fail
    refine (HRP.out _ (HX.out _).2).mono ?_
    rintro e w1 ⟨ao1, cap1, rfl, ho1, b1⟩
    have HW2 : Hid (Box (w1.alloc (.cells #[.int .i64 0, .int .i64 q.x.k, .int .i64 q.x.s, .int .i64 q.x.p, .int .i64 q.x.t, .int .i64 q.x.a, .int .i64 q.x.l, .int .i64 q.x.c, .int .i64 q.x.n, .int .i64 q.x.i, .string (bstr q.nm), .slice ao1 q.l.length cap1] 47)) w.heap.size zeroNums ⟨#[]⟩ (.slice none 0 0) ∧ Below w.heap.size w (w1.alloc (.cells #[.int .i64 0, .int .i64 q.x.k, .int .i64 q.x.s, .int .i64 q.x.p, .int .i64 q.x.t, .int .i64 q.x.a, .int .i64 q.x.l, .int .i64 q.x.c, .int .i64 q.x.n, .int .i64 q.x.i, .string (bstr q.nm), .slice ao1 q.l.length cap1] 47)) ∧ Own (w.heap.size + 1) (w1.alloc (.cells #[.int .i64 0, .int .i64 q.x.k, .int .i64 q.x.s, .int .i64 q.x.p, .int .i64 q.x.t, .int .i64 q.x.a, .int .i64 q.x.l, .int .i64 q.x.c, .int .i64 q.x.n, .int .i64 q.x.i, .string (bstr q.nm), .slice ao1 q.l.length cap1] 47)) (.slice ao1 q.l.length cap1) q.l) := by
      have e1 : (w.alloc (.cells #[.int .i64 0, .int .i64 0, .int .i64 0, .int .i64 0, .int .i64 0, .int .i64 0, .int .i64 0, .int .i64 0, .int .i64 0, .int .i64 0, .string ⟨#[]⟩, .slice none 0 0] 24)).heap.size = w.heap.size + 1 := by
        show (w.heap.push _).size = _
        rw [Array.size_push]
      exact ⟨Box.kept (Box.kept (HX.out _).1 b1) (up0 _ _), up (andThen (HX.out _).2 b1) _, (ho1.alloc _).mono (by rw [← e1]; exact Nat.le_refl _)⟩
    clear b1 ho1 HX HRP
    by_cases he : er = 0
    · subst he
      have HA3 : Hid (A = if chk (q.x.ofV v) (bstr q.nm) q.l ≠ 0 then (chk (q.x.ofV v) (bstr q.nm) q.l, zeroPts) else (0, q.ofV v)) := by show _ = _; rw [HA2.out, if_neg (by simp)]
      clear HA2
      have HJ : Hid (∀ w', Calls Tryd.prog 21 #[pv q.x (bstr q.nm) (.slice ao1 q.l.length cap1), .int .i64 v] w' fun e w'' => e = .returned (rv (q.x.ofV v) (bstr q.nm) (.slice ao1 q.l.length cap1)) ∧ Below w'.heap.size w' w'') := fun w' => joined_any q.x (bstr q.nm) ao1 q.l.length cap1 v w'
      have HK : Hid (∀ w', Below (w1.alloc (.cells #[.int .i64 0, .int .i64 q.x.k, .int .i64 q.x.s, .int .i64 q.x.p, .int .i64 q.x.t, .int .i64 q.x.a, .int .i64 q.x.l, .int .i64 q.x.c, .int .i64 q.x.n, .int .i64 q.x.i, .string (bstr q.nm), .slice ao1 q.l.length cap1] 47)).heap.size (w1.alloc (.cells #[.int .i64 0, .int .i64 q.x.k, .int .i64 q.x.s, .int .i64 q.x.p, .int .i64 q.x.t, .int .i64 q.x.a, .int .i64 q.x.l, .int .i64 q.x.c, .int .i64 q.x.n, .int .i64 q.x.i, .string (bstr q.nm), .slice ao1 q.l.length cap1] 47)) w' → Box w' w.heap.size zeroNums ⟨#[]⟩ (.slice none 0 0) ∧ Below w.heap.size w w' ∧ Own (w.heap.size + 1) w' (.slice ao1 q.l.length cap1) q.l) := fun w' hb => ⟨HW2.out.1.kept hb, andThen HW2.out.2.1 hb, HW2.out.2.2.kept hb⟩
      have hsz : (bstr q.nm).size ≤ 140737488355000 := by rw [bstr_size]; exact Nat.le_trans HFT.out.1 (by decide)
      clear HW2
      unfold rv pv at HJ
      go_wp2_with fail
      refine (HJ.out _).mono ?_
      rintro e w3 ⟨rfl, b3⟩
      have HK3 : Hid (Box (w3.alloc (.cells #[.int .i64 v, .int .i64 q.x.k, .int .i64 q.x.s, .int .i64 q.x.p, .int .i64 q.x.t, .int .i64 q.x.a, .int .i64 q.x.l, .int .i64 q.x.c, .int .i64 q.x.n, .int .i64 q.x.i, .string (bstr q.nm), .slice ao1 q.l.length cap1] 24)) w.heap.size zeroNums ⟨#[]⟩ (.slice none 0 0) ∧ Below w.heap.size w (w3.alloc (.cells #[.int .i64 v, .int .i64 q.x.k, .int .i64 q.x.s, .int .i64 q.x.p, .int .i64 q.x.t, .int .i64 q.x.a, .int .i64 q.x.l, .int .i64 q.x.c, .int .i64 q.x.n, .int .i64 q.x.i, .string (bstr q.nm), .slice ao1 q.l.length cap1] 24)) ∧ Own (w.heap.size + 1) (w3.alloc (.cells #[.int .i64 v, .int .i64 q.x.k, .int .i64 q.x.s, .int .i64 q.x.p, .int .i64 q.x.t, .int .i64 q.x.a, .int .i64 q.x.l, .int .i64 q.x.c, .int .i64 q.x.n, .int .i64 q.x.i, .string (bstr q.nm), .slice ao1 q.l.length cap1] 24)) (.slice ao1 q.l.length cap1) q.l ∧ Box (w3.alloc (.cells #[.int .i64 v, .int .i64 q.x.k, .int .i64 q.x.s, .int .i64 q.x.p, .int .i64 q.x.t, .int .i64 q.x.a, .int .i64 q.x.l, .int .i64 q.x.c, .int .i64 q.x.n, .int .i64 q.x.i, .string (bstr q.nm), .slice ao1 q.l.length cap1] 24)) w3.heap.size (q.x.ofV v) (bstr q.nm) (.slice ao1 q.l.length cap1)) := ⟨(HK.out _ (up b3 _)).1, (HK.out _ (up b3 _)).2.1, (HK.out _ (up b3 _)).2.2, Array.getElem?_push_size⟩
      clear HK b3 HJ
      have HCH : Hid (Calls Tryd.prog 11 #[rv (q.x.ofV v) (bstr q.nm) (.slice ao1 q.l.length cap1)] (w3.alloc (.cells #[.int .i64 v, .int .i64 q.x.k, .int .i64 q.x.s, .int .i64 q.x.p, .int .i64 q.x.t, .int .i64 q.x.a, .int .i64 q.x.l, .int .i64 q.x.c, .int .i64 q.x.n, .int .i64 q.x.i, .string (bstr q.nm), .slice ao1 q.l.length cap1] 24)) fun e w' => e = .returned (.int .i64 (chk (q.x.ofV v) (bstr q.nm) q.l)) ∧ Below (w3.alloc (.cells #[.int .i64 v, .int .i64 q.x.k, .int .i64 q.x.s, .int .i64 q.x.p, .int .i64 q.x.t, .int .i64 q.x.a, .int .i64 q.x.l, .int .i64 q.x.c, .int .i64 q.x.n, .int .i64 q.x.i, .string (bstr q.nm), .slice ao1 q.l.length cap1] 24)).heap.size (w3.alloc (.cells #[.int .i64 v, .int .i64 q.x.k, .int .i64 q.x.s, .int .i64 q.x.p, .int .i64 q.x.t, .int .i64 q.x.a, .int .i64 q.x.l, .int .i64 q.x.c, .int .i64 q.x.n, .int .i64 q.x.i, .string (bstr q.nm), .slice ao1 q.l.length cap1] 24)) w') := check_any (q.x.ofV v) (bstr q.nm) _ q.l _ HK3.out.2.2.1.bs (HT.out _ HK3.out.2.1) (HG.out _ HK3.out.2.1) hsz
      unfold rv at HCH
      go_wp2_with fail
      refine HCH.out.mono ?_
      rintro e w5 ⟨rfl, b5⟩
      have hz : Box w5 w.heap.size zeroNums ⟨#[]⟩ (.slice none 0 0) := HK3.out.1.kept b5
      have hbel : Below w.heap.size w w5 := andThen HK3.out.2.1 b5
      have HOW : Hid (Own (w.heap.size + 1) w5 (.slice ao1 q.l.length cap1) q.l) := HK3.out.2.2.1.kept b5
      have hbx : Box w5 w3.heap.size (q.x.ofV v) (bstr q.nm) (.slice ao1 q.l.length cap1) := HK3.out.2.2.2.kept b5
      clear HK3 HCH b5
      by_cases hc : chk (q.x.ofV v) (bstr q.nm) q.l = 0
      · have HF : Hid ((0, q.ofV v) = A) := by show _ = _; rw [HA3.out, if_neg (by simpa using hc)]
        rw [hc]
        clear HA3 hc
        have hrng : w5.rangeAt w3.heap.size 0 [.int .i64 v, .int .i64 q.x.k, .int .i64 q.x.s, .int .i64 q.x.p, .int .i64 q.x.t, .int .i64 q.x.a, .int .i64 q.x.l, .int .i64 q.x.c, .int .i64 q.x.n, .int .i64 q.x.i, .string (bstr q.nm), .slice ao1 q.l.length cap1] := World.rangeAt_of_block hbx 0 12
        have HTH : Hid (w5.there w.heap.size 0 12) := hz.there
        have HOW2 : Hid (∀ vs, Own w.heap.size (w5.setCells w.heap.size 0 vs) (.slice ao1 q.l.length cap1) q.l ∧ Below w.heap.size w (w5.setCells w.heap.size 0 vs)) := fun vs => ⟨Own.mono (Own.cells HOW.out w.heap.size 0 vs (by omega)) (by omega), below_cells (Nat.le_refl _) vs 0 _ hbel⟩
        clear hbx HOW hz
        obtain ⟨D, hD⟩ : ∃ D : List Value, [.int .i64 v, .int .i64 q.x.k, .int .i64 q.x.s, .int .i64 q.x.p, .int .i64 q.x.t, .int .i64 q.x.a, .int .i64 q.x.l, .int .i64 q.x.c, .int .i64 q.x.n, .int .i64 q.x.i, .string (bstr q.nm), .slice ao1 q.l.length cap1] = D := ⟨_, rfl⟩
        have HD : Hid ([.int .i64 v, .int .i64 q.x.k, .int .i64 q.x.s, .int .i64 q.x.p, .int .i64 q.x.t, .int .i64 q.x.a, .int .i64 q.x.l, .int .i64 q.x.c, .int .i64 q.x.n, .int .i64 q.x.i, .string (bstr q.nm), .slice ao1 q.l.length cap1] = D) := hD
        have HDL : Hid (D.length = 12) := by show _ = _; rw [← hD]; rfl
        have HDO : Hid (D.toArray.all (·.oneCell') = true) := by show _ = _; rw [← hD]; simp [Value.oneCell']
        have HDI : Hid ((Tryd.prog.info? 24).map (·.size) = some D.length) := by show _ = _; rw [HDL.out]; exact HIR.out
        have hst : (storeCells ⟨w.heap.size, 0, none⟩ D).run Tryd.prog w5 = .ok () (w5.setCells w.heap.size 0 D) := run_storeCells_cells (P := Tryd.prog) w.heap.size 0 D 0 w5 (fun j hj => by rw [HDL.out] at hj; simpa using (HTH.out j hj).1) (fun j hj => by rw [HDL.out] at hj; simpa using (HTH.out j hj).2) (fun v hv => (Array.all_eq_true_iff_forall_mem.1 HDO.out) v (by simpa using hv))
        rw [hD] at hrng
        clear hD
        go_wp2_with (first
          | (refine wpList_load_mid rfl 24 _ rfl w3.heap.size 0 rfl D _ hrng Tryd.underlying24 rfl HDI.out ?_))
        have HRG := World.rangeAt_setCells_same w5 w.heap.size 0 D (by rw [HDL.out]; exact HTH.out)
        refine bodyPost_ret (results_cell_slot (p := 4) (s := 5) (ty := 24) rfl _ _ w.heap.size D _ rfl HRG Tryd.underlying24 rfl HDI.out) rfl ?_
        have hF := HF.out
        subst hF
        have hD := HD.out
        subst hD
        exact ⟨ao1, cap1, rfl, (HOW2.out _).1, (HOW2.out _).2⟩
      · have HF : Hid ((chk (q.x.ofV v) (bstr q.nm) q.l, zeroPts) = A) := by show _ = _; rw [HA3.out, if_pos hc]
        have d2 : (chk (q.x.ofV v) (bstr q.nm) q.l != 0) = true := by rw [bne_iff_ne]; exact hc
        clear HA3 hc HOW hbx
        generalize chk (q.x.ofV v) (bstr q.nm) q.l = ce at *
        obtain ⟨z0, z1, z2, z3, z4, z5, z6, z7, z8, z9, z10, z11⟩ := hz.cells
        have f0 := hz.free' 0
        have f1 := hz.free' 1
        have f2 := hz.free' 2
        have f3 := hz.free' 3
        have f4 := hz.free' 4
        have f5 := hz.free' 5
        have f6 := hz.free' 6
        have f7 := hz.free' 7
        have f8 := hz.free' 8
        have f9 := hz.free' 9
        have f10 := hz.free' 10
        have f11 := hz.free' 11
        have HTH : Hid (w5.there w.heap.size 0 12) := hz.there
        have HBF : Hid (Below w.heap.size w (w5.setCells w.heap.size 0 [.int .i64 0, .int .i64 0, .int .i64 0, .int .i64 0, .int .i64 0, .int .i64 0, .int .i64 0, .int .i64 0, .int .i64 0, .int .i64 0, .string ⟨#[]⟩, .slice none 0 0])) := below_cells (Nat.le_refl _) _ 0 _ hbel
        go_wp2
        have HRG := World.rangeAt_setCells_same w5 w.heap.size 0 [.int .i64 0, .int .i64 0, .int .i64 0, .int .i64 0, .int .i64 0, .int .i64 0, .int .i64 0, .int .i64 0, .int .i64 0, .int .i64 0, .string ⟨#[]⟩, .slice none 0 0] HTH.out
        refine bodyPost_ret (results_cell_slot (p := 4) (s := 5) (ty := 24) rfl _ _ w.heap.size [.int .i64 0, .int .i64 0, .int .i64 0, .int .i64 0, .int .i64 0, .int .i64 0, .int .i64 0, .int .i64 0, .int .i64 0, .int .i64 0, .string ⟨#[]⟩, .slice none 0 0] _ rfl HRG Tryd.underlying24 rfl HIR.out) rfl ?_
        have hF := HF.out
        subst hF
        exact ⟨none, 0, rfl, Own.nil _ _, HBF.out⟩
    · have HF : Hid (((er : Int), zeroPts) = A) := by show _ = _; rw [HA2.out, if_pos he]
      have d2 : ((er : Int) != 0) = true := by rw [bne_iff_ne]; omega
      clear HA2 he
      have hz := HW2.out.1
      have hbel := HW2.out.2.1
      clear HW2
      obtain ⟨z0, z1, z2, z3, z4, z5, z6, z7, z8, z9, z10, z11⟩ := hz.cells
      have f0 := hz.free' 0
      have f1 := hz.free' 1
      have f2 := hz.free' 2
      have f3 := hz.free' 3
      have f4 := hz.free' 4
      have f5 := hz.free' 5
      have f6 := hz.free' 6
      have f7 := hz.free' 7
      have f8 := hz.free' 8
      have f9 := hz.free' 9
      have f10 := hz.free' 10
      have f11 := hz.free' 11
      have HTH : Hid ((w1.alloc (.cells #[.int .i64 0, .int .i64 q.x.k, .int .i64 q.x.s, .int .i64 q.x.p, .int .i64 q.x.t, .int .i64 q.x.a, .int .i64 q.x.l, .int .i64 q.x.c, .int .i64 q.x.n, .int .i64 q.x.i, .string (bstr q.nm), .slice ao1 q.l.length cap1] 47)).there w.heap.size 0 12) := hz.there
      have HBF : Hid (Below w.heap.size w ((w1.alloc (.cells #[.int .i64 0, .int .i64 q.x.k, .int .i64 q.x.s, .int .i64 q.x.p, .int .i64 q.x.t, .int .i64 q.x.a, .int .i64 q.x.l, .int .i64 q.x.c, .int .i64 q.x.n, .int .i64 q.x.i, .string (bstr q.nm), .slice ao1 q.l.length cap1] 47)).setCells w.heap.size 0 [.int .i64 0, .int .i64 0, .int .i64 0, .int .i64 0, .int .i64 0, .int .i64 0, .int .i64 0, .int .i64 0, .int .i64 0, .int .i64 0, .string ⟨#[]⟩, .slice none 0 0])) := below_cells (Nat.le_refl _) _ 0 _ hbel
      go_wp2
      have HRG := World.rangeAt_setCells_same (w1.alloc (.cells #[.int .i64 0, .int .i64 q.x.k, .int .i64 q.x.s, .int .i64 q.x.p, .int .i64 q.x.t, .int .i64 q.x.a, .int .i64 q.x.l, .int .i64 q.x.c, .int .i64 q.x.n, .int .i64 q.x.i, .string (bstr q.nm), .slice ao1 q.l.length cap1] 47)) w.heap.size 0 [.int .i64 0, .int .i64 0, .int .i64 0, .int .i64 0, .int .i64 0, .int .i64 0, .int .i64 0, .int .i64 0, .int .i64 0, .int .i64 0, .string ⟨#[]⟩, .slice none 0 0] HTH.out
      refine bodyPost_ret (results_cell_slot (p := 4) (s := 5) (ty := 24) rfl _ _ w.heap.size [.int .i64 0, .int .i64 0, .int .i64 0, .int .i64 0, .int .i64 0, .int .i64 0, .int .i64 0, .int .i64 0, .int .i64 0, .int .i64 0, .string ⟨#[]⟩, .slice none 0 0] _ rfl HRG Tryd.underlying24 rfl HIR.out) rfl ?_
      have hF := HF.out
      subst hF
      exact ⟨none, 0, rfl, Own.nil _ _, HBF.out⟩
  · have HV : Hid ((decide (1 ≤ v) && decide (v ≤ 3)) = false) := by
      show _ = _
      rw [Bool.and_eq_false_iff]
      by_cases h1 : 1 ≤ v
      · right; rw [decide_eq_false]; omega
      · left; rw [decide_eq_false]; omega
    have HF : Hid ((3, zeroPts) = A) := by show _ = _; rw [← HA.out, dcd, if_pos hv]
    clear HA HRP HFT
    unfold rv
    go_enter Tryd.func7, Tryd.ntmps7
    go_wp2_with fail
    refine (isV_any v _).mono ?_
    rw [HV.out]
    rintro e w0 ⟨rfl, rfl⟩
    go_wp2
    go_returns
    have hF := HF.out
    subst hF
    exact ⟨none, 0, rfl, Own.nil _ _, by go_grown⟩
end Go.Proofs.YtioghecmnggehaaDoor
