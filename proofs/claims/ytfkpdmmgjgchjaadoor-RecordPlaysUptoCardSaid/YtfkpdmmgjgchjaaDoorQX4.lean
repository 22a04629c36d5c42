import Derived.Test.YtfkpdmmgjgchjaaDoorQX3
import Derived.Test.YtfkpdmmgjgchjaaDoorQK2
/-
  The reference's record: Decode.
-/
namespace Go.Proofs.YtfkpdmmgjgchjaaDoor
open Go Go.RowKit
open Wb

theorem rpF_sane (b : List Nat) (hok : ok b) (h : (rpF b 12 0 0 zeroPts).1 = 0) : (rpF b 12 0 0 zeroPts).2.sane := by
  have hs : zeroPts.sane := by
    refine ⟨?_, ?_, ?_⟩
    · intro t h1 h9
      obtain rfl | rfl | rfl | rfl | rfl | rfl | rfl | rfl | rfl : t = 1 ∨ t = 2 ∨ t = 3 ∨ t = 4 ∨ t = 5 ∨ t = 6 ∨ t = 7 ∨ t = 8 ∨ t = 9 := by omega
      all_goals decide
    · unfold ok; decide
    · unfold ok; decide
  have hr : rpF b 12 0 0 zeroPts = (0, (rpF b 12 0 0 zeroPts).2) := Prod.ext h rfl
  exact (rpF_inv b hok 12 0 0 zeroPts (rpF b 12 0 0 zeroPts).2 (by omega) (by omega) (by omega) hs rfl rfl hr).1
set_option maxRecDepth 100000 in
set_option maxHeartbeats 4000000 in
theorem refdecode_any (v : Int) (bv : Value) (b : List Nat) (w : World) (h : Bs w bv b) (hlen : b.length ≤ 140737488355328) (hT : Tabs w) (A : Int × Pts) (hA : dcd v b = A) :
    Calls Tryd.prog 21 #[.int .i64 v, bv] w fun e w' => ∃ ao, ∃ cap : Nat, e = .returned (.tuple #[rv A.2.x (bstr A.2.nm) (.slice ao A.2.l.length cap), .int .i64 A.1]) ∧ Bs w' (.slice ao A.2.l.length cap) A.2.l ∧ Below w.heap.size w w' := by
  have HIR : Hid ((Tryd.prog.info? 24).map (·.size) = some 12) := infoRec
  have HX : Hid (∀ o, (w.alloc o).heap[w.heap.size]? = some o ∧ Below w.heap.size w (w.alloc o)) := fun o => ⟨Array.getElem?_push_size, up0 w o⟩
  have HA : Hid (dcd v b = A) := hA
  by_cases hv : 1 ≤ v ∧ v ≤ 3
  · have hfa := rff_all b h.good
    have HA2 : Hid (A = if (rpF b 12 0 0 zeroPts).1 ≠ 0 then (((rpF b 12 0 0 zeroPts).1 : Int), zeroPts) else if chk ((rpF b 12 0 0 zeroPts).2.x.ofV v) (bstr (rpF b 12 0 0 zeroPts).2.nm) (rpF b 12 0 0 zeroPts).2.l ≠ 0 then (chk ((rpF b 12 0 0 zeroPts).2.x.ofV v) (bstr (rpF b 12 0 0 zeroPts).2.nm) (rpF b 12 0 0 zeroPts).2.l, zeroPts) else (0, (rpF b 12 0 0 zeroPts).2.ofV v)) := by show _ = _; rw [← HA.out, dcd, if_neg (by simp [hv.1, hv.2])]
    have HFL : Hid (∀ w', Below w.heap.size w w' → Calls Tryd.prog 42 #[.int .i64 v, bv] w' fun e w'' => ∃ ao, ∃ cap : Nat, e = .returned (.tuple #[rv ((rff b 11 0 zeroPts).2.x.ofV v) (bstr (rff b 11 0 zeroPts).2.nm) (.slice ao (rff b 11 0 zeroPts).2.l.length cap), .int .i64 ((rff b 11 0 zeroPts).1 : Int)]) ∧ Bs w'' (.slice ao (rff b 11 0 zeroPts).2.l.length cap) (rff b 11 0 zeroPts).2.l ∧ (∀ g, g < w'.heap.size → OffB g (.slice ao (rff b 11 0 zeroPts).2.l.length cap) (rff b 11 0 zeroPts).2.l) ∧ Below w'.heap.size w' w'') := fun w' hb => reffields_any v bv b w' (h.kept hb) hlen _ rfl
    have hv1 : ¬ v < 1 := by omega
    have hv3 : ¬ 3 < v := by omega
    by_cases he : (rpF b 12 0 0 zeroPts).1 = 0
    · rw [hfa.2 he, hfa.1, he] at HFL
      have HA3 : Hid (A = if chk ((rpF b 12 0 0 zeroPts).2.x.ofV v) (bstr (rpF b 12 0 0 zeroPts).2.nm) (rpF b 12 0 0 zeroPts).2.l ≠ 0 then (chk ((rpF b 12 0 0 zeroPts).2.x.ofV v) (bstr (rpF b 12 0 0 zeroPts).2.nm) (rpF b 12 0 0 zeroPts).2.l, zeroPts) else (0, (rpF b 12 0 0 zeroPts).2.ofV v)) := by show _ = _; rw [HA2.out, if_neg (by simpa using he)]
      have hsane := (rpF_sane b h.good he).1 7 (by omega) (by omega)
      have hfits := rpF_fits b 12 0 0 zeroPts ⟨by decide, by decide⟩
      generalize (rpF b 12 0 0 zeroPts).2 = q at *
      have HRC : Hid (∀ ao (cap : Nat) w', Below w.heap.size w w' → Bs w' (.slice ao q.l.length cap) q.l → Calls Tryd.prog 13 #[rv (q.x.ofV v) (bstr q.nm) (.slice ao q.l.length cap)] w' fun e w'' => e = .returned (.int .i64 (chk (q.x.ofV v) (bstr q.nm) q.l)) ∧ Below w'.heap.size w' w'') := fun ao cap w' hb hbs => refcheck_any (q.x.ofV v) (bstr q.nm) _ q.l w' hbs (hT.kept hb).rlets (hT.kept hb).rows hsane (by rw [bstr_size]; have := hfits.1; omega)
      obtain ⟨ab, cb, rfl, _⟩ := h.shape
      clear h hT hA HA HA2 hfa he hsane hfits
      unfold rv at *
      go_enter Tryd.func21, Tryd.ntmps21
      go_wp2_with fail
      refine (HFL.out _ (HX.out _).2).mono ?_
      rintro e w1 ⟨a1, cp1, rfl, hb1, ho1, b1⟩
      have hz1 : Box w1 w.heap.size zeroNums ⟨#[]⟩ (.slice none 0 0) := Box.kept (HX.out _).1 b1
      have HK : Hid (Box (w1.alloc (.cells #[.int .i64 (q.x.ofV v).v, .int .i64 (q.x.ofV v).k, .int .i64 (q.x.ofV v).s, .int .i64 (q.x.ofV v).p, .int .i64 (q.x.ofV v).t, .int .i64 (q.x.ofV v).a, .int .i64 (q.x.ofV v).l, .int .i64 (q.x.ofV v).c, .int .i64 (q.x.ofV v).n, .int .i64 (q.x.ofV v).i, .string (bstr q.nm), .slice a1 q.l.length cp1] 24)) w.heap.size zeroNums ⟨#[]⟩ (.slice none 0 0) ∧ Box (w1.alloc (.cells #[.int .i64 (q.x.ofV v).v, .int .i64 (q.x.ofV v).k, .int .i64 (q.x.ofV v).s, .int .i64 (q.x.ofV v).p, .int .i64 (q.x.ofV v).t, .int .i64 (q.x.ofV v).a, .int .i64 (q.x.ofV v).l, .int .i64 (q.x.ofV v).c, .int .i64 (q.x.ofV v).n, .int .i64 (q.x.ofV v).i, .string (bstr q.nm), .slice a1 q.l.length cp1] 24)) w1.heap.size (q.x.ofV v) (bstr q.nm) (.slice a1 q.l.length cp1) ∧ Bs (w1.alloc (.cells #[.int .i64 (q.x.ofV v).v, .int .i64 (q.x.ofV v).k, .int .i64 (q.x.ofV v).s, .int .i64 (q.x.ofV v).p, .int .i64 (q.x.ofV v).t, .int .i64 (q.x.ofV v).a, .int .i64 (q.x.ofV v).l, .int .i64 (q.x.ofV v).c, .int .i64 (q.x.ofV v).n, .int .i64 (q.x.ofV v).i, .string (bstr q.nm), .slice a1 q.l.length cp1] 24)) (.slice a1 q.l.length cp1) q.l ∧ Below w.heap.size w (w1.alloc (.cells #[.int .i64 (q.x.ofV v).v, .int .i64 (q.x.ofV v).k, .int .i64 (q.x.ofV v).s, .int .i64 (q.x.ofV v).p, .int .i64 (q.x.ofV v).t, .int .i64 (q.x.ofV v).a, .int .i64 (q.x.ofV v).l, .int .i64 (q.x.ofV v).c, .int .i64 (q.x.ofV v).n, .int .i64 (q.x.ofV v).i, .string (bstr q.nm), .slice a1 q.l.length cp1] 24))) := ⟨hz1.kept (up0 _ _), Array.getElem?_push_size, hb1.alloc _, up (andThen (HX.out _).2 b1) _⟩
      have hlt1 : w.heap.size < w1.heap.size := hz1.lt
      have HOF : Hid (OffB w.heap.size (.slice a1 q.l.length cp1) q.l) := ho1 _ (by rw [heap_one]; omega)
      clear hz1 hb1 b1 ho1 HX HFL
      obtain ⟨c0, c1, c2, c3, c4, c5, c6, c7, c8, c9, c10, c11⟩ := HK.out.2.1.cells
      go_wp2_with fail
      refine (HRC.out _ _ _ HK.out.2.2.2 HK.out.2.2.1).mono ?_
      rintro e w3 ⟨rfl, b3⟩
      have hz3 := HK.out.1.kept b3
      have hx3 := HK.out.2.1.kept b3
      have hb3 := HK.out.2.2.1.kept b3
      have B3 := andThen HK.out.2.2.2 b3
      clear c0 c1 c2 c3 c4 c5 c6 c7 c8 c9 c10 c11 HK b3 HRC
      by_cases hc : chk (q.x.ofV v) (bstr q.nm) q.l = 0
      · have hE : (0, q.ofV v) = A := by rw [HA3.out, if_neg (by simpa using hc)]
        rw [hc]
        clear HA3 hc
        generalize w1.heap.size = g1 at *
        obtain ⟨D, hD⟩ : ∃ D : List Value, ([.int .i64 (q.x.ofV v).v, .int .i64 (q.x.ofV v).k, .int .i64 (q.x.ofV v).s, .int .i64 (q.x.ofV v).p, .int .i64 (q.x.ofV v).t, .int .i64 (q.x.ofV v).a, .int .i64 (q.x.ofV v).l, .int .i64 (q.x.ofV v).c, .int .i64 (q.x.ofV v).n, .int .i64 (q.x.ofV v).i, .string (bstr q.nm), .slice a1 q.l.length cp1] : List Value) = D := ⟨_, rfl⟩
        have HDE : Hid (([.int .i64 (q.x.ofV v).v, .int .i64 (q.x.ofV v).k, .int .i64 (q.x.ofV v).s, .int .i64 (q.x.ofV v).p, .int .i64 (q.x.ofV v).t, .int .i64 (q.x.ofV v).a, .int .i64 (q.x.ofV v).l, .int .i64 (q.x.ofV v).c, .int .i64 (q.x.ofV v).n, .int .i64 (q.x.ofV v).i, .string (bstr q.nm), .slice a1 q.l.length cp1] : List Value) = D) := hD
        have HDL : Hid (D.length = 12) := by show _ = _; rw [← hD]; rfl
        have HDO : Hid (D.toArray.all (·.oneCell') = true) := by show _ = _; rw [← hD]; simp [Value.oneCell']
        have hrng : w3.rangeAt g1 0 D := by rw [← hD]; exact World.rangeAt_of_block hx3 0 12
        clear hD
        have HDI : Hid ((Tryd.prog.info? 24).map (·.size) = some D.length) := by show _ = _; rw [HDL.out]; exact HIR.out
        have HTH : Hid (w3.there w.heap.size 0 12) := hz3.there
        have hst : (storeCells ⟨w.heap.size, 0, none⟩ D).run Tryd.prog w3 = .ok () (w3.setCells w.heap.size 0 D) := run_storeCells_cells (P := Tryd.prog) w.heap.size 0 D 0 w3 (fun j hj => by rw [HDL.out] at hj; simpa using (HTH.out j hj).1) (fun j hj => by rw [HDL.out] at hj; simpa using (HTH.out j hj).2) (fun v hv => (Array.all_eq_true_iff_forall_mem.1 HDO.out) v (by simpa using hv))
        have HBF : Hid (Bs (w3.setCells w.heap.size 0 D) (.slice a1 q.l.length cp1) q.l ∧ Below w.heap.size w (w3.setCells w.heap.size 0 D)) := ⟨bs_offB hb3 _ _ _ HOF.out, below_cells (Nat.le_refl _) _ 0 _ B3⟩
        clear hx3 hz3 hb3 B3
        go_wp2_with (first
          | (refine wpList_load_mid rfl 24 _ rfl g1 0 rfl D _ hrng Tryd.underlying24 rfl HDI.out ?_))
        have HRG := World.rangeAt_setCells_same w3 w.heap.size 0 D (by rw [HDL.out]; exact HTH.out)
        refine bodyPost_ret (results_cell_slot (p := 4) (s := 5) (ty := 24) rfl _ _ w.heap.size D _ rfl HRG Tryd.underlying24 rfl HDI.out) rfl ?_
        subst hE
        exact ⟨a1, cp1, by rw [← HDE.out]; rfl, HBF.out.1, HBF.out.2⟩
      · have hE : (chk (q.x.ofV v) (bstr q.nm) q.l, zeroPts) = A := by rw [HA3.out, if_pos hc]
        have d2 : (chk (q.x.ofV v) (bstr q.nm) q.l != 0) = true := by rw [bne_iff_ne]; exact hc
        clear HA3 hc hx3 hb3
        generalize chk (q.x.ofV v) (bstr q.nm) q.l = ce at *
        obtain ⟨z0, z1, z2, z3, z4, z5, z6, z7, z8, z9, z10, z11⟩ := hz3.cells
        have f0 := hz3.free' 0
        have f1 := hz3.free' 1
        have f2 := hz3.free' 2
        have f3 := hz3.free' 3
        have f4 := hz3.free' 4
        have f5 := hz3.free' 5
        have f6 := hz3.free' 6
        have f7 := hz3.free' 7
        have f8 := hz3.free' 8
        have f9 := hz3.free' 9
        have f10 := hz3.free' 10
        have f11 := hz3.free' 11
        have HTH : Hid (w3.there w.heap.size 0 12) := hz3.there
        have HBF : Hid (Below w.heap.size w (w3.setCells w.heap.size 0 [.int .i64 0, .int .i64 0, .int .i64 0, .int .i64 0, .int .i64 0, .int .i64 0, .int .i64 0, .int .i64 0, .int .i64 0, .int .i64 0, .string ⟨#[]⟩, .slice none 0 0])) := below_cells (Nat.le_refl _) _ 0 _ B3
        clear hz3 B3
        go_wp2
        have HRG := World.rangeAt_setCells_same w3 w.heap.size 0 [.int .i64 0, .int .i64 0, .int .i64 0, .int .i64 0, .int .i64 0, .int .i64 0, .int .i64 0, .int .i64 0, .int .i64 0, .int .i64 0, .string ⟨#[]⟩, .slice none 0 0] HTH.out
        refine bodyPost_ret (results_cell_slot (p := 4) (s := 5) (ty := 24) rfl _ _ w.heap.size [.int .i64 0, .int .i64 0, .int .i64 0, .int .i64 0, .int .i64 0, .int .i64 0, .int .i64 0, .int .i64 0, .int .i64 0, .int .i64 0, .string ⟨#[]⟩, .slice none 0 0] _ rfl HRG Tryd.underlying24 rfl HIR.out) rfl ?_
        subst hE
        exact ⟨none, 0, rfl, Bs.nil _, HBF.out⟩
    · rw [hfa.1] at HFL
      have hE : (((rpF b 12 0 0 zeroPts).1 : Int), zeroPts) = A := by rw [HA2.out, if_pos he]
      have d2 : (((rpF b 12 0 0 zeroPts).1 : Int) != 0) = true := by rw [bne_iff_ne]; omega
      have d3 : (((rpF b 12 0 0 zeroPts).1 : Int) == 0) = false := by rw [beq_eq_false_iff_ne]; omega
      obtain ⟨ab, cb, rfl, _⟩ := h.shape
      clear h hT hA HA HA2 hfa he
      generalize (rpF b 12 0 0 zeroPts).1 = ez at *
      generalize (rff b 11 0 zeroPts).2 = q at *
      unfold rv at *
      go_enter Tryd.func21, Tryd.ntmps21
      go_wp2_with fail
      refine (HFL.out _ (HX.out _).2).mono ?_
      rintro e w1 ⟨a1, cp1, rfl, hb1, ho1, b1⟩
      have hz1 : Hid (∀ o, Box (w1.alloc o) w.heap.size zeroNums ⟨#[]⟩ (.slice none 0 0) ∧ Below w.heap.size w (w1.alloc o)) := fun o => ⟨Box.kept (Box.kept (HX.out _).1 b1) (up0 _ _), up (andThen (HX.out _).2 b1) _⟩
      have hz3 := (hz1.out (.cells #[.int .i64 (q.x.ofV v).v, .int .i64 (q.x.ofV v).k, .int .i64 (q.x.ofV v).s, .int .i64 (q.x.ofV v).p, .int .i64 (q.x.ofV v).t, .int .i64 (q.x.ofV v).a, .int .i64 (q.x.ofV v).l, .int .i64 (q.x.ofV v).c, .int .i64 (q.x.ofV v).n, .int .i64 (q.x.ofV v).i, .string (bstr q.nm), .slice a1 q.l.length cp1] 24)).1
      have B3 := (hz1.out (.cells #[.int .i64 (q.x.ofV v).v, .int .i64 (q.x.ofV v).k, .int .i64 (q.x.ofV v).s, .int .i64 (q.x.ofV v).p, .int .i64 (q.x.ofV v).t, .int .i64 (q.x.ofV v).a, .int .i64 (q.x.ofV v).l, .int .i64 (q.x.ofV v).c, .int .i64 (q.x.ofV v).n, .int .i64 (q.x.ofV v).i, .string (bstr q.nm), .slice a1 q.l.length cp1] 24)).2
      clear hb1 b1 ho1 HX HFL hz1
      obtain ⟨z0, z1, z2, z3, z4, z5, z6, z7, z8, z9, z10, z11⟩ := hz3.cells
      have f0 := hz3.free' 0
      have f1 := hz3.free' 1
      have f2 := hz3.free' 2
      have f3 := hz3.free' 3
      have f4 := hz3.free' 4
      have f5 := hz3.free' 5
      have f6 := hz3.free' 6
      have f7 := hz3.free' 7
      have f8 := hz3.free' 8
      have f9 := hz3.free' 9
      have f10 := hz3.free' 10
      have f11 := hz3.free' 11
      have HTH : Hid ((w1.alloc (.cells #[.int .i64 (q.x.ofV v).v, .int .i64 (q.x.ofV v).k, .int .i64 (q.x.ofV v).s, .int .i64 (q.x.ofV v).p, .int .i64 (q.x.ofV v).t, .int .i64 (q.x.ofV v).a, .int .i64 (q.x.ofV v).l, .int .i64 (q.x.ofV v).c, .int .i64 (q.x.ofV v).n, .int .i64 (q.x.ofV v).i, .string (bstr q.nm), .slice a1 q.l.length cp1] 24)).there w.heap.size 0 12) := hz3.there
      have HBF : Hid (Below w.heap.size w ((w1.alloc (.cells #[.int .i64 (q.x.ofV v).v, .int .i64 (q.x.ofV v).k, .int .i64 (q.x.ofV v).s, .int .i64 (q.x.ofV v).p, .int .i64 (q.x.ofV v).t, .int .i64 (q.x.ofV v).a, .int .i64 (q.x.ofV v).l, .int .i64 (q.x.ofV v).c, .int .i64 (q.x.ofV v).n, .int .i64 (q.x.ofV v).i, .string (bstr q.nm), .slice a1 q.l.length cp1] 24)).setCells w.heap.size 0 [.int .i64 0, .int .i64 0, .int .i64 0, .int .i64 0, .int .i64 0, .int .i64 0, .int .i64 0, .int .i64 0, .int .i64 0, .int .i64 0, .string ⟨#[]⟩, .slice none 0 0])) := below_cells (Nat.le_refl _) _ 0 _ B3
      clear hz3 B3
      go_wp2
      have HRG := World.rangeAt_setCells_same (w1.alloc (.cells #[.int .i64 (q.x.ofV v).v, .int .i64 (q.x.ofV v).k, .int .i64 (q.x.ofV v).s, .int .i64 (q.x.ofV v).p, .int .i64 (q.x.ofV v).t, .int .i64 (q.x.ofV v).a, .int .i64 (q.x.ofV v).l, .int .i64 (q.x.ofV v).c, .int .i64 (q.x.ofV v).n, .int .i64 (q.x.ofV v).i, .string (bstr q.nm), .slice a1 q.l.length cp1] 24)) w.heap.size 0 [.int .i64 0, .int .i64 0, .int .i64 0, .int .i64 0, .int .i64 0, .int .i64 0, .int .i64 0, .int .i64 0, .int .i64 0, .int .i64 0, .string ⟨#[]⟩, .slice none 0 0] HTH.out
      refine bodyPost_ret (results_cell_slot (p := 4) (s := 5) (ty := 24) rfl _ _ w.heap.size [.int .i64 0, .int .i64 0, .int .i64 0, .int .i64 0, .int .i64 0, .int .i64 0, .int .i64 0, .int .i64 0, .int .i64 0, .int .i64 0, .string ⟨#[]⟩, .slice none 0 0] _ rfl HRG Tryd.underlying24 rfl HIR.out) rfl ?_
      subst hE
      exact ⟨none, 0, rfl, Bs.nil _, HBF.out⟩
  · have hE : (3, zeroPts) = A := by rw [← hA, dcd, if_pos hv]
    obtain ⟨ab, cb, rfl, _⟩ := h.shape
    clear h hT hA HA
    subst hE
    unfold rv
    by_cases hv1 : v < 1
    · clear hv
      go_enter Tryd.func21, Tryd.ntmps21
      go_wp2
      go_returns
      exact ⟨none, 0, rfl, Bs.nil _, by go_grown⟩
    · have hv3 : 3 < v := by omega
      clear hv
      go_enter Tryd.func21, Tryd.ntmps21
      go_wp2
      go_returns
      exact ⟨none, 0, rfl, Bs.nil _, by go_grown⟩
end Go.Proofs.YtfkpdmmgjgchjaaDoor

/-
  RecordReads: the law's walk.
-/
namespace Go.Proofs.YtfkpdmmgjgchjaaDoor
open Go Go.RowKit
open Wb

/-- the longer list, and its two parts -/
theorem long_facts {B : Nat} {w : World} {v : Value} {b : List Nat} (ho : Own B w v (b ++ [91, 92, 93])) :
    ∃ g cap : Nat, v = .slice (some ⟨g, 0, none⟩) (b.length + 3) cap ∧ Bs w (.slice (some ⟨g, 0, none⟩) b.length cap) b ∧ Bs w (.slice (some ⟨g, b.length, none⟩) 3 (cap - b.length)) [91, 92, 93] ∧ b.length + 3 ≤ cap := by
  have hlen : (b ++ [91, 92, 93]).length = b.length + 3 := by simp
  rcases ho.shape with ⟨_, h0⟩ | ⟨g, cap', e, _, _, hcl, _, _⟩
  · rw [h0] at hlen
    simp at hlen
  · subst e
    have hb := ho.bs
    have h2 := hb.sub b.length (b ++ [91, 92, 93]).length (by omega) (Nat.le_refl _)
    rw [List.take_length, List.drop_left, hlen] at h2
    have e4 : b.length + 3 - b.length = 3 := by omega
    rw [e4] at h2
    refine ⟨g, cap', by rw [hlen], ?_, by simpa using h2, by omega⟩
    by_cases h : b.length = 0
    · have hdn := List.eq_nil_of_length_eq_zero h
      subst hdn
      exact ⟨⟨_, _, rfl, Nat.zero_le _, by obtain ⟨_, _, e9, _, hm, _⟩ := hb.shape; cases e9; exact hm, (fun e => nomatch e), fun hh => absurd rfl hh⟩, ok_nil⟩
    · have h1 := hb.sub 0 b.length (by omega) (by omega)
      rw [List.take_left, List.drop_zero] at h1
      simpa using h1
set_option maxRecDepth 100000 in
set_option maxHeartbeats 4000000 in
theorem rreads_any (v : Int) (bv : Value) (b : List Nat) (w : World) (h : Bs w bv b) (hlen : b.length ≤ 140737488355000) (hT : Tabs w) :
    Calls Tryd.prog 5 #[.int .i64 v, bv] w fun e w' => e = .returned (.bool true) ∧ Below w.heap.size w w' := by
  have hin := info5
  have HST : Hid (∀ w', Below w.heap.size w w' → Calls Tryd.prog 9 #[] w' fun e w'' => e = .returned (.bool true) ∧ Below w'.heap.size w' w'') := fun w' hb' => started_any w' (hT.kept hb').lets (hT.kept hb').tags
  have HPA : Hid (∀ w', Below w.heap.size w w' → Calls Tryd.prog 19 #[bv, .int .i64 0, .int .i64 (b.length : Int)] w' fun e w'' => ∃ ao, ∃ cap : Nat, e = .returned (.slice ao b.length cap) ∧ Own w'.heap.size w'' (.slice ao b.length cap) b ∧ Below w'.heap.size w' w'') := fun w' hb' => (rpart_any bv b 0 b.length w' (h.kept hb') (by omega) (Nat.zero_le _) (Nat.le_refl _)).mono fun e w'' ⟨v', he, ho, hk⟩ => by
    rw [List.drop_zero, List.take_length] at ho
    obtain ⟨ao, cap, rfl, _⟩ := ho.bs.shape
    exact ⟨ao, cap, he, ho, hk⟩
  obtain ⟨A, hA⟩ : ∃ A, dcd v b = A := ⟨_, rfl⟩
  have HDE : Hid (∀ w' bv', Below w.heap.size w w' → Bs w' bv' b → Calls Tryd.prog 20 #[.int .i64 v, bv'] w' fun e w'' => ∃ ao, ∃ cap : Nat, e = .returned (.tuple #[rv A.2.x (bstr A.2.nm) (.slice ao A.2.l.length cap), .int .i64 A.1]) ∧ Bs w'' (.slice ao A.2.l.length cap) A.2.l ∧ Below w'.heap.size w' w'') := fun w' bv' hb' hbs => (decode_any v bv' b w' hbs (by omega) (hT.kept hb').lets (hT.kept hb').tags A hA).mono fun e w'' ⟨ao, cap, he, ho, hk⟩ => ⟨ao, cap, he, ho.bs, hk⟩
  have HRD : Hid (∀ w', Below w.heap.size w w' → Calls Tryd.prog 21 #[.int .i64 v, bv] w' fun e w'' => ∃ ao, ∃ cap : Nat, e = .returned (.tuple #[rv A.2.x (bstr A.2.nm) (.slice ao A.2.l.length cap), .int .i64 A.1]) ∧ Bs w'' (.slice ao A.2.l.length cap) A.2.l ∧ Below w'.heap.size w' w'') := fun w' hb' => refdecode_any v bv b w' (h.kept hb') (by omega) (hT.kept hb') A hA
  have HSM : Hid (∀ (v1 v2 : Value) w', Bs w' v1 A.2.l → Bs w' v2 A.2.l → Calls Tryd.prog 14 #[rv A.2.x (bstr A.2.nm) v1, rv A.2.x (bstr A.2.nm) v2] w' fun e w'' => e = .returned (.bool true) ∧ Below w'.heap.size w' w'') := fun v1 v2 w' h1 h2 => (refsame_any A.2.x A.2.x (bstr A.2.nm) (bstr A.2.nm) v1 v2 A.2.l A.2.l w' h1 h2).mono fun e w'' ⟨he, hk⟩ => ⟨by rw [he, recEq_self], hk⟩
  have HB : Hid (∀ w', Below w.heap.size w w' → Bs w' bv b) := fun w' hb' => h.kept hb'
  obtain ⟨ab, cb, rfl, _⟩ := h.shape
  clear h hT hA
  obtain ⟨z, q⟩ := A
  simp only at HDE HRD HSM
  have dz : (z == z) = true := beq_self_eq_true _
  generalize q.x = X at *
  generalize bstr q.nm = nm at *
  generalize q.l = l at *
  unfold rv at *
  go_enter Tryd.func5, Tryd.ntmps5
  go_wp2_with fail
  refine (HST.out _ (Below.refl _ _)).mono ?_
  rintro e w1 ⟨rfl, b1⟩
  go_wp2_with fail
  refine (HPA.out _ b1).mono ?_
  rintro e w2 ⟨a2, cp2, rfl, ho2, b2⟩
  have B2 := andThen b1 b2
  have HO2 : Hid (∀ o, Own w1.heap.size (w2.alloc o) (.slice a2 b.length cp2) b ∧ Below w.heap.size w (w2.alloc o) ∧ w1.heap.size ≤ (w2.alloc o).heap.size) := fun o => ⟨ho2.alloc o, up B2 o, Nat.le_trans b2.size (up0 w2 o).size⟩
  have HLT : Hid (∀ g, g = w2.heap.size → Bs (w2.alloc (.cells #[.int .u8 91, .int .u8 92, .int .u8 93] 5)) (.slice (some ⟨g, 0, none⟩) 3 3) [91, 92, 93]) := fun g hg => by
    subst hg
    exact (Own.lit (B := 0) w2 [91, 92, 93] (by unfold ok; decide) (Nat.zero_le _) (by decide) #[.int .u8 91, .int .u8 92, .int .u8 93] rfl).bs
  have HWS : Hid (w.heap.size ≤ w1.heap.size) := b1.size
  clear ho2 b1 b2 B2 HST HPA
  go_wp2_with (at_builtin; refine wpList_append _ rfl (.tmp 18) (.tmp 19) 22 rfl w1.heap.size hin Tryd.underlying22 _ b rfl (HO2.out _).1 _ [91, 92, 93] rfl (HLT.out _ rfl) (by simp; omega) (HO2.out _).2.2 ?_)
  intro v3 w3 ho3 b3 _
  obtain ⟨g3, cp3, rfl, hpre, hsuf, hcc⟩ := long_facts ho3
  have hws : w.heap.size ≤ w1.heap.size := HWS.out
  have B3 : Below w.heap.size w w3 := (HO2.out _).2.1.trans (b3.mono hws)
  clear ho3 b3 HO2 HLT hws HWS
  have hcn : ¬ cp3 = b.length := by omega
  go_wp2_with fail
  refine (HDE.out _ _ B3 hpre).mono ?_
  rintro e w4 ⟨a4, cp4, rfl, hl4, b4⟩
  have HK4 : Hid (Box (w4.alloc (.cells #[.int .i64 X.v, .int .i64 X.k, .int .i64 X.s, .int .i64 X.p, .int .i64 X.t, .int .i64 X.a, .int .i64 X.l, .int .i64 X.c, .int .i64 X.n, .int .i64 X.i, .string nm, .slice a4 l.length cp4] 24)) w4.heap.size X nm (.slice a4 l.length cp4) ∧ Bs (w4.alloc (.cells #[.int .i64 X.v, .int .i64 X.k, .int .i64 X.s, .int .i64 X.p, .int .i64 X.t, .int .i64 X.a, .int .i64 X.l, .int .i64 X.c, .int .i64 X.n, .int .i64 X.i, .string nm, .slice a4 l.length cp4] 24)) (.slice a4 l.length cp4) l ∧ Below w.heap.size w (w4.alloc (.cells #[.int .i64 X.v, .int .i64 X.k, .int .i64 X.s, .int .i64 X.p, .int .i64 X.t, .int .i64 X.a, .int .i64 X.l, .int .i64 X.c, .int .i64 X.n, .int .i64 X.i, .string nm, .slice a4 l.length cp4] 24)) ∧ Bs (w4.alloc (.cells #[.int .i64 X.v, .int .i64 X.k, .int .i64 X.s, .int .i64 X.p, .int .i64 X.t, .int .i64 X.a, .int .i64 X.l, .int .i64 X.c, .int .i64 X.n, .int .i64 X.i, .string nm, .slice a4 l.length cp4] 24)) (.slice (some ⟨g3, 0, none⟩) b.length cp3) b ∧ Bs (w4.alloc (.cells #[.int .i64 X.v, .int .i64 X.k, .int .i64 X.s, .int .i64 X.p, .int .i64 X.t, .int .i64 X.a, .int .i64 X.l, .int .i64 X.c, .int .i64 X.n, .int .i64 X.i, .string nm, .slice a4 l.length cp4] 24)) (.slice (some ⟨g3, b.length, none⟩) 3 (cp3 - b.length)) [91, 92, 93]) := ⟨Array.getElem?_push_size, hl4.alloc _, up (andThen B3 b4) _, (hpre.kept b4).alloc _, (hsuf.kept b4).alloc _⟩
  clear hpre hsuf B3 hl4 b4 HDE
  go_wp2_with fail
  refine (HRD.out _ HK4.out.2.2.1).mono ?_
  rintro e w5 ⟨a5, cp5, rfl, hl5, b5⟩
  obtain ⟨hx4, hl4, B4, hpre, hsuf⟩ := HK4.out
  have HK5 : Hid (Box (w5.alloc (.cells #[.int .i64 X.v, .int .i64 X.k, .int .i64 X.s, .int .i64 X.p, .int .i64 X.t, .int .i64 X.a, .int .i64 X.l, .int .i64 X.c, .int .i64 X.n, .int .i64 X.i, .string nm, .slice a5 l.length cp5] 24)) w5.heap.size X nm (.slice a5 l.length cp5) ∧ Bs (w5.alloc (.cells #[.int .i64 X.v, .int .i64 X.k, .int .i64 X.s, .int .i64 X.p, .int .i64 X.t, .int .i64 X.a, .int .i64 X.l, .int .i64 X.c, .int .i64 X.n, .int .i64 X.i, .string nm, .slice a5 l.length cp5] 24)) (.slice a5 l.length cp5) l ∧ Box (w5.alloc (.cells #[.int .i64 X.v, .int .i64 X.k, .int .i64 X.s, .int .i64 X.p, .int .i64 X.t, .int .i64 X.a, .int .i64 X.l, .int .i64 X.c, .int .i64 X.n, .int .i64 X.i, .string nm, .slice a5 l.length cp5] 24)) w4.heap.size X nm (.slice a4 l.length cp4) ∧ Bs (w5.alloc (.cells #[.int .i64 X.v, .int .i64 X.k, .int .i64 X.s, .int .i64 X.p, .int .i64 X.t, .int .i64 X.a, .int .i64 X.l, .int .i64 X.c, .int .i64 X.n, .int .i64 X.i, .string nm, .slice a5 l.length cp5] 24)) (.slice a4 l.length cp4) l ∧ Below w.heap.size w (w5.alloc (.cells #[.int .i64 X.v, .int .i64 X.k, .int .i64 X.s, .int .i64 X.p, .int .i64 X.t, .int .i64 X.a, .int .i64 X.l, .int .i64 X.c, .int .i64 X.n, .int .i64 X.i, .string nm, .slice a5 l.length cp5] 24)) ∧ Bs (w5.alloc (.cells #[.int .i64 X.v, .int .i64 X.k, .int .i64 X.s, .int .i64 X.p, .int .i64 X.t, .int .i64 X.a, .int .i64 X.l, .int .i64 X.c, .int .i64 X.n, .int .i64 X.i, .string nm, .slice a5 l.length cp5] 24)) (.slice (some ⟨g3, 0, none⟩) b.length cp3) b ∧ Bs (w5.alloc (.cells #[.int .i64 X.v, .int .i64 X.k, .int .i64 X.s, .int .i64 X.p, .int .i64 X.t, .int .i64 X.a, .int .i64 X.l, .int .i64 X.c, .int .i64 X.n, .int .i64 X.i, .string nm, .slice a5 l.length cp5] 24)) (.slice (some ⟨g3, b.length, none⟩) 3 (cp3 - b.length)) [91, 92, 93]) := ⟨Array.getElem?_push_size, hl5.alloc _, (hx4.kept b5).kept (up0 _ _), (hl4.kept b5).alloc _, up (andThen B4 b5) _, (hpre.kept b5).alloc _, (hsuf.kept b5).alloc _⟩
  clear HK4 hx4 hl4 B4 hpre hsuf hl5 b5 HRD
  go_wp2_with fail
  refine (ralike_any _ _ b b _ HK5.out.2.2.2.2.2.1 (HB.out _ HK5.out.2.2.2.2.1)).mono ?_
  rintro e w6 ⟨rfl, b6⟩
  obtain ⟨hx5, hl5, hx4, hl4, B5, _, hsuf⟩ := HK5.out
  have ht : decide (b = b) = true := by simp
  rw [ht]
  have HK6 : Hid (∀ o, Box (w6.alloc o) w5.heap.size X nm (.slice a5 l.length cp5) ∧ Bs (w6.alloc o) (.slice a5 l.length cp5) l ∧ Box (w6.alloc o) w4.heap.size X nm (.slice a4 l.length cp4) ∧ Bs (w6.alloc o) (.slice a4 l.length cp4) l ∧ Below w.heap.size w (w6.alloc o) ∧ Bs (w6.alloc o) (.slice (some ⟨g3, b.length, none⟩) 3 (cp3 - b.length)) [91, 92, 93]) := fun o => ⟨(hx5.kept b6).kept (up0 _ _), (hl5.kept b6).alloc _, (hx4.kept b6).kept (up0 _ _), (hl4.kept b6).alloc _, up (andThen B5 b6) _, (hsuf.kept b6).alloc _⟩
  have HLT : Hid (∀ g, g = w6.heap.size → Bs (w6.alloc (.cells #[.int .u8 91, .int .u8 92, .int .u8 93] 5)) (.slice (some ⟨g, 0, none⟩) 3 3) [91, 92, 93]) := fun g hg => by
    subst hg
    exact (Own.lit (B := 0) w6 [91, 92, 93] (by unfold ok; decide) (Nat.zero_le _) (by decide) #[.int .u8 91, .int .u8 92, .int .u8 93] rfl).bs
  clear HK5 hx5 hl5 hx4 hl4 B5 hsuf b6 ht HB
  have e3 : b.length + 3 - b.length = 3 := by omega
  go_wp2_with fail
  refine (ralike_any _ _ [91, 92, 93] [91, 92, 93] _ (HK6.out _).2.2.2.2.2 (HLT.out _ rfl)).mono ?_
  rintro e w7 ⟨rfl, b7⟩
  obtain ⟨hx5, hl5, hx4, hl4, B6, _⟩ := HK6.out (.cells #[.int .u8 91, .int .u8 92, .int .u8 93] 5)
  have HK7 : Hid (Box w7 w5.heap.size X nm (.slice a5 l.length cp5) ∧ Bs w7 (.slice a5 l.length cp5) l ∧ Box w7 w4.heap.size X nm (.slice a4 l.length cp4) ∧ Bs w7 (.slice a4 l.length cp4) l ∧ Below w.heap.size w w7) := ⟨hx5.kept b7, hl5.kept b7, hx4.kept b7, hl4.kept b7, andThen B6 b7⟩
  have ht : decide (([91, 92, 93] : List Nat) = [91, 92, 93]) = true := rfl
  rw [ht]
  clear HK6 hx5 hl5 hx4 hl4 B6 b7 ht HLT e3
  go_wp2_with fail
  refine (errnum_any z _).mono ?_
  rintro e w8 ⟨rfl, rfl⟩
  generalize w5.heap.size = g5 at *
  generalize w4.heap.size = g4 at *
  obtain ⟨c0, c1, c2, c3, c4, c5, c6, c7, c8, c9, c10, c11⟩ := HK7.out.1.cells
  obtain ⟨d0, d1, d2, d3, d4, d5, d6, d7, d8, d9, d10, d11⟩ := HK7.out.2.2.1.cells
  go_wp2_with fail
  refine (HSM.out _ _ _ HK7.out.2.2.2.1 HK7.out.2.1).mono ?_
  rintro e w9 ⟨rfl, b9⟩
  have B9 := andThen HK7.out.2.2.2.2 b9
  clear c0 c1 c2 c3 c4 c5 c6 c7 c8 c9 c10 c11 d0 d1 d2 d3 d4 d5 d6 d7 d8 d9 d10 d11 HK7 HSM b9
  go_wp2
  go_ret
  exact ⟨rfl, B9⟩
end Go.Proofs.YtfkpdmmgjgchjaaDoor

/-
  RecordReads: the argument.
-/
namespace Go.Proofs.YtfkpdmmgjgchjaaDoor
open Go Go.RowKit Go.ChangeShapes Go.WideShapes Go.ChangeAt
open Wb

set_option maxRecDepth 100000 in
theorem open_bytesr {H : Type} {enc : TypeId × Value → H} {W : World} {base : Nat} {v : Value} {d : DataW H} {p : List MemPlace} (hv : Value.okWide Tryd.prog W .any base 22 v)
    (h : DataW.Trod enc Tryd.prog W 0 (fun _ => true) true 22 v d p) (hw : ∀ n ∈ d.weights Tryd.prog 22, n ≤ reachBytes) : ∃ l, Bs W v l ∧ l.length ≤ 140737488355000 := by
  obtain ⟨a0, len0, cap0, rfl⟩ := okWide_slice Tryd.underlying22 hv
  obtain ⟨fuel, hf⟩ := h
  exact open_bsf hf hw
end Go.Proofs.YtfkpdmmgjgchjaaDoor
