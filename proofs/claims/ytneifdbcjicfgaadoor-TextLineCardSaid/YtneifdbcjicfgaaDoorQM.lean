import Derived.Test.YtneifdbcjicfgaaDoorQH
import Derived.Test.YtneifdbcjicfgaaDoorQI
import Derived.Test.YtneifdbcjicfgaaDoorQL7
import Derived.Test.YtneifdbcjicfgaaDoorQK
/-
  The reference: word.
-/
namespace Go.Proofs.YtneifdbcjicfgaaDoor
open Go Go.RowKit
open Tx

/-- what the reference's word answers -/
def Tx.rans (r : (Wd × Nat) ⊕ (Int × Int)) : Value :=
  match r with
  | .inl (d, e) => .tuple #[wdv d, .int .i64 (e : Int), .int .i64 0, .int .i64 0]
  | .inr (e, p) => .tuple #[wdv zeroW, .int .i64 0, .int .i64 e, .int .i64 p]
def Bx (w wr : World) : Prop := Wx wr w.heap.size zeroW ∧ Wx wr (w.heap.size + 1) zeroW ∧ Below w.heap.size w wr
theorem bx_kept {w w1 w2 : World} (h : Wx w1 w.heap.size zeroW ∧ Wx w1 (w.heap.size + 1) zeroW ∧ Below w.heap.size w w1) (b : Below w1.heap.size w1 w2) : Wx w2 w.heap.size zeroW ∧ Wx w2 (w.heap.size + 1) zeroW ∧ Below w.heap.size w w2 :=
  ⟨h.1.block (b.block _ (wx_lt h.1)), h.2.1.block (b.block _ (wx_lt h.2.1)), andThen h.2.2 b⟩
theorem bx_new (w : World) (t : TypeId) : Wx ((w.alloc (.cells #[.int .i64 0, .int .i64 0, .string ⟨#[]⟩, .int .i64 0] t)).alloc (.cells #[.int .i64 0, .int .i64 0, .string ⟨#[]⟩, .int .i64 0] t)) w.heap.size zeroW ∧ Wx ((w.alloc (.cells #[.int .i64 0, .int .i64 0, .string ⟨#[]⟩, .int .i64 0] t)).alloc (.cells #[.int .i64 0, .int .i64 0, .string ⟨#[]⟩, .int .i64 0] t)) (w.heap.size + 1) zeroW ∧ Below w.heap.size w ((w.alloc (.cells #[.int .i64 0, .int .i64 0, .string ⟨#[]⟩, .int .i64 0] t)).alloc (.cells #[.int .i64 0, .int .i64 0, .string ⟨#[]⟩, .int .i64 0] t)) := by
  refine ⟨(wx_new w zeroW t).block ((up0 _ _).block _ (by rw [heapW]; omega)), ?_, up (up0 _ _) _⟩
  have h9 := wx_new (w.alloc (.cells #[.int .i64 0, .int .i64 0, .string ⟨#[]⟩, .int .i64 0] t)) zeroW t
  rw [heapW] at h9
  exact h9
theorem below_of_drewN {w w' : World} (h : ∃ n, w' = w.drewN n) : Below w.heap.size w w' := by
  obtain ⟨n, rfl⟩ := h
  exact below_drewN (Below.refl _ _) n
theorem ascii_not_letter : ∀ c : Nat, c < 65 → among lets (c : Int) = false := by decide +kernel
theorem sgn_not_letter : ∀ c : Nat, c < 128 → sgn c = true → among lets (c : Int) = false ∧ dig (c : Int) = false ∧ c ≠ 45 ∧ c ≠ 34 := by decide +kernel
set_option maxRecDepth 100000 in
set_option maxHeartbeats 4000000 in
theorem rword_lit (s : ByteArray) (i : Nat) (w : World) (hi : i < s.size) (hs : s.size ≤ 200000) (hH : TabP 3 .i64 hids w) (h34 : at' s i = 34) :
    Calls Tryd.prog 32 #[.string s, .int .i64 (i : Int)] w fun e w' => e = .returned (rans (wordP s i)) ∧ Below w.heap.size w w' := by
  have hdec := dec_asc s i (by omega)
  rw [h34] at hdec
  have HE : Hid (wordP s i = if (unq s (i : Int)).2.2 ≠ 0 then .inr ((unq s (i : Int)).2.2, (i : Int)) else .inl (⟨3, (i : Int), (unq s (i : Int)).1, 0⟩, (unq s (i : Int)).2.1.toNat)) := by
    show _ = _
    unfold wordP
    rw [hdec]
    rw [if_neg (by rw [ascii_not_letter 34 (by omega)]; decide), if_neg (by decide), if_pos rfl]
  have HU : Hid (∀ w', Below w.heap.size w w' → Calls Tryd.prog 49 #[.string s, .int .i64 (i : Int)] w' fun e w'' => e = .returned (.tuple #[.string (unq s (i : Int)).1, .int .i64 (unq s (i : Int)).2.1, .int .i64 (unq s (i : Int)).2.2]) ∧ Below w'.heap.size w' w'') := fun w' hb => runq_any s (i : Int) w' hs (hH.kept hb)
  have HP : Hid ((unq s (i : Int)).2.2 = 0 → ((unq s (i : Int)).2.1.toNat : Int) = (unq s (i : Int)).2.1) := fun h0 => by
    obtain ⟨k, e, _, e2, _⟩ := unq_yes s (i : Int) h0
    omega
  have hg : (s[i]'hi).toNat = 34 := by rw [← at_get s i hi]; exact h34
  have HX0 : Hid _ := bx_new w 24
  rw [HE.out]
  clear HE hH hdec h34
  generalize unq s (i : Int) = U at *
  obtain ⟨ut, ue, uc⟩ := U
  simp only at HU HP ⊢
  by_cases hne : uc = 0
  · subst hne
    rw [if_neg (by simp)]
    go_enter Tryd.func32, Tryd.ntmps32
    go_wp2_with fail
    refine (HU.out _ HX0.out.2.2).mono ?_
    rintro e w2 ⟨rfl, b2⟩
    have HX : Hid (Wx w2 w.heap.size zeroW ∧ Wx w2 (w.heap.size + 1) zeroW ∧ Below w.heap.size w w2) := bx_kept HX0.out b2
    clear b2 HU HX0
    obtain ⟨q0, q1, q2, q3⟩ := HX.out.1.cells
    obtain ⟨r0, r1, r2, r3⟩ := HX.out.2.1.cells
    simp only [zeroW] at q0 q1 q2 q3 r0 r1 r2 r3
    have z0 := HX.out.1.frozen 0
    have z1 := HX.out.1.frozen 1
    have z2 := HX.out.1.frozen 2
    have z3 := HX.out.1.frozen 3
    have HEN : Hid (Wx (store4 w2 w.heap.size ⟨3, (i : Int), ut, 0⟩) w.heap.size ⟨3, (i : Int), ut, 0⟩ ∧ Below w.heap.size w (store4 w2 w.heap.size ⟨3, (i : Int), ut, 0⟩)) := ⟨HX.out.1.store _, store4_below HX.out.2.2 (Nat.le_refl _) _⟩
    clear HX
    go_wp2
    obtain ⟨WE, hWE⟩ : ∃ WE, WE = store4 w2 w.heap.size ⟨3, (i : Int), ut, 0⟩ := ⟨_, rfl⟩
    rw [← hWE] at HEN
    have hWE2 : WE = ((((w2.setCell ⟨w.heap.size, 0, none⟩ (.int .i64 3)).setCell ⟨w.heap.size, 1, none⟩ (.int .i64 (i : Int))).setCell ⟨w.heap.size, 2, none⟩ (.string ut)).setCell ⟨w.heap.size, 3, none⟩ (.int .i64 0)) := hWE
    rw [← hWE2]
    clear hWE hWE2 q0 q1 q2 q3 z0 z1 z2 z3 r0 r1 r2 r3
    obtain ⟨y0, y1, y2, y3⟩ := HEN.out.1.cells
    simp only at y0 y1 y2 y3
    (try simp only [Exit.inBlock, Exit.then])
    refine bodyPost_ret (by simp [results, Tryd.results32, go_sem, y0, y1, y2, y3]; try rfl) rfl ?_
    exact ⟨by show _ = Ending.returned (.tuple #[_, .int .i64 (ue.toNat : Int), _, _]); rw [HP.out (by first | rfl | simp)]; rfl, HEN.out.2⟩
  · have hne' : (uc != 0) = true := by simp [hne]
    rw [if_pos hne]
    go_enter Tryd.func32, Tryd.ntmps32
    go_wp2_with fail
    refine (HU.out _ HX0.out.2.2).mono ?_
    rintro e w2 ⟨rfl, b2⟩
    have HX : Hid (Wx w2 w.heap.size zeroW ∧ Wx w2 (w.heap.size + 1) zeroW ∧ Below w.heap.size w w2) := bx_kept HX0.out b2
    clear b2 HU HX0
    obtain ⟨q0, q1, q2, q3⟩ := HX.out.1.cells
    obtain ⟨r0, r1, r2, r3⟩ := HX.out.2.1.cells
    simp only [zeroW] at q0 q1 q2 q3 r0 r1 r2 r3
    have z0 := HX.out.1.frozen 0
    have z1 := HX.out.1.frozen 1
    have z2 := HX.out.1.frozen 2
    have z3 := HX.out.1.frozen 3
    have HEN : Hid (Wx (store4 w2 w.heap.size ⟨0, 0, ⟨#[]⟩, 0⟩) w.heap.size ⟨0, 0, ⟨#[]⟩, 0⟩ ∧ Below w.heap.size w (store4 w2 w.heap.size ⟨0, 0, ⟨#[]⟩, 0⟩)) := ⟨HX.out.1.store _, store4_below HX.out.2.2 (Nat.le_refl _) _⟩
    clear HX
    go_wp2
    obtain ⟨WE, hWE⟩ : ∃ WE, WE = store4 w2 w.heap.size ⟨0, 0, ⟨#[]⟩, 0⟩ := ⟨_, rfl⟩
    rw [← hWE] at HEN
    have hWE2 : WE = ((((w2.setCell ⟨w.heap.size, 0, none⟩ (.int .i64 0)).setCell ⟨w.heap.size, 1, none⟩ (.int .i64 0)).setCell ⟨w.heap.size, 2, none⟩ (.string ⟨#[]⟩)).setCell ⟨w.heap.size, 3, none⟩ (.int .i64 0)) := hWE
    rw [← hWE2]
    clear hWE hWE2 q0 q1 q2 q3 z0 z1 z2 z3 r0 r1 r2 r3
    obtain ⟨y0, y1, y2, y3⟩ := HEN.out.1.cells
    simp only at y0 y1 y2 y3
    (try simp only [Exit.inBlock, Exit.then])
    refine bodyPost_ret (by simp [results, Tryd.results32, go_sem, y0, y1, y2, y3]; try rfl) rfl ?_
    exact ⟨rfl, HEN.out.2⟩
set_option maxRecDepth 100000 in
set_option maxHeartbeats 4000000 in
theorem rword_sgn (s : ByteArray) (i : Nat) (w : World) (hi : i < s.size) (hs : s.size ≤ 200000) (hsg : sgn (at' s i) = true) :
    Calls Tryd.prog 32 #[.string s, .int .i64 (i : Int)] w fun e w' => e = .returned (rans (wordP s i)) ∧ Below w.heap.size w w' := by
  have hlt := (sgn_lt hsg).1
  have hdec := dec_asc s i hlt
  have hno := sgn_not_letter (at' s i) hlt hsg
  have HE : Hid (wordP s i = .inl (⟨4, (i : Int), s.extract i (i + 1), 0⟩, i + 1)) := by
    show _ = _
    unfold wordP
    rw [hdec]
    simp only
    rw [if_neg (by rw [hno.1]; decide), if_neg (by rw [hno.2.1]; intro h; rcases h with h | h; cases h; exact hno.2.2.1 h), if_neg hno.2.2.2, if_pos hsg]
  have HS : Hid (∀ w', Calls Tryd.prog 33 #[.int .u8 (at' s i : Int)] w' fun e w'' => e = .returned (.bool true) ∧ w'' = w') := fun w' => by
    have h9 := rsign_any (at' s i) w'
    rw [hsg] at h9
    exact h9
  have hg : (s[i]'hi).toNat = at' s i := (at_get s i hi).symm
  have hb34 : ((at' s i : Int) == 34) = false := by have := hno.2.2.2; simp; omega
  have HX0 : Hid _ := bx_new w 24
  rw [HE.out]
  clear HE hdec hno hsg hlt
  generalize at' s i = c at *
  go_enter Tryd.func32, Tryd.ntmps32
  go_wp2_with fail
  refine (HS.out _).mono ?_
  rintro e w2 ⟨rfl, rfl⟩
  clear HS
  have HX : Hid _ := HX0.out
  clear HX0
  generalize (w.alloc (.cells #[.int .i64 0, .int .i64 0, .string ⟨#[]⟩, .int .i64 0] 24)).alloc (.cells #[.int .i64 0, .int .i64 0, .string ⟨#[]⟩, .int .i64 0] 24) = w2 at *
  obtain ⟨q0, q1, q2, q3⟩ := HX.out.1.cells
  obtain ⟨r0, r1, r2, r3⟩ := HX.out.2.1.cells
  simp only [zeroW] at q0 q1 q2 q3 r0 r1 r2 r3
  have z0 := HX.out.1.frozen 0
  have z1 := HX.out.1.frozen 1
  have z2 := HX.out.1.frozen 2
  have z3 := HX.out.1.frozen 3
  have HEN : Hid (Wx (store4 w2 w.heap.size ⟨4, (i : Int), (s.extract i (i + 1)), 0⟩) w.heap.size ⟨4, (i : Int), (s.extract i (i + 1)), 0⟩ ∧ Below w.heap.size w (store4 w2 w.heap.size ⟨4, (i : Int), (s.extract i (i + 1)), 0⟩)) := ⟨HX.out.1.store _, store4_below HX.out.2.2 (Nat.le_refl _) _⟩
  clear HX
  go_wp2
  obtain ⟨WE, hWE⟩ : ∃ WE, WE = store4 w2 w.heap.size ⟨4, (i : Int), (s.extract i (i + 1)), 0⟩ := ⟨_, rfl⟩
  rw [← hWE] at HEN
  have hWE2 : WE = ((((w2.setCell ⟨w.heap.size, 0, none⟩ (.int .i64 4)).setCell ⟨w.heap.size, 1, none⟩ (.int .i64 (i : Int))).setCell ⟨w.heap.size, 2, none⟩ (.string (s.extract i (i + 1)))).setCell ⟨w.heap.size, 3, none⟩ (.int .i64 0)) := hWE
  rw [← hWE2]
  clear hWE hWE2 q0 q1 q2 q3 z0 z1 z2 z3 r0 r1 r2 r3
  obtain ⟨y0, y1, y2, y3⟩ := HEN.out.1.cells
  simp only at y0 y1 y2 y3
  (try simp only [Exit.inBlock, Exit.then])
  refine bodyPost_ret (by simp [results, Tryd.results32, go_sem, y0, y1, y2, y3]; try rfl) rfl ?_
  exact ⟨rfl, HEN.out.2⟩
end Go.Proofs.YtneifdbcjicfgaaDoor
