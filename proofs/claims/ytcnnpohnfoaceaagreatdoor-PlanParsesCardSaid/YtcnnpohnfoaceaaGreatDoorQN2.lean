import Derived.Test.YtcnnpohnfoaceaaGreatDoorQN1
import Derived.Test.YtcnnpohnfoaceaaGreatDoorQT6
import Derived.Test.YtcnnpohnfoaceaaGreatDoorQL2
import Derived.Test.YtcnnpohnfoaceaaGreatDoorQT7
/-
  The reference: word.
-/
namespace Go.Proofs.YtcnnpohnfoaceaaGreatDoor.Text
open Go Go.RowKit
open Tx

/-- what the reference's word answers -/
def Tx.rans (r : (Wd × Nat) ⊕ (Int × Int)) : Value :=
  match r with
  | .inl (d, e) => .tuple #[wdv d, .int .i64 (e : Int), .int .i64 0, .int .i64 0]
  | .inr (e, p) => .tuple #[wdv zeroW, .int .i64 0, .int .i64 e, .int .i64 p]
def Bx (w wr : World) : Prop := Wx wr w.heap.size zeroW ∧ Wx wr (w.heap.size + 1) zeroW ∧ Below w.heap.size w wr
theorem bx_kept {w w1 w2 : World} (h : Wx w1 w.heap.size zeroW ∧ Wx w1 (w.heap.size + 1) zeroW ∧ Below w.heap.size w w1) (b : Below w1.heap.size w1 w2) : Wx w2 w.heap.size zeroW ∧ Wx w2 (w.heap.size + 1) zeroW ∧ Below w.heap.size w w2 :=
  ⟨h.1.block (b.block _ (wx_lt h.1)), h.2.1.block (b.block _ (wx_lt h.2.1)), andThen h.2.2 b⟩
theorem bx_new (w : World) (t : TypeId) : Wx ((w.alloc (.cells #[.int .i64 0, .int .i64 0, .string ⟨#[]⟩, .int .i64 0] t)).alloc (.cells #[.int .i64 0, .int .i64 0, .string ⟨#[]⟩, .int .i64 0] t)) w.heap.size zeroW ∧ Wx ((w.alloc (.cells #[.int .i64 0, .int .i64 0, .string ⟨#[]⟩, .int .i64 0] t)).alloc (.cells #[.int .i64 0, .int .i64 0, .string ⟨#[]⟩, .int .i64 0] t)) (w.heap.size + 1) zeroW ∧ Below w.heap.size w ((w.alloc (.cells #[.int .i64 0, .int .i64 0, .string ⟨#[]⟩, .int .i64 0] t)).alloc (.cells #[.int .i64 0, .int .i64 0, .string ⟨#[]⟩, .int .i64 0] t)) := by
  refine ⟨(wx_new w zeroW t).block ((up0 _ _).block _ (by rw [heapW]; omega)), ?_, up (up0 _ _) _⟩
  have h9 := wx_new (w.alloc (.cells #[.int .i64 0, .int .i64 0, .string ⟨#[]⟩, .int .i64 0] t)) zeroW t
  rw [heapW] at h9
  exact h9
theorem below_of_drewN {w w' : World} (h : ∃ n, w' = w.drewN n) : Below w.heap.size w w' := by
  obtain ⟨n, rfl⟩ := h
  exact below_drewN (Below.refl _ _) n
theorem ascii_not_letter : ∀ c : Nat, c < 65 → among lets (c : Int) = false := by decide +kernel
theorem sgn_not_letter : ∀ c : Nat, c < 128 → sgn c = true → among lets (c : Int) = false ∧ dig (c : Int) = false ∧ c ≠ 45 ∧ c ≠ 34 := by decide +kernel
set_option maxRecDepth 100000 in
set_option maxHeartbeats 4000000 in
theorem rword_lit (s : ByteArray) (i : Nat) (w : World) (hi : i < s.size) (hs : s.size ≤ 200000) (hH : TabP 2 .i64 hids w) (h34 : at' s i = 34) :
    Calls Tryz.prog 40 #[.string s, .int .i64 (i : Int)] w fun e w' => e = .returned (rans (wordP s i)) ∧ Below w.heap.size w w' := by
  have hdec := dec_asc s i (by omega)
  rw [h34] at hdec
  have HE : Hid (wordP s i = if (unq s (i : Int)).2.2 ≠ 0 then .inr ((unq s (i : Int)).2.2, (i : Int)) else .inl (⟨3, (i : Int), (unq s (i : Int)).1, 0⟩, (unq s (i : Int)).2.1.toNat)) := by
    show _ = _
    unfold wordP
    rw [hdec]
    rw [if_neg (by rw [ascii_not_letter 34 (by omega)]; decide), if_neg (by decide), if_pos rfl]
  have HU : Hid (∀ w', Below w.heap.size w w' → Calls Tryz.prog 65 #[.string s, .int .i64 (i : Int)] w' fun e w'' => e = .returned (.tuple #[.string (unq s (i : Int)).1, .int .i64 (unq s (i : Int)).2.1, .int .i64 (unq s (i : Int)).2.2]) ∧ Below w'.heap.size w' w'') := fun w' hb => runq_any s (i : Int) w' hs (hH.kept hb)
  have HP : Hid ((unq s (i : Int)).2.2 = 0 → ((unq s (i : Int)).2.1.toNat : Int) = (unq s (i : Int)).2.1) := fun h0 => by
    obtain ⟨k, e, _, e2, _⟩ := unq_yes s (i : Int) h0
    omega
  have hg : (s[i]'hi).toNat = 34 := by rw [← at_get s i hi]; exact h34
  have HX0 : Hid _ := bx_new w 55
  rw [HE.out]
  clear HE hH hdec h34
  generalize unq s (i : Int) = U at *
  obtain ⟨ut, ue, uc⟩ := U
  simp only at HU HP ⊢
  by_cases hne : uc = 0
  · subst hne
    rw [if_neg (by simp)]
    go_enter Tryz.func40, Tryz.ntmps40
    go_wp2_with fail
    refine (HU.out _ HX0.out.2.2).mono ?_
    rintro e w2 ⟨rfl, b2⟩
    have HX : Hid (Wx w2 w.heap.size zeroW ∧ Wx w2 (w.heap.size + 1) zeroW ∧ Below w.heap.size w w2) := bx_kept HX0.out b2
    clear b2 HU HX0
    obtain ⟨q0, q1, q2, q3⟩ := HX.out.1.cells
    obtain ⟨r0, r1, r2, r3⟩ := HX.out.2.1.cells
    simp only [zeroW] at q0 q1 q2 q3 r0 r1 r2 r3
    have z0 := HX.out.1.frozen 0
    have z1 := HX.out.1.frozen 1
    have z2 := HX.out.1.frozen 2
    have z3 := HX.out.1.frozen 3
    have HEN : Hid (Wx (store4 w2 w.heap.size ⟨3, (i : Int), ut, 0⟩) w.heap.size ⟨3, (i : Int), ut, 0⟩ ∧ Below w.heap.size w (store4 w2 w.heap.size ⟨3, (i : Int), ut, 0⟩)) := ⟨HX.out.1.store _, store4_below HX.out.2.2 (Nat.le_refl _) _⟩
    clear HX
    go_wp2
    obtain ⟨WE, hWE⟩ : ∃ WE, WE = store4 w2 w.heap.size ⟨3, (i : Int), ut, 0⟩ := ⟨_, rfl⟩
    rw [← hWE] at HEN
    have hWE2 : WE = ((((w2.setCell ⟨w.heap.size, 0, none⟩ (.int .i64 3)).setCell ⟨w.heap.size, 1, none⟩ (.int .i64 (i : Int))).setCell ⟨w.heap.size, 2, none⟩ (.string ut)).setCell ⟨w.heap.size, 3, none⟩ (.int .i64 0)) := hWE
    rw [← hWE2]
    clear hWE hWE2 q0 q1 q2 q3 z0 z1 z2 z3 r0 r1 r2 r3
    obtain ⟨y0, y1, y2, y3⟩ := HEN.out.1.cells
    simp only at y0 y1 y2 y3
    (try simp only [Exit.inBlock, Exit.then])
    refine bodyPost_ret (by simp [results, Tryz.results40, go_sem, y0, y1, y2, y3]; try rfl) rfl ?_
    exact ⟨by show _ = Ending.returned (.tuple #[_, .int .i64 (ue.toNat : Int), _, _]); rw [HP.out (by first | rfl | simp)]; rfl, HEN.out.2⟩
  · have hne' : (uc != 0) = true := by simp [hne]
    rw [if_pos hne]
    go_enter Tryz.func40, Tryz.ntmps40
    go_wp2_with fail
    refine (HU.out _ HX0.out.2.2).mono ?_
    rintro e w2 ⟨rfl, b2⟩
    have HX : Hid (Wx w2 w.heap.size zeroW ∧ Wx w2 (w.heap.size + 1) zeroW ∧ Below w.heap.size w w2) := bx_kept HX0.out b2
    clear b2 HU HX0
    obtain ⟨q0, q1, q2, q3⟩ := HX.out.1.cells
    obtain ⟨r0, r1, r2, r3⟩ := HX.out.2.1.cells
    simp only [zeroW] at q0 q1 q2 q3 r0 r1 r2 r3
    have z0 := HX.out.1.frozen 0
    have z1 := HX.out.1.frozen 1
    have z2 := HX.out.1.frozen 2
    have z3 := HX.out.1.frozen 3
    have HEN : Hid (Wx (store4 w2 w.heap.size ⟨0, 0, ⟨#[]⟩, 0⟩) w.heap.size ⟨0, 0, ⟨#[]⟩, 0⟩ ∧ Below w.heap.size w (store4 w2 w.heap.size ⟨0, 0, ⟨#[]⟩, 0⟩)) := ⟨HX.out.1.store _, store4_below HX.out.2.2 (Nat.le_refl _) _⟩
    clear HX
    go_wp2
    obtain ⟨WE, hWE⟩ : ∃ WE, WE = store4 w2 w.heap.size ⟨0, 0, ⟨#[]⟩, 0⟩ := ⟨_, rfl⟩
    rw [← hWE] at HEN
    have hWE2 : WE = ((((w2.setCell ⟨w.heap.size, 0, none⟩ (.int .i64 0)).setCell ⟨w.heap.size, 1, none⟩ (.int .i64 0)).setCell ⟨w.heap.size, 2, none⟩ (.string ⟨#[]⟩)).setCell ⟨w.heap.size, 3, none⟩ (.int .i64 0)) := hWE
    rw [← hWE2]
    clear hWE hWE2 q0 q1 q2 q3 z0 z1 z2 z3 r0 r1 r2 r3
    obtain ⟨y0, y1, y2, y3⟩ := HEN.out.1.cells
    simp only at y0 y1 y2 y3
    (try simp only [Exit.inBlock, Exit.then])
    refine bodyPost_ret (by simp [results, Tryz.results40, go_sem, y0, y1, y2, y3]; try rfl) rfl ?_
    exact ⟨rfl, HEN.out.2⟩
set_option maxRecDepth 100000 in
set_option maxHeartbeats 4000000 in
theorem rword_sgn (s : ByteArray) (i : Nat) (w : World) (hi : i < s.size) (hs : s.size ≤ 200000) (hsg : sgn (at' s i) = true) :
    Calls Tryz.prog 40 #[.string s, .int .i64 (i : Int)] w fun e w' => e = .returned (rans (wordP s i)) ∧ Below w.heap.size w w' := by
  have hlt := (sgn_lt hsg).1
  have hdec := dec_asc s i hlt
  have hno := sgn_not_letter (at' s i) hlt hsg
  have HE : Hid (wordP s i = .inl (⟨4, (i : Int), s.extract i (i + 1), 0⟩, i + 1)) := by
    show _ = _
    unfold wordP
    rw [hdec]
    simp only
    rw [if_neg (by rw [hno.1]; decide), if_neg (by rw [hno.2.1]; intro h; rcases h with h | h; cases h; exact hno.2.2.1 h), if_neg hno.2.2.2, if_pos hsg]
  have HS : Hid (∀ w', Calls Tryz.prog 41 #[.int .u8 (at' s i : Int)] w' fun e w'' => e = .returned (.bool true) ∧ w'' = w') := fun w' => by
    have h9 := rsign_any (at' s i) w'
    rw [hsg] at h9
    exact h9
  have hg : (s[i]'hi).toNat = at' s i := (at_get s i hi).symm
  have hb34 : ((at' s i : Int) == 34) = false := by have := hno.2.2.2; simp; omega
  have HX0 : Hid _ := bx_new w 55
  rw [HE.out]
  clear HE hdec hno hsg hlt
  generalize at' s i = c at *
  go_enter Tryz.func40, Tryz.ntmps40
  go_wp2_with fail
  refine (HS.out _).mono ?_
  rintro e w2 ⟨rfl, rfl⟩
  clear HS
  have HX : Hid _ := HX0.out
  clear HX0
  generalize (w.alloc (.cells #[.int .i64 0, .int .i64 0, .string ⟨#[]⟩, .int .i64 0] 55)).alloc (.cells #[.int .i64 0, .int .i64 0, .string ⟨#[]⟩, .int .i64 0] 55) = w2 at *
  obtain ⟨q0, q1, q2, q3⟩ := HX.out.1.cells
  obtain ⟨r0, r1, r2, r3⟩ := HX.out.2.1.cells
  simp only [zeroW] at q0 q1 q2 q3 r0 r1 r2 r3
  have z0 := HX.out.1.frozen 0
  have z1 := HX.out.1.frozen 1
  have z2 := HX.out.1.frozen 2
  have z3 := HX.out.1.frozen 3
  have HEN : Hid (Wx (store4 w2 w.heap.size ⟨4, (i : Int), (s.extract i (i + 1)), 0⟩) w.heap.size ⟨4, (i : Int), (s.extract i (i + 1)), 0⟩ ∧ Below w.heap.size w (store4 w2 w.heap.size ⟨4, (i : Int), (s.extract i (i + 1)), 0⟩)) := ⟨HX.out.1.store _, store4_below HX.out.2.2 (Nat.le_refl _) _⟩
  clear HX
  go_wp2
  obtain ⟨WE, hWE⟩ : ∃ WE, WE = store4 w2 w.heap.size ⟨4, (i : Int), (s.extract i (i + 1)), 0⟩ := ⟨_, rfl⟩
  rw [← hWE] at HEN
  have hWE2 : WE = ((((w2.setCell ⟨w.heap.size, 0, none⟩ (.int .i64 4)).setCell ⟨w.heap.size, 1, none⟩ (.int .i64 (i : Int))).setCell ⟨w.heap.size, 2, none⟩ (.string (s.extract i (i + 1)))).setCell ⟨w.heap.size, 3, none⟩ (.int .i64 0)) := hWE
  rw [← hWE2]
  clear hWE hWE2 q0 q1 q2 q3 z0 z1 z2 z3 r0 r1 r2 r3
  obtain ⟨y0, y1, y2, y3⟩ := HEN.out.1.cells
  simp only at y0 y1 y2 y3
  (try simp only [Exit.inBlock, Exit.then])
  refine bodyPost_ret (by simp [results, Tryz.results40, go_sem, y0, y1, y2, y3]; try rfl) rfl ?_
  exact ⟨rfl, HEN.out.2⟩
end Go.Proofs.YtcnnpohnfoaceaaGreatDoor.Text

/-
  The reference: word, at a number.
-/
namespace Go.Proofs.YtcnnpohnfoaceaaGreatDoor.Text
open Go Go.RowKit
open Tx

theorem isD_yes {s : ByteArray} {k : Nat} (h : isD s k = true) : k < s.size ∧ dig (at' s k : Int) = true := by
  unfold isD at h
  simp only [Bool.and_eq_true, decide_eq_true_eq] at h
  exact h
theorem isD_no {s : ByteArray} {k : Nat} (hk : k ≤ s.size) (h : isD s k = false) : dEnd s k = k := by
  by_cases hlt : k < s.size
  · unfold isD at h
    rw [decide_eq_true hlt, Bool.true_and] at h
    exact dEnd_no s k hlt h
  · rw [dEnd_out s k hlt]
    omega
theorem cut_get (s : ByteArray) (i E k : Nat) (hE : E ≤ s.size) (hk : i + k < E) : ∃ c, (s.extract i E).data.toList[k]? = some c ∧ c.toNat = at' s (i + k) := by
  have hz : (s.extract i E).size = E - i := size_cut s i E hE
  refine ⟨_, list_at _ k (by omega), ?_⟩
  rw [← at_get _ k (by omega), at_cut s i E k hE (by omega)]
theorem cut_len (s : ByteArray) (i E : Nat) (hE : E ≤ s.size) : (s.extract i E).data.toList.length = E - i := by
  rw [Array.length_toList]
  exact size_cut s i E hE
theorem cut_digs (s : ByteArray) (i E : Nat) (hE : E ≤ s.size) (hd : ∀ q, i ≤ q → q < E → dig (at' s q : Int) = true) : AllD (s.extract i E).data.toList := fun c hc => by
  obtain ⟨k, hk, he⟩ := List.getElem_of_mem hc
  have hl := cut_len s i E hE
  obtain ⟨c', h1, h2⟩ := cut_get s i E k hE (by omega)
  rw [List.getElem?_eq_getElem hk, he] at h1
  rw [Option.some.inj h1, h2]
  exact dig_lt (hd (i + k) (by omega) (by omega))
theorem rnum_cut (s : ByteArray) (i E : Nat) (w : World) (hE : E ≤ s.size) (hs : s.size ≤ 200000) (hiE : i < E) (hd : ∀ q, i ≤ q → q < E → dig (at' s q : Int) = true) :
    Calls Tryz.prog 67 #[.string (s.extract i E)] w fun e w' => e = .returned (.tuple #[.int .i64 (numR (s.extract i E).data.toList).1, .bool (numR (s.extract i E).data.toList).2]) ∧ w' = w := by
  have hl := cut_len s i E hE
  have ha := cut_digs s i E hE hd
  have hz : (s.extract i E).size = E - i := size_cut s i E hE
  cases hq : (s.extract i E).data.toList with
  | nil => rw [hq] at hl; simp at hl; omega
  | cons c r =>
    rw [hq] at ha
    exact rnum_plain _ w c r hq ha (by omega)
theorem rnum_cut2 (s : ByteArray) (i E : Nat) (w : World) (hE : E ≤ s.size) (hs : s.size ≤ 200000) (hiE : i + 1 < E) (h45 : at' s i = 45) (hd : ∀ q, i + 1 ≤ q → q < E → dig (at' s q : Int) = true) :
    Calls Tryz.prog 67 #[.string (s.extract i E)] w fun e w' => e = .returned (.tuple #[.int .i64 (numR (s.extract i E).data.toList).1, .bool (numR (s.extract i E).data.toList).2]) ∧ w' = w := by
  have hl := cut_len s i E hE
  have hz : (s.extract i E).size = E - i := size_cut s i E hE
  obtain ⟨c0, h1, h2⟩ := cut_get s i E 0 hE (by omega)
  rw [Nat.add_zero, h45] at h2
  have hc0 : c0 = 45 := u8_eq h2
  subst hc0
  cases hq : (s.extract i E).data.toList with
  | nil => rw [hq] at hl; simp at hl; omega
  | cons c r =>
    rw [hq] at h1 hl
    simp at h1
    subst h1
    have ha : AllD r := fun c hc => by
      obtain ⟨k, hk, he⟩ := List.getElem_of_mem hc
      obtain ⟨c', h1, h2⟩ := cut_get s i E (k + 1) hE (by rw [List.length_cons] at hl; omega)
      rw [hq, List.getElem?_cons_succ, List.getElem?_eq_getElem hk, he] at h1
      rw [Option.some.inj h1, h2]
      exact dig_lt (hd (i + (k + 1)) (by omega) (by rw [List.length_cons] at hl; omega))
    cases r with
    | nil => simp at hl; omega
    | cons c1 r1 => exact rnum_minus _ w c1 r1 hq ha (by omega)
theorem dig_not_letter : ∀ c : Nat, c < 58 → dig (c : Int) = true → among lets (c : Int) = false ∧ c ≠ 45 ∧ c ≠ 34 ∧ sgn c = false := by decide +kernel
set_option maxRecDepth 100000 in
set_option maxHeartbeats 4000000 in
theorem rword_dig (s : ByteArray) (i : Nat) (w : World) (hi : i < s.size) (hs : s.size ≤ 200000) (h0 : isD s i = true) :
    Calls Tryz.prog 40 #[.string s, .int .i64 (i : Int)] w fun e w' => e = .returned (rans (wordP s i)) ∧ Below w.heap.size w w' := by
  have hd1 := isD_yes h0
  have hc := dig_lt hd1.2
  have hno := dig_not_letter (at' s i) (by omega) hd1.2
  have hdec := dec_asc s i (by omega)
  have hdi := dEnd_in s i hd1.1 hd1.2
  have hdd := dEnd_digs s s.size i (by omega) (by omega)
  have hgt : i < dEnd s i := by
    rw [hdi]
    have := (dEnd_digs s s.size (i + 1) (by omega) (by omega)).1
    omega
  have hnf : nFrom s i = i := by
    unfold nFrom
    rw [hdec, if_neg hno.2.1]
  have HE : Hid (wordP s i = match numP (s.extract i (dEnd s (i + 1))).data.toList with | none => .inr (29, (i : Int)) | some v => .inl (⟨2, (i : Int), s.extract i (dEnd s (i + 1)), v⟩, dEnd s (i + 1))) := by
    show _ = _
    unfold wordP
    rw [hdec, hnf, ← hdi]
    simp only
    rw [if_neg (by rw [hno.1]; decide), if_pos (.inl hd1.2), if_neg (by omega)]
    rfl
  have HNU : Hid (∀ w', Calls Tryz.prog 67 #[.string (s.extract i (dEnd s (i + 1)))] w' fun e w'' => e = .returned (.tuple #[.int .i64 (numR (s.extract i (dEnd s (i + 1))).data.toList).1, .bool (numR (s.extract i (dEnd s (i + 1))).data.toList).2]) ∧ w'' = w') := fun w' => by
    rw [← hdi]
    exact rnum_cut s i _ w' hdd.2.1 hs hgt hdd.2.2.1
  have HI0 : Hid (∀ w', Calls Tryz.prog 66 #[.string s, .int .i64 (i : Int)] w' fun e w'' => e = .returned (.bool true) ∧ w'' = w') := fun w' => by
    have h9 := isdig_any s i w'
    rw [h0] at h9
    exact h9
  have HSG : Hid (∀ w', Calls Tryz.prog 41 #[.int .u8 (at' s i : Int)] w' fun e w'' => e = .returned (.bool false) ∧ w'' = w') := fun w' => by
    have h9 := rsign_any (at' s i) w'
    rw [hno.2.2.2] at h9
    exact h9
  have hg : (s[i]'hi).toNat = at' s i := (at_get s i hi).symm
  have hb34 : ((at' s i : Int) == 34) = false := by have := hno.2.2.1; simp; omega
  have hEs : dEnd s (i + 1) ≤ s.size := by rw [← hdi]; exact hdd.2.1
  have hEg : i < dEnd s (i + 1) := by rw [← hdi]; exact hgt
  have HX0 : Hid _ := bx_new w 55
  rw [HE.out]
  clear HE hdec hd1 hdd hgt hnf hno hdi hc h0
  generalize at' s i = c at *
  obtain ⟨E, hE⟩ : ∃ E, dEnd s (i + 1) = E := ⟨_, rfl⟩
  rw [hE] at HNU hEs hEg ⊢
  have HEE : Hid (dEnd s (i + 1) = E) := hE
  clear hE
  unfold numR at HNU
  cases hnp : numP (s.extract i E).data.toList with
  | none =>
    rw [hnp] at HNU
    simp only at HNU ⊢
    clear hnp
    go_enter Tryz.func40, Tryz.ntmps40
    go_wp2_with fail
    refine (HSG.out _).mono ?_
    rintro e w1 ⟨rfl, rfl⟩
    generalize (w.alloc (.cells #[.int .i64 0, .int .i64 0, .string ⟨#[]⟩, .int .i64 0] 55)).alloc (.cells #[.int .i64 0, .int .i64 0, .string ⟨#[]⟩, .int .i64 0] 55) = w2 at *
    go_wp2_with fail
    refine (HI0.out _).mono ?_
    rintro e w1 ⟨rfl, rfl⟩
    go_wp2
    go_loopw [13] (fun vk wr => ∃ k : Nat, vk = .int .i64 (k : Int) ∧ i + 1 ≤ k ∧ k ≤ s.size ∧ dEnd s k = E ∧ wr = w1) (fun vk _ => s.size - (intOf vk).toNat)
    case atStart => exact ⟨i + 1, by go_num, Nat.le_refl _, by omega, HEE.out, rfl⟩
    case round =>
      obtain ⟨k, rfl, hik, hks, hkE, rfl⟩ := hrel
      have HKE : Hid (dEnd s k = E) := hkE
      have HID : Hid (∀ w', Calls Tryz.prog 66 #[.string s, .int .i64 (k : Int)] w' fun e w'' => e = .returned (.bool (isD s k)) ∧ w'' = w') := fun w' => isdig_any s k w'
      clear hkE HEE
      cases hdg : isD s k with
      | true =>
        rw [hdg] at HID
        have hlt := (isD_yes hdg).1
        have HK2 : Hid (dEnd s (k + 1) = E) := by
          show _ = _
          rw [← dEnd_in s k hlt (isD_yes hdg).2]
          exact HKE.out
        clear HKE hdg
        go_wp2_with fail
        refine (HID.out _).mono ?_
        rintro e w3 ⟨rfl, rfl⟩
        go_wp2
        go_roundw
        case rel => exact ⟨k + 1, by go_num, by omega, by omega, HK2.out, by first | rfl | trivial⟩
        case measure => simp [intOf]; omega
      | false =>
        rw [hdg] at HID
        obtain rfl : k = E := by
          rw [← HKE.out]
          exact (isD_no hks hdg).symm
        clear HKE hdg
        go_wp2_with fail
        refine (HID.out _).mono ?_
        rintro e w3 ⟨rfl, rfl⟩
        clear HID
        have HX : Hid (Wx w3 w.heap.size zeroW ∧ Wx w3 (w.heap.size + 1) zeroW ∧ Below w.heap.size w w3) := HX0.out
        clear HX0
        go_wp2_with fail
        refine (HNU.out _).mono ?_
        rintro e w4 ⟨rfl, rfl⟩
        clear HNU
        obtain ⟨q0, q1, q2, q3⟩ := HX.out.1.cells
        obtain ⟨r0, r1, r2, r3⟩ := HX.out.2.1.cells
        simp only [zeroW] at q0 q1 q2 q3 r0 r1 r2 r3
        have z0 := HX.out.1.frozen 0
        have z1 := HX.out.1.frozen 1
        have z2 := HX.out.1.frozen 2
        have z3 := HX.out.1.frozen 3
        have HEN : Hid (Wx (store4 w4 w.heap.size ⟨0, 0, ⟨#[]⟩, 0⟩) w.heap.size ⟨0, 0, ⟨#[]⟩, 0⟩ ∧ Below w.heap.size w (store4 w4 w.heap.size ⟨0, 0, ⟨#[]⟩, 0⟩)) := ⟨HX.out.1.store _, store4_below HX.out.2.2 (Nat.le_refl _) _⟩
        clear HX
        go_wp2
        obtain ⟨WE, hWE⟩ : ∃ WE, WE = store4 w4 w.heap.size ⟨0, 0, ⟨#[]⟩, 0⟩ := ⟨_, rfl⟩
        rw [← hWE] at HEN
        have hWE2 : WE = ((((w4.setCell ⟨w.heap.size, 0, none⟩ (.int .i64 0)).setCell ⟨w.heap.size, 1, none⟩ (.int .i64 0)).setCell ⟨w.heap.size, 2, none⟩ (.string ⟨#[]⟩)).setCell ⟨w.heap.size, 3, none⟩ (.int .i64 0)) := hWE
        rw [← hWE2]
        clear hWE hWE2 q0 q1 q2 q3 z0 z1 z2 z3 r0 r1 r2 r3
        obtain ⟨y0, y1, y2, y3⟩ := HEN.out.1.cells
        simp only at y0 y1 y2 y3
        (try simp only [Exit.inBlock, Exit.then])
        refine bodyPost_ret (by simp [results, Tryz.results40, go_sem, y0, y1, y2, y3]; try rfl) rfl ?_
        exact ⟨rfl, HEN.out.2⟩
  | some v =>
    rw [hnp] at HNU
    simp only at HNU ⊢
    clear hnp
    go_enter Tryz.func40, Tryz.ntmps40
    go_wp2_with fail
    refine (HSG.out _).mono ?_
    rintro e w1 ⟨rfl, rfl⟩
    generalize (w.alloc (.cells #[.int .i64 0, .int .i64 0, .string ⟨#[]⟩, .int .i64 0] 55)).alloc (.cells #[.int .i64 0, .int .i64 0, .string ⟨#[]⟩, .int .i64 0] 55) = w2 at *
    go_wp2_with fail
    refine (HI0.out _).mono ?_
    rintro e w1 ⟨rfl, rfl⟩
    go_wp2
    go_loopw [13] (fun vk wr => ∃ k : Nat, vk = .int .i64 (k : Int) ∧ i + 1 ≤ k ∧ k ≤ s.size ∧ dEnd s k = E ∧ wr = w1) (fun vk _ => s.size - (intOf vk).toNat)
    case atStart => exact ⟨i + 1, by go_num, Nat.le_refl _, by omega, HEE.out, rfl⟩
    case round =>
      obtain ⟨k, rfl, hik, hks, hkE, rfl⟩ := hrel
      have HKE : Hid (dEnd s k = E) := hkE
      have HID : Hid (∀ w', Calls Tryz.prog 66 #[.string s, .int .i64 (k : Int)] w' fun e w'' => e = .returned (.bool (isD s k)) ∧ w'' = w') := fun w' => isdig_any s k w'
      clear hkE HEE
      cases hdg : isD s k with
      | true =>
        rw [hdg] at HID
        have hlt := (isD_yes hdg).1
        have HK2 : Hid (dEnd s (k + 1) = E) := by
          show _ = _
          rw [← dEnd_in s k hlt (isD_yes hdg).2]
          exact HKE.out
        clear HKE hdg
        go_wp2_with fail
        refine (HID.out _).mono ?_
        rintro e w3 ⟨rfl, rfl⟩
        go_wp2
        go_roundw
        case rel => exact ⟨k + 1, by go_num, by omega, by omega, HK2.out, by first | rfl | trivial⟩
        case measure => simp [intOf]; omega
      | false =>
        rw [hdg] at HID
        obtain rfl : k = E := by
          rw [← HKE.out]
          exact (isD_no hks hdg).symm
        clear HKE hdg
        go_wp2_with fail
        refine (HID.out _).mono ?_
        rintro e w3 ⟨rfl, rfl⟩
        clear HID
        have HX : Hid (Wx w3 w.heap.size zeroW ∧ Wx w3 (w.heap.size + 1) zeroW ∧ Below w.heap.size w w3) := HX0.out
        clear HX0
        go_wp2_with fail
        refine (HNU.out _).mono ?_
        rintro e w4 ⟨rfl, rfl⟩
        clear HNU
        obtain ⟨q0, q1, q2, q3⟩ := HX.out.1.cells
        obtain ⟨r0, r1, r2, r3⟩ := HX.out.2.1.cells
        simp only [zeroW] at q0 q1 q2 q3 r0 r1 r2 r3
        have z0 := HX.out.1.frozen 0
        have z1 := HX.out.1.frozen 1
        have z2 := HX.out.1.frozen 2
        have z3 := HX.out.1.frozen 3
        have HEN : Hid (Wx (store4 w4 w.heap.size ⟨2, (i : Int), (s.extract i k), v⟩) w.heap.size ⟨2, (i : Int), (s.extract i k), v⟩ ∧ Below w.heap.size w (store4 w4 w.heap.size ⟨2, (i : Int), (s.extract i k), v⟩)) := ⟨HX.out.1.store _, store4_below HX.out.2.2 (Nat.le_refl _) _⟩
        clear HX
        go_wp2
        obtain ⟨WE, hWE⟩ : ∃ WE, WE = store4 w4 w.heap.size ⟨2, (i : Int), (s.extract i k), v⟩ := ⟨_, rfl⟩
        rw [← hWE] at HEN
        have hWE2 : WE = ((((w4.setCell ⟨w.heap.size, 0, none⟩ (.int .i64 2)).setCell ⟨w.heap.size, 1, none⟩ (.int .i64 (i : Int))).setCell ⟨w.heap.size, 2, none⟩ (.string (s.extract i k))).setCell ⟨w.heap.size, 3, none⟩ (.int .i64 v)) := hWE
        rw [← hWE2]
        clear hWE hWE2 q0 q1 q2 q3 z0 z1 z2 z3 r0 r1 r2 r3
        obtain ⟨y0, y1, y2, y3⟩ := HEN.out.1.cells
        simp only at y0 y1 y2 y3
        (try simp only [Exit.inBlock, Exit.then])
        refine bodyPost_ret (by simp [results, Tryz.results40, go_sem, y0, y1, y2, y3]; try rfl) rfl ?_
        exact ⟨rfl, HEN.out.2⟩
set_option maxRecDepth 100000 in
set_option maxHeartbeats 4000000 in
theorem rword_min (s : ByteArray) (i : Nat) (w : World) (hi : i < s.size) (hs : s.size ≤ 200000) (h45 : at' s i = 45) (h1 : isD s (i + 1) = true) :
    Calls Tryz.prog 40 #[.string s, .int .i64 (i : Int)] w fun e w' => e = .returned (rans (wordP s i)) ∧ Below w.heap.size w w' := by
  have hd1 := isD_yes h1
  have hdec := dec_asc s i (by omega)
  rw [h45] at hdec
  have hdd := dEnd_digs s s.size (i + 1) (by omega) (by omega)
  have hgt : i + 1 < dEnd s (i + 1) := by
    rw [dEnd_in s (i + 1) hd1.1 hd1.2]
    have := (dEnd_digs s s.size (i + 1 + 1) (by omega) (by omega)).1
    omega
  have hnf : nFrom s i = i + 1 := by
    unfold nFrom
    rw [hdec, if_pos rfl]
  have HE : Hid (wordP s i = match numP (s.extract i (dEnd s (i + 1))).data.toList with | none => .inr (29, (i : Int)) | some v => .inl (⟨2, (i : Int), s.extract i (dEnd s (i + 1)), v⟩, dEnd s (i + 1))) := by
    show _ = _
    unfold wordP
    rw [hdec, hnf]
    simp only
    rw [if_neg (by rw [ascii_not_letter 45 (by omega)]; decide), if_pos (.inr trivial), if_neg (by omega)]
    rfl
  have HNU : Hid (∀ w', Calls Tryz.prog 67 #[.string (s.extract i (dEnd s (i + 1)))] w' fun e w'' => e = .returned (.tuple #[.int .i64 (numR (s.extract i (dEnd s (i + 1))).data.toList).1, .bool (numR (s.extract i (dEnd s (i + 1))).data.toList).2]) ∧ w'' = w') := fun w' => rnum_cut2 s i _ w' hdd.2.1 hs hgt h45 hdd.2.2.1
  have HI0 : Hid (∀ w', Calls Tryz.prog 66 #[.string s, .int .i64 (i : Int)] w' fun e w'' => e = .returned (.bool false) ∧ w'' = w') := fun w' => by
    have h9 := isdig_any s i w'
    have e : isD s i = false := by
      unfold isD
      rw [h45]
      simp [dig]
    rw [e] at h9
    exact h9
  have HI1 : Hid (∀ w', Calls Tryz.prog 66 #[.string s, .int .i64 ((i : Int) + 1)] w' fun e w'' => e = .returned (.bool true) ∧ w'' = w') := fun w' => by
    have h9 := isdig_any s (i + 1) w'
    rw [h1] at h9
    exact h9
  have HSG : Hid (∀ w', Calls Tryz.prog 41 #[.int .u8 45] w' fun e w'' => e = .returned (.bool false) ∧ w'' = w') := fun w' => rsign_any 45 w'
  have hg : (s[i]'hi).toNat = 45 := by rw [← at_get s i hi]; exact h45
  have hEs := hdd.2.1
  have hEg : i < dEnd s (i + 1) := by omega
  have HX0 : Hid _ := bx_new w 55
  rw [HE.out]
  clear HE hdec hd1 hdd hgt hnf h45 h1
  obtain ⟨E, hE⟩ : ∃ E, dEnd s (i + 1) = E := ⟨_, rfl⟩
  rw [hE] at HNU hEs hEg ⊢
  have HEE : Hid (dEnd s (i + 1) = E) := hE
  clear hE
  unfold numR at HNU
  cases hnp : numP (s.extract i E).data.toList with
  | none =>
    rw [hnp] at HNU
    simp only at HNU ⊢
    clear hnp
    go_enter Tryz.func40, Tryz.ntmps40
    go_wp2_with fail
    refine (HSG.out _).mono ?_
    rintro e w1 ⟨rfl, rfl⟩
    generalize (w.alloc (.cells #[.int .i64 0, .int .i64 0, .string ⟨#[]⟩, .int .i64 0] 55)).alloc (.cells #[.int .i64 0, .int .i64 0, .string ⟨#[]⟩, .int .i64 0] 55) = w2 at *
    go_wp2_with fail
    refine (HI0.out _).mono ?_
    rintro e w1 ⟨rfl, rfl⟩
    go_wp2_with fail
    refine (HI1.out _).mono ?_
    rintro e w1 ⟨rfl, rfl⟩
    go_wp2
    go_loopw [13] (fun vk wr => ∃ k : Nat, vk = .int .i64 (k : Int) ∧ i + 1 ≤ k ∧ k ≤ s.size ∧ dEnd s k = E ∧ wr = w1) (fun vk _ => s.size - (intOf vk).toNat)
    case atStart => exact ⟨i + 1, by go_num, Nat.le_refl _, by omega, HEE.out, rfl⟩
    case round =>
      obtain ⟨k, rfl, hik, hks, hkE, rfl⟩ := hrel
      have HKE : Hid (dEnd s k = E) := hkE
      have HID : Hid (∀ w', Calls Tryz.prog 66 #[.string s, .int .i64 (k : Int)] w' fun e w'' => e = .returned (.bool (isD s k)) ∧ w'' = w') := fun w' => isdig_any s k w'
      clear hkE HEE
      cases hdg : isD s k with
      | true =>
        rw [hdg] at HID
        have hlt := (isD_yes hdg).1
        have HK2 : Hid (dEnd s (k + 1) = E) := by
          show _ = _
          rw [← dEnd_in s k hlt (isD_yes hdg).2]
          exact HKE.out
        clear HKE hdg
        go_wp2_with fail
        refine (HID.out _).mono ?_
        rintro e w3 ⟨rfl, rfl⟩
        go_wp2
        go_roundw
        case rel => exact ⟨k + 1, by go_num, by omega, by omega, HK2.out, by first | rfl | trivial⟩
        case measure => simp [intOf]; omega
      | false =>
        rw [hdg] at HID
        obtain rfl : k = E := by
          rw [← HKE.out]
          exact (isD_no hks hdg).symm
        clear HKE hdg
        go_wp2_with fail
        refine (HID.out _).mono ?_
        rintro e w3 ⟨rfl, rfl⟩
        clear HID
        have HX : Hid (Wx w3 w.heap.size zeroW ∧ Wx w3 (w.heap.size + 1) zeroW ∧ Below w.heap.size w w3) := HX0.out
        clear HX0
        go_wp2_with fail
        refine (HNU.out _).mono ?_
        rintro e w4 ⟨rfl, rfl⟩
        clear HNU
        obtain ⟨q0, q1, q2, q3⟩ := HX.out.1.cells
        obtain ⟨r0, r1, r2, r3⟩ := HX.out.2.1.cells
        simp only [zeroW] at q0 q1 q2 q3 r0 r1 r2 r3
        have z0 := HX.out.1.frozen 0
        have z1 := HX.out.1.frozen 1
        have z2 := HX.out.1.frozen 2
        have z3 := HX.out.1.frozen 3
        have HEN : Hid (Wx (store4 w4 w.heap.size ⟨0, 0, ⟨#[]⟩, 0⟩) w.heap.size ⟨0, 0, ⟨#[]⟩, 0⟩ ∧ Below w.heap.size w (store4 w4 w.heap.size ⟨0, 0, ⟨#[]⟩, 0⟩)) := ⟨HX.out.1.store _, store4_below HX.out.2.2 (Nat.le_refl _) _⟩
        clear HX
        go_wp2
        obtain ⟨WE, hWE⟩ : ∃ WE, WE = store4 w4 w.heap.size ⟨0, 0, ⟨#[]⟩, 0⟩ := ⟨_, rfl⟩
        rw [← hWE] at HEN
        have hWE2 : WE = ((((w4.setCell ⟨w.heap.size, 0, none⟩ (.int .i64 0)).setCell ⟨w.heap.size, 1, none⟩ (.int .i64 0)).setCell ⟨w.heap.size, 2, none⟩ (.string ⟨#[]⟩)).setCell ⟨w.heap.size, 3, none⟩ (.int .i64 0)) := hWE
        rw [← hWE2]
        clear hWE hWE2 q0 q1 q2 q3 z0 z1 z2 z3 r0 r1 r2 r3
        obtain ⟨y0, y1, y2, y3⟩ := HEN.out.1.cells
        simp only at y0 y1 y2 y3
        (try simp only [Exit.inBlock, Exit.then])
        refine bodyPost_ret (by simp [results, Tryz.results40, go_sem, y0, y1, y2, y3]; try rfl) rfl ?_
        exact ⟨rfl, HEN.out.2⟩
  | some v =>
    rw [hnp] at HNU
    simp only at HNU ⊢
    clear hnp
    go_enter Tryz.func40, Tryz.ntmps40
    go_wp2_with fail
    refine (HSG.out _).mono ?_
    rintro e w1 ⟨rfl, rfl⟩
    generalize (w.alloc (.cells #[.int .i64 0, .int .i64 0, .string ⟨#[]⟩, .int .i64 0] 55)).alloc (.cells #[.int .i64 0, .int .i64 0, .string ⟨#[]⟩, .int .i64 0] 55) = w2 at *
    go_wp2_with fail
    refine (HI0.out _).mono ?_
    rintro e w1 ⟨rfl, rfl⟩
    go_wp2_with fail
    refine (HI1.out _).mono ?_
    rintro e w1 ⟨rfl, rfl⟩
    go_wp2
    go_loopw [13] (fun vk wr => ∃ k : Nat, vk = .int .i64 (k : Int) ∧ i + 1 ≤ k ∧ k ≤ s.size ∧ dEnd s k = E ∧ wr = w1) (fun vk _ => s.size - (intOf vk).toNat)
    case atStart => exact ⟨i + 1, by go_num, Nat.le_refl _, by omega, HEE.out, rfl⟩
    case round =>
      obtain ⟨k, rfl, hik, hks, hkE, rfl⟩ := hrel
      have HKE : Hid (dEnd s k = E) := hkE
      have HID : Hid (∀ w', Calls Tryz.prog 66 #[.string s, .int .i64 (k : Int)] w' fun e w'' => e = .returned (.bool (isD s k)) ∧ w'' = w') := fun w' => isdig_any s k w'
      clear hkE HEE
      cases hdg : isD s k with
      | true =>
        rw [hdg] at HID
        have hlt := (isD_yes hdg).1
        have HK2 : Hid (dEnd s (k + 1) = E) := by
          show _ = _
          rw [← dEnd_in s k hlt (isD_yes hdg).2]
          exact HKE.out
        clear HKE hdg
        go_wp2_with fail
        refine (HID.out _).mono ?_
        rintro e w3 ⟨rfl, rfl⟩
        go_wp2
        go_roundw
        case rel => exact ⟨k + 1, by go_num, by omega, by omega, HK2.out, by first | rfl | trivial⟩
        case measure => simp [intOf]; omega
      | false =>
        rw [hdg] at HID
        obtain rfl : k = E := by
          rw [← HKE.out]
          exact (isD_no hks hdg).symm
        clear HKE hdg
        go_wp2_with fail
        refine (HID.out _).mono ?_
        rintro e w3 ⟨rfl, rfl⟩
        clear HID
        have HX : Hid (Wx w3 w.heap.size zeroW ∧ Wx w3 (w.heap.size + 1) zeroW ∧ Below w.heap.size w w3) := HX0.out
        clear HX0
        go_wp2_with fail
        refine (HNU.out _).mono ?_
        rintro e w4 ⟨rfl, rfl⟩
        clear HNU
        obtain ⟨q0, q1, q2, q3⟩ := HX.out.1.cells
        obtain ⟨r0, r1, r2, r3⟩ := HX.out.2.1.cells
        simp only [zeroW] at q0 q1 q2 q3 r0 r1 r2 r3
        have z0 := HX.out.1.frozen 0
        have z1 := HX.out.1.frozen 1
        have z2 := HX.out.1.frozen 2
        have z3 := HX.out.1.frozen 3
        have HEN : Hid (Wx (store4 w4 w.heap.size ⟨2, (i : Int), (s.extract i k), v⟩) w.heap.size ⟨2, (i : Int), (s.extract i k), v⟩ ∧ Below w.heap.size w (store4 w4 w.heap.size ⟨2, (i : Int), (s.extract i k), v⟩)) := ⟨HX.out.1.store _, store4_below HX.out.2.2 (Nat.le_refl _) _⟩
        clear HX
        go_wp2
        obtain ⟨WE, hWE⟩ : ∃ WE, WE = store4 w4 w.heap.size ⟨2, (i : Int), (s.extract i k), v⟩ := ⟨_, rfl⟩
        rw [← hWE] at HEN
        have hWE2 : WE = ((((w4.setCell ⟨w.heap.size, 0, none⟩ (.int .i64 2)).setCell ⟨w.heap.size, 1, none⟩ (.int .i64 (i : Int))).setCell ⟨w.heap.size, 2, none⟩ (.string (s.extract i k))).setCell ⟨w.heap.size, 3, none⟩ (.int .i64 v)) := hWE
        rw [← hWE2]
        clear hWE hWE2 q0 q1 q2 q3 z0 z1 z2 z3 r0 r1 r2 r3
        obtain ⟨y0, y1, y2, y3⟩ := HEN.out.1.cells
        simp only at y0 y1 y2 y3
        (try simp only [Exit.inBlock, Exit.then])
        refine bodyPost_ret (by simp [results, Tryz.results40, go_sem, y0, y1, y2, y3]; try rfl) rfl ?_
        exact ⟨rfl, HEN.out.2⟩
end Go.Proofs.YtcnnpohnfoaceaaGreatDoor.Text
