/-
  The reference's Frame, same, ReadFrame; the law package's 'stretches' at Sum and Frame.
-/
import Derived.Test.YtppgijgmhjfdfaaDoorStrs
import Derived.Test.YtppgijgmhjfdfaaDoorFrm
import Derived.Test.YtppgijgmhjfdfaaDoorPlays3
namespace Go.Proofs.YtppgijgmhjfdfaaDoor
open Go Go.RowKit Go.ChangeShapes Go.WideShapes
open Wb

theorem le4_take (S k : Nat) (hk : k < 4) : (le4 S).take (k + 1) = (le4 S).take k ++ [S / 256 ^ k % 256] := by
  match k, hk with
  | 0, _ => simp [le4]
  | 1, _ => simp [le4]
  | 2, _ => simp [le4]
  | 3, _ => simp [le4]

theorem rframe_bad (v : Value) (l : List Nat) (w : World) (h : Bs w v l) (er : Int) (he : (l.length = 0 ∧ er = 14) ∨ (1048576 < l.length ∧ er = 13)) :
    Calls Tryd.prog 34 #[v] w fun e w' => e = .returned (.tuple #[.slice none 0 0, .int .i64 er]) ∧ w = w' := by
  obtain ⟨ao, cap, rfl, _⟩ := h.shape
  clear h
  rcases he with ⟨h0, rfl⟩ | ⟨h1, rfl⟩
  · go_enter Tryd.func34, Tryd.ntmps34
    go_wp2
    go_ret2
    exact ⟨rfl, rfl⟩
  · have h0 : ¬ l.length = 0 := by omega
    go_enter Tryd.func34, Tryd.ntmps34
    go_wp2
    go_ret2
    exact ⟨rfl, rfl⟩
set_option maxHeartbeats 1000000 in
theorem rframe_ok (v : Value) (l : List Nat) (w : World) (h : Bs w v l) (h0 : 0 < l.length) (h1 : l.length ≤ 1048576) :
    Calls Tryd.prog 34 #[v] w fun e w' => ∃ v', e = .returned (.tuple #[v', .int .i64 0]) ∧ Own w.heap.size w' v' (fr l) ∧ Below w.heap.size w w' := by
  have hin := info5
  have hob := h
  obtain ⟨ao, cap, rfl, hl, hmx, _, _⟩ := h.shape
  clear h
  obtain ⟨L, hL⟩ : ∃ L, Wn.uint l.length ++ l = L := ⟨_, rfl⟩
  have HL : Hid (Wn.uint l.length ++ l = L) := hL
  have hLl : L.length ≤ 1048600 := by
    rw [← hL, List.length_append]
    have := Wn.uint_len10 l.length (by omega)
    omega
  obtain ⟨S, hS⟩ : ∃ S, Wm.crc L = S := ⟨_, rfl⟩
  have HSS : Hid (Wm.crc L = S) := hS
  have hSl : S < 4294967296 := by rw [← hS, ← hL]; exact Wm.crc_lt _ (ok_append (uint_okW _) hob.good)
  have HF : Hid (fr l = L ++ le4 S ++ [165]) := by show _ = _; rw [← hS, ← hL]; rfl
  clear hL hS
  generalize fr l = F at *
  go_enter Tryd.func34, Tryd.ntmps34
  have hz : ¬ l.length = 0 := by omega
  go_wp2_with fail
  refine (rbytes_any _ l _ hob (by omega)).mono ?_
  rw [HL.out]
  rintro e w1 ⟨v1, rfl, ho1, b1⟩
  obtain ⟨ao1, cap1, rfl, _⟩ := ho1.bs.shape
  clear hob
  go_wp2_with fail
  refine (rsum_any _ L _ ho1.bs).mono ?_
  rw [HSS.out]
  rintro e w2 ⟨rfl, rfl⟩
  go_wp2
  go_loopw [4, 5, 6] (fun o s i wr => ∃ k : Nat, k ≤ 4 ∧ i = .int .i64 (k : Int) ∧ s = .int .u32 ((S / 256 ^ k : Nat) : Int) ∧ Own w.heap.size wr o (L ++ (le4 S).take k) ∧ Below w.heap.size w wr) (fun _ _ i _ => 4 - (intOf i).toNat)
  case atStart => exact ⟨0, by omega, rfl, by simp, by simpa using ho1, b1⟩
  case round =>
    obtain ⟨k, hk, rfl, rfl, hown, hbel⟩ := hrel
    by_cases hlt : k < 4
    · have HO : Hid (∀ o, Own w.heap.size (wr.alloc o) u4 (L ++ (le4 S).take k)) := fun o => hown.alloc o
      have hLm : (L ++ (le4 S).take k).length ≤ 1048700 := by rw [List.length_append, List.length_take]; omega
      have HS : Hid (L ++ (le4 S).take (k + 1) = (L ++ (le4 S).take k) ++ [S / 256 ^ k % 256]) := by
        show _ = _
        rw [le4_take S k hlt, List.append_assoc]
      have HD : Hid (S / 256 ^ (k + 1) = S / 256 ^ k / 256) := by
        show _ = _
        rw [Nat.pow_succ, Nat.div_div_eq_div_mul]
      have hsz := hbel.size
      have hSk : S / 256 ^ k < 4294967296 := Nat.lt_of_le_of_lt (Nat.div_le_self _ _) hSl
      clear hown ho1
      generalize L ++ (le4 S).take k = m at *
      generalize S / 256 ^ k = T at *
      go_wp2_with (at_builtin; refine wpList_append _ rfl (.tmp 21) (.tmp 25) 25 rfl w.heap.size hin Tryd.underlying25 _ m rfl (HO.out _) _ [T % 256] rfl (Bs.one _ (T % 256) (by omega) _ (by omega)) (by simp; omega) (by simp; omega) ?_)
      intro v' w' ho' hb' _
      have R : Hid (Own w.heap.size w' v' (L ++ (le4 S).take (k + 1)) ∧ Below w.heap.size w w') := ⟨by rw [HS.out]; exact ho', (hbel.alloc hsz _).trans hb'⟩
      clear ho' hb' HO HS hbel
      go_wp2
      go_roundw
      case rel => exact ⟨k + 1, by omega, by go_num, by rw [HD.out]; go_num, R.out.1, R.out.2⟩
      case measure => simp [intOf]; omega
    · obtain rfl : k = 4 := by omega
      have e4 : (le4 S).take 4 = le4 S := rfl
      rw [e4] at hown
      have HO : Hid (∀ o, Own w.heap.size (wr.alloc o) u4 (L ++ le4 S)) := fun o => hown.alloc o
      have hLm : (L ++ le4 S).length ≤ 1048700 := by rw [List.length_append]; show L.length + 4 ≤ _; omega
      have hsz := hbel.size
      clear hown ho1 e4
      generalize L ++ le4 S = m at *
      go_wp2_with (at_builtin; refine wpList_append _ rfl (.tmp 29) (.tmp 30) 25 rfl w.heap.size hin Tryd.underlying25 _ m rfl (HO.out _) _ [165] rfl (Bs.one _ 165 (by decide) _ rfl) (by simp; omega) (by simp; omega) ?_)
      intro v' w' ho' hb' _
      have R : Hid (Own w.heap.size w' v' F ∧ Below w.heap.size w w') := ⟨by rw [HF.out]; exact ho', (hbel.alloc hsz _).trans hb'⟩
      clear ho' hb' HO hbel
      go_wp2
      go_ret2
      exact ⟨_, rfl, R.out.1, R.out.2⟩

set_option maxHeartbeats 1000000 in
theorem rsame_any (vb vw : Value) (b x : List Nat) (q : Nat) (w : World) (hb : Bs w vb b) (hx : Bs w vw x) (hq : q + x.length ≤ b.length) (hlen : b.length ≤ 140737488355328) :
    Calls Tryd.prog 35 #[vb, .int .i64 (q : Int), vw] w fun e w' => e = .returned (.bool (decide ((b.drop q).take x.length = x))) ∧ Below w.heap.size w w' := by
  obtain ⟨aob, capb, rfl, hlb, hmb, hnb, hcb⟩ := hb.shape
  obtain ⟨aox, capx, rfl, hlx, hmx, hnx, hcx⟩ := hx.shape
  clear hb hx hnb hnx
  go_enter Tryd.func35, Tryd.ntmps35
  go_wp2
  go_loopw [7] (fun i wr => ∃ k : Nat, k ≤ x.length ∧ i = .int .i64 (k : Int) ∧ (b.drop q).take k = x.take k ∧ Below w.heap.size w wr) (fun i _ => x.length - (intOf i).toNat)
  case atStart => exact ⟨0, Nat.zero_le _, rfl, by simp, Below.refl _ _⟩
  case round =>
    obtain ⟨k, hk, rfl, heq, hbel⟩ := hrel
    have HQ : Hid ((b.drop q).take k = x.take k) := heq
    clear heq
    by_cases hlt : k < x.length
    · have hlt' : q + k < b.length := by omega
      obtain ⟨b1, off1, rfl, hcell1⟩ := hcb (List.ne_nil_of_length_pos (by omega))
      obtain ⟨b2, off2, rfl, hcell2⟩ := hcx (List.ne_nil_of_length_pos (by omega))
      have q1 := (hbel.cell (p := ⟨b1, off1 + (q + k), none⟩) (World.block_lt_of_cell? _ _ (hcell1 (q + k) hlt'))).trans (hcell1 (q + k) hlt')
      have q2 := (hbel.cell (p := ⟨b2, off2 + k, none⟩) (World.block_lt_of_cell? _ _ (hcell2 k hlt))).trans (hcell2 k hlt)
      clear hcb hcx hcell1 hcell2
      have hgd : (b.drop q)[k]'(by rw [List.length_drop]; omega) = b[q + k] := by simp
      by_cases hxy : b[q + k] = x[k]
      · have HS : Hid ((b.drop q).take (k + 1) = x.take (k + 1)) := by
          show _ = _
          rw [List.take_succ_eq_append_getElem (by rw [List.length_drop]; omega), List.take_succ_eq_append_getElem hlt, HQ.out, hgd, hxy]
        rw [hxy] at q1
        generalize x[k] = y at *
        have d1 : ((y : Int) != (y : Int)) = false := by simp
        clear hxy hgd
        go_wp2
        go_quiet (fail)
        go_wp2
        go_roundw
        case rel => exact ⟨k + 1, by omega, by go_num, HS.out, below_drewN hbel _⟩
        case measure => simp [intOf]; omega
      · have HN : Hid (¬ (b.drop q).take x.length = x) := by
          intro e
          have := congrArg (fun t : List Nat => t[k]?) e
          simp only [List.getElem?_take, hlt, if_true, List.getElem?_eq_getElem hlt] at this
          rw [List.getElem?_eq_getElem (by rw [List.length_drop]; omega), hgd] at this
          exact hxy (Option.some.inj this)
        have d1 : ((b[q + k] : Int) != (x[k] : Int)) = true := by rw [bne_iff_ne]; omega
        clear hgd
        generalize b[q + k] = y at *
        generalize x[k] = z at *
        clear hxy
        go_wp2
        go_quiet (fail)
        go_wp2
        go_ret
        exact ⟨by rw [decide_eq_false HN.out]; rfl, below_drewN hbel _⟩
    · have HE : Hid ((b.drop q).take x.length = x) := by
        have h := HQ.out
        obtain rfl : k = x.length := by omega
        rw [List.take_of_length_le (Nat.le_refl _)] at h
        exact h
      go_wp2
      go_ret
      exact ⟨by rw [decide_eq_true HE.out]; rfl, hbel⟩

theorem drop_take4 (m : List Nat) (h : 4 ≤ m.length) (hok : ok m) : m.take 4 = le4 (sum4 m) ∧ sum4 m < 4294967296 := by
  match m, h with
  | a :: b :: c :: d :: r, _ =>
    have ha : a < 256 := hok a (by simp)
    have hb : b < 256 := hok b (by simp)
    have hc : c < 256 := hok c (by simp)
    have hd : d < 256 := hok d (by simp)
    simp only [le4, sum4, List.take, List.getD_cons_zero, List.getD_cons_succ]
    refine ⟨?_, by omega⟩
    congr 1
    · omega
    congr 1
    · omega
    congr 1
    · omega
    congr 1
    omega
theorem le4_inj (a b : Nat) (ha : a < 4294967296) (hb : b < 4294967296) (h : le4 a = le4 b) : a = b := by
  simp only [le4, List.cons.injEq, and_true] at h
  omega
/-- the reference writes the frame anew and holds it against what stands there; the program reads the sum: it is one -/
theorem frame_there (l : List Nat) (q t x : Nat) (hok : ok l) (hqt : q ≤ t) (hu : (l.take t).drop q = Wn.uint x) (hx : 0 < x) (hl : t + x + 5 ≤ l.length) (hmark : l.getD (t + x + 4) 0 = 165) :
    ((l.drop q).take (fr ((l.take (t + x)).drop t)).length = fr ((l.take (t + x)).drop t)) ↔ sum4 (l.drop (t + x)) = Wm.crc ((l.take (t + x)).drop q) := by
  obtain ⟨B, hB⟩ : ∃ B, (l.take (t + x)).drop t = B := ⟨_, rfl⟩
  have hBl : B.length = x := by rw [← hB]; simp; omega
  have hU : (Wn.uint x).length = t - q := by rw [← hu]; simp; omega
  have e1 : (l.take (t + x)).drop q = Wn.uint x ++ B := by
    rw [← hu, ← hB]
    have a1 : l.take (t + x) = l.take t ++ (l.take (t + x)).drop t := by
      have := (List.take_append_drop t (l.take (t + x))).symm
      rwa [List.take_take, Nat.min_eq_left (by omega)] at this
    have a2 : ((l.take t).drop q) ++ ((l.take (t + x)).drop t) = (l.take t ++ (l.take (t + x)).drop t).drop q := by
      rw [List.drop_append_of_le_length (by simp; omega)]
    rw [a2, ← a1]
  have hfl : (fr B).length = t - q + x + 5 := by rw [fr_length, hBl, hU]
  have e2 : (l.drop q).take (t - q + x + 5) = Wn.uint x ++ B ++ (l.drop (t + x)).take 4 ++ [165] := by
    rw [← e1]
    have c1 : (l.drop q).take (t - q + x + 5) = (l.take (t + x + 5)).drop q := by
      rw [List.drop_take]
      congr 1
      omega
    have c2 : l.take (t + x + 5) = l.take (t + x) ++ (l.drop (t + x)).take 5 := by rw [List.take_add]
    have c3 : (l.drop (t + x)).take 5 = (l.drop (t + x)).take 4 ++ [165] := by
      rw [List.take_succ_eq_append_getElem (by rw [List.length_drop]; omega)]
      congr 2
      rw [List.getElem_drop]
      rw [List.getD_eq_getElem?_getD, List.getElem?_eq_getElem (by omega)] at hmark
      exact hmark
    rw [c1, c2, c3, List.drop_append_of_le_length (by simp; omega), List.append_assoc]
  obtain ⟨d1, d2⟩ := drop_take4 (l.drop (t + x)) (by rw [List.length_drop]; omega) (ok_drop hok _)
  have hcr : Wm.crc (Wn.uint x ++ B) < 4294967296 := Wm.crc_lt _ (by rw [← e1]; exact ok_drop (ok_take hok _) _)
  rw [hB, hfl, e2, e1, d1]
  unfold fr
  rw [hBl]
  constructor
  · intro h
    have h1 := List.append_cancel_right h
    have h2 := List.append_cancel_left h1
    exact le4_inj _ _ d2 hcr h2
  · intro h
    rw [h]
end Go.Proofs.YtppgijgmhjfdfaaDoor
