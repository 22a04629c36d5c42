/-
  The reference's Frame.
-/
import Derived.Test.YtfccimacloagiaaDoorRef2
import Derived.Test.YtfccimacloagiaaDoorFrm
namespace Go.Proofs.YtfccimacloagiaaDoor
open Go Go.RowKit Go.ChangeShapes Go.WideShapes
open Wb

theorem le4_take (S k : Nat) (hk : k < 4) : (le4 S).take (k + 1) = (le4 S).take k ++ [S / 256 ^ k % 256] := by
  match k, hk with
  | 0, _ => simp [le4]
  | 1, _ => simp [le4]
  | 2, _ => simp [le4]
  | 3, _ => simp [le4]

theorem rframe_bad (v : Value) (l : List Nat) (w : World) (h : Bs w v l) (er : Int) (he : (l.length = 0 ∧ er = 14) ∨ (1048576 < l.length ∧ er = 13)) :
    Calls Tryd.prog 35 #[v] w fun e w' => e = .returned (.tuple #[.slice none 0 0, .int .i64 er]) ∧ w = w' := by
  obtain ⟨ao, cap, rfl, _⟩ := h.shape
  clear h
  rcases he with ⟨h0, rfl⟩ | ⟨h1, rfl⟩
  · go_enter Tryd.func35, Tryd.ntmps35
    go_wp2
    go_ret2
    exact ⟨rfl, rfl⟩
  · have h0 : ¬ l.length = 0 := by omega
    go_enter Tryd.func35, Tryd.ntmps35
    go_wp2
    go_ret2
    exact ⟨rfl, rfl⟩
set_option maxRecDepth 100000 in
set_option maxHeartbeats 1000000 in
theorem rframe_ok (v : Value) (l : List Nat) (w : World) (h : Bs w v l) (h0 : 0 < l.length) (h1 : l.length ≤ 1048576) :
    Calls Tryd.prog 35 #[v] w fun e w' => ∃ v', e = .returned (.tuple #[v', .int .i64 0]) ∧ Own w.heap.size w' v' (fr l) ∧ Below w.heap.size w w' := by
  have hin := info5
  have hob := h
  obtain ⟨ao, cap, rfl, hl, hmx, _, _⟩ := h.shape
  clear h
  obtain ⟨L, hL⟩ : ∃ L, Wn.uint l.length ++ l = L := ⟨_, rfl⟩
  have HL : Hid (Wn.uint l.length ++ l = L) := hL
  have hLl : L.length ≤ 1048600 := by
    rw [← hL, List.length_append]
    have := Wn.uint_len10 l.length (by omega)
    omega
  obtain ⟨S, hS⟩ : ∃ S, Wm.crc L = S := ⟨_, rfl⟩
  have HSS : Hid (Wm.crc L = S) := hS
  have hSl : S < 4294967296 := by rw [← hS, ← hL]; exact Wm.crc_lt _ (ok_append (uint_okW _) hob.good)
  have HF : Hid (fr l = L ++ le4 S ++ [165]) := by show _ = _; rw [← hS, ← hL]; rfl
  clear hL hS
  generalize fr l = F at *
  go_enter Tryd.func35, Tryd.ntmps35
  have hz : ¬ l.length = 0 := by omega
  go_wp2_with fail
  refine (rbytes_any _ l _ hob (by omega)).mono ?_
  rw [HL.out]
  rintro e w1 ⟨v1, rfl, ho1, b1⟩
  obtain ⟨ao1, cap1, rfl, _⟩ := ho1.bs.shape
  clear hob
  go_wp2_with fail
  refine (rsum_any _ L _ ho1.bs).mono ?_
  rw [HSS.out]
  rintro e w2 ⟨rfl, rfl⟩
  go_wp2
  go_loopw [4, 5, 6] (fun o s i wr => ∃ k : Nat, k ≤ 4 ∧ i = .int .i64 (k : Int) ∧ s = .int .u32 ((S / 256 ^ k : Nat) : Int) ∧ Own w.heap.size wr o (L ++ (le4 S).take k) ∧ Below w.heap.size w wr) (fun _ _ i _ => 4 - (intOf i).toNat)
  case atStart => exact ⟨0, by omega, rfl, by simp, by simpa using ho1, b1⟩
  case round =>
    obtain ⟨k, hk, rfl, rfl, hown, hbel⟩ := hrel
    by_cases hlt : k < 4
    · have HO : Hid (∀ o, Own w.heap.size (wr.alloc o) u4 (L ++ (le4 S).take k)) := fun o => hown.alloc o
      have hLm : (L ++ (le4 S).take k).length ≤ 1048700 := by rw [List.length_append, List.length_take]; omega
      have HS : Hid (L ++ (le4 S).take (k + 1) = (L ++ (le4 S).take k) ++ [S / 256 ^ k % 256]) := by
        show _ = _
        rw [le4_take S k hlt, List.append_assoc]
      have HD : Hid (S / 256 ^ (k + 1) = S / 256 ^ k / 256) := by
        show _ = _
        rw [Nat.pow_succ, Nat.div_div_eq_div_mul]
      have hsz := hbel.size
      have hSk : S / 256 ^ k < 4294967296 := Nat.lt_of_le_of_lt (Nat.div_le_self _ _) hSl
      clear hown ho1
      generalize L ++ (le4 S).take k = m at *
      generalize S / 256 ^ k = T at *
      go_wp2_with (at_builtin; refine wpList_append _ rfl (.tmp 21) (.tmp 25) 25 rfl w.heap.size hin Tryd.underlying25 _ m rfl (HO.out _) _ [T % 256] rfl (Bs.one _ (T % 256) (by omega) _ (by omega)) (by simp; omega) (by simp; omega) ?_)
      intro v' w' ho' hb' _
      have R : Hid (Own w.heap.size w' v' (L ++ (le4 S).take (k + 1)) ∧ Below w.heap.size w w') := ⟨by rw [HS.out]; exact ho', (hbel.alloc hsz _).trans hb'⟩
      clear ho' hb' HO HS hbel
      go_wp2
      go_roundw
      case rel => exact ⟨k + 1, by omega, by go_num, by rw [HD.out]; go_num, R.out.1, R.out.2⟩
      case measure => simp [intOf]; omega
    · obtain rfl : k = 4 := by omega
      have e4 : (le4 S).take 4 = le4 S := rfl
      rw [e4] at hown
      have HO : Hid (∀ o, Own w.heap.size (wr.alloc o) u4 (L ++ le4 S)) := fun o => hown.alloc o
      have hLm : (L ++ le4 S).length ≤ 1048700 := by rw [List.length_append]; show L.length + 4 ≤ _; omega
      have hsz := hbel.size
      clear hown ho1 e4
      generalize L ++ le4 S = m at *
      go_wp2_with (at_builtin; refine wpList_append _ rfl (.tmp 29) (.tmp 30) 25 rfl w.heap.size hin Tryd.underlying25 _ m rfl (HO.out _) _ [165] rfl (Bs.one _ 165 (by decide) _ rfl) (by simp; omega) (by simp; omega) ?_)
      intro v' w' ho' hb' _
      have R : Hid (Own w.heap.size w' v' F ∧ Below w.heap.size w w') := ⟨by rw [HF.out]; exact ho', (hbel.alloc hsz _).trans hb'⟩
      clear ho' hb' HO hbel
      go_wp2
      go_ret2
      exact ⟨_, rfl, R.out.1, R.out.2⟩

end Go.Proofs.YtfccimacloagiaaDoor
