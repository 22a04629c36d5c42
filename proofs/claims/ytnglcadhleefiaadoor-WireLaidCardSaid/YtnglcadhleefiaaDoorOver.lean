/-
  The law package's helper: over.
-/
import Derived.Test.YtnglcadhleefiaaDoorLaws1
import Derived.Test.YtnglcadhleefiaaDoorCrc
import Derived.Deep.RegionHeldLaw
namespace Go.Proofs.YtnglcadhleefiaaDoor
open Go Go.RowKit
open Wb

theorem xor3_snoc : ∀ (a b c : List Nat) (k : Nat) (ha : k < a.length) (hb : k < b.length) (hc : k < c.length), Wm.xor3 (a.take (k + 1)) (b.take (k + 1)) (c.take (k + 1)) = Wm.xor3 (a.take k) (b.take k) (c.take k) ++ [a[k] ^^^ b[k] ^^^ c[k]]
  | a0 :: a, b0 :: b, c0 :: c, 0, _, _, _ => by simp [Wm.xor3]
  | a0 :: a, b0 :: b, c0 :: c, k + 1, ha, hb, hc => by
    have ih := xor3_snoc a b c k (by simpa using ha) (by simpa using hb) (by simpa using hc)
    simp only [List.take_succ_cons, Wm.xor3, List.cons_append, List.getElem_cons_succ]
    rw [ih]
theorem xor3_length : ∀ (a b c : List Nat), a.length = b.length → a.length = c.length → (Wm.xor3 a b c).length = a.length
  | [], [], [], _, _ => rfl
  | a0 :: a, b0 :: b, c0 :: c, h1, h2 => by
    have := xor3_length a b c (by simpa using h1) (by simpa using h2)
    simp [Wm.xor3, this]
  | [], _ :: _, _, h, _ => by simp at h
  | _ :: _, [], _, h, _ => by simp at h
  | [], [], _ :: _, _, h => by simp at h
  | _ :: _, _ :: _, [], _, h => by simp at h

set_option maxHeartbeats 1000000 in
theorem over_any (v1 v2 v3 : Value) (l1 l2 l3 : List Nat) (w : World) (h1 : Bs w v1 l1) (h2 : Bs w v2 l2) (h3 : Bs w v3 l3) (hlen : l1.length ≤ 140737488355328) (e2 : l1.length = l2.length) (e3 : l1.length = l3.length) :
    Calls Tryd.prog 13 #[v1, v2, v3] w fun e w' => ∃ v', e = .returned v' ∧ Own w.heap.size w' v' (Wm.xor3 l1 l2 l3) ∧ Below w.heap.size w w' := by
  have hin := info5
  have g1 := h1.good
  have g2 := h2.good
  have g3 := h3.good
  obtain ⟨ao1, cap1, rfl, hl1, hm1, hn1, hc1⟩ := h1.shape
  obtain ⟨ao2, cap2, rfl, hl2, hm2, hn2, hc2⟩ := h2.shape
  obtain ⟨ao3, cap3, rfl, hl3, hm3, hn3, hc3⟩ := h3.shape
  have E2 : Hid (l1.length = l2.length) := e2
  have E3 : Hid (l1.length = l3.length) := e3
  clear e2 e3
  go_enter Tryd.func13, Tryd.ntmps13
  go_wp2
  go_loopw [7, 8] (fun v i wr => ∃ k : Nat, k ≤ l1.length ∧ i = .int .i64 k ∧ Own w.heap.size wr v (Wm.xor3 (l1.take k) (l2.take k) (l3.take k)) ∧ Below w.heap.size w wr) (fun _ i _ => l1.length - (intOf i).toNat)
  case atStart => exact ⟨0, Nat.zero_le _, rfl, by simp [Wm.xor3]; exact Own.nil _ _, Below.refl _ _⟩
  case round =>
    obtain ⟨k, hk, rfl, hown, hbel⟩ := hrel
    by_cases hlt : k < l1.length
    · have k2 : k < l2.length := by rw [← E2.out]; exact hlt
      have k3 : k < l3.length := by rw [← E3.out]; exact hlt
      obtain ⟨b1, off1, rfl, hcell1⟩ := hc1 (List.ne_nil_of_length_pos (by omega))
      obtain ⟨b2, off2, rfl, hcell2⟩ := hc2 (List.ne_nil_of_length_pos (by omega))
      obtain ⟨b3, off3, rfl, hcell3⟩ := hc3 (List.ne_nil_of_length_pos (by omega))
      have p1 := World.block_lt_of_cell? _ _ (hcell1 k hlt)
      have p2 := World.block_lt_of_cell? _ _ (hcell2 k k2)
      have p3 := World.block_lt_of_cell? _ _ (hcell3 k k3)
      have q1 := (hbel.cell (p := ⟨b1, off1 + k, none⟩) p1).trans (hcell1 k hlt)
      have q2 := (hbel.cell (p := ⟨b2, off2 + k, none⟩) p2).trans (hcell2 k k2)
      have q3 := (hbel.cell (p := ⟨b3, off3 + k, none⟩) p3).trans (hcell3 k k3)
      have r1 := ok_get g1 k hlt
      have r2 := ok_get g2 k k2
      have r3 := ok_get g3 k k3
      have HS : Hid (Wm.xor3 (l1.take (k + 1)) (l2.take (k + 1)) (l3.take (k + 1)) = Wm.xor3 (l1.take k) (l2.take k) (l3.take k) ++ [l1[k] ^^^ l2[k] ^^^ l3[k]]) := xor3_snoc l1 l2 l3 k hlt k2 k3
      have hL : (Wm.xor3 (l1.take k) (l2.take k) (l3.take k)).length ≤ k := by rw [xor3_length _ _ _ (by simp; omega) (by simp; omega)]; simp; omega
      have hsz := hbel.size
      clear hc1 hc2 hc3 hcell1 hcell2 hcell3 g1 g2 g3 hn1 hn2 hn3
      generalize l1[k] = x at *
      generalize l2[k] = y at *
      generalize l3[k] = z at *
      have n1 := u8_xor_nat x y r1 r2
      have hxy : x ^^^ y < 256 := Nat.xor_lt_two_pow (n := 8) r1 r2
      have n2 := u8_xor_nat (x ^^^ y) z hxy r3
      have hxyz : x ^^^ y ^^^ z < 256 := Nat.xor_lt_two_pow (n := 8) hxy r3
      generalize x ^^^ y ^^^ z = c at *
      generalize x ^^^ y = d at *
      generalize Wm.xor3 (l1.take k) (l2.take k) (l3.take k) = m at *
      go_wp2
      have HB : Hid (∀ w', Below w.heap.size wr w' → (w'.cell? ⟨b1, off1 + k, none⟩ = some (.int .u8 (x : Int)) ∧ w'.cell? ⟨b2, off2 + k, none⟩ = some (.int .u8 (y : Int)) ∧ w'.cell? ⟨b3, off3 + k, none⟩ = some (.int .u8 (z : Int)))) := fun w' hb => ⟨(hb.cell (p := ⟨b1, off1 + k, none⟩) p1).trans q1, (hb.cell (p := ⟨b2, off2 + k, none⟩) p2).trans q2, (hb.cell (p := ⟨b3, off3 + k, none⟩) p3).trans q3⟩
      have HO : Hid (∀ w', Below wr.heap.size wr w' → Own w.heap.size w' u7 m) := fun w' hb => hown.kept hb
      go_region_held_law (fun w' => w'.cell? ⟨b1, off1 + k, none⟩ = some (.int .u8 (x : Int)) ∧ w'.cell? ⟨b2, off2 + k, none⟩ = some (.int .u8 (y : Int)) ∧ w'.cell? ⟨b3, off3 + k, none⟩ = some (.int .u8 (z : Int))) (first | go_keep | (exact HB.out _ ((((Below.refl w.heap.size wr).drew).alloc hsz _).trans hb')))
        (first | (refine step_append rfl (.tmp 15) (.tmp 30) 22 rfl w.heap.size hin Tryd.underlying22 u7 m (by simp [Act.eval]) (by first | exact HO.out _ (((Below.refl _ wr).drew).alloc (Nat.le_refl _) _) | exact HO.out _ (((Below.refl _ wr).alloc (Nat.le_refl _) _).drew)) (.slice (some ⟨wr.heap.size, 0, none⟩) 1 1) [c] (by simp [Act.eval]) (by first | exact Bs.one _ c hxyz _ rfl | exact (Bs.one _ c hxyz _ rfl).drew) (by simp; omega) (by simp; omega) ?_; intro v' w' ho' hb' hgr'))
      have R : Hid (Own w.heap.size w' v' (Wm.xor3 (l1.take (k + 1)) (l2.take (k + 1)) (l3.take (k + 1))) ∧ Below w.heap.size w w') := ⟨by rw [HS.out]; exact ho', ((hbel.drew).alloc hsz _).trans hb'⟩
      clear ho' hb' hgr' hown HO HS HB
      go_wp2
      go_roundw
      case rel => exact ⟨k + 1, by omega, by go_num, R.out.1, R.out.2⟩
      case measure => simp [intOf]; omega
    · have HE : Hid (Wm.xor3 (l1.take k) (l2.take k) (l3.take k) = Wm.xor3 l1 l2 l3) := by
        show _ = _
        rw [List.take_of_length_le (by omega), List.take_of_length_le (by rw [← E2.out]; omega), List.take_of_length_le (by rw [← E3.out]; omega)]
      go_wp2
      go_ret
      exact ⟨_, rfl, by rw [← HE.out]; exact hown, hbel⟩
end Go.Proofs.YtnglcadhleefiaaDoor
