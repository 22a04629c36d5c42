/-
  The reference's Fields; same.
-/
import Derived.Test.YtbmoghpeapdlaaaDoorRFld
namespace Go.Proofs.YtbmoghpeapdlaaaDoor
open Go Go.RowKit

/-- the tags that n letters name -/
def ltr (s : ByteArray) (n : Nat) : List Int := (List.range n).map fun i => (((s.get! i).toNat : Int) - 97) % 256 + 1
theorem ltr_step (s : ByteArray) (n : Nat) (h : n < s.size) : ltr s (n + 1) = ltr s n ++ [(((s[n]'h).toNat : Int) - 97) % 256 + 1] := by
  unfold ltr
  rw [List.range_succ, List.map_append]
  have e : s.get! n = s[n]'h := by
    rw [ByteArray.getElem_eq_getElem_data]
    show s.data[n]! = _
    rw [getElem!_pos s.data n h]
  simp [e]
theorem ltr_len (s : ByteArray) (n : Nat) : (ltr s n).length = n := by simp [ltr]

set_option maxRecDepth 100000 in
set_option maxHeartbeats 1000000 in
theorem rfields_in (v k : Int) (s : ByteArray) (w : World) (h1 : 1 ≤ v) (h2 : v ≤ 3) (h3 : 1 ≤ k) (h4 : k ≤ 7) (hs : s.size ≤ 7) (hR : w.cell? ⟨1, (k.toNat - 1) * 3 + (v.toNat - 1), none⟩ = some (.string s)) :
    Calls Tryd.prog 6 #[.int .i64 v, .int .i64 k] w fun e w' => ∃ o, e = .returned o ∧ RoI w.heap.size w' o (ltr s s.size) ∧ Below w.heap.size w w' := by
  have hin := info3
  go_enter Tryd.func6, Tryd.ntmps6
  go_wp2
  clear hR
  go_loopw [6, 7] (fun o i wr => ∃ k : Nat, k ≤ s.size ∧ i = .int .i64 (k : Int) ∧ RoI w.heap.size wr o (ltr s k) ∧ Below w.heap.size w wr) (fun _ i _ => 7 - (intOf i).toNat)
  case atStart => exact ⟨0, by omega, rfl, roI_nil _ _, Below.refl _ _⟩
  case round =>
    obtain ⟨n, hn, rfl, hro, hbel⟩ := hrel
    have HL : Hid ((ltr s n).length = n) := ltr_len s n
    obtain ⟨ao, cap, rfl⟩ := hro.shape
    by_cases hlt : n < s.size
    · have HS : Hid (ltr s (n + 1) = ltr s n ++ [(((s[n]'hlt).toNat : Int) - 97) % 256 + 1]) := ltr_step s n hlt
      have HR5 : Hid (∀ o, RoI w.heap.size (wr.alloc o) (.slice ao (ltr s n).length cap) (ltr s n)) := fun o => hro.kept (up0 _ _)
      have HB5 : Hid (∀ o, Below w.heap.size w (wr.alloc o)) := fun o => up hbel o
      have hs5 := hbel.size
      have hll : Hid ((ltr s n).length ≤ 1000) := by show _ ≤ _; rw [HL.out]; omega
      clear hro hbel HL
      generalize ltr s n = L at *
      go_wp2_with (at_builtin; refine wpList_app_int _ rfl (.tmp 35) (.tmp 42) 22 rfl w.heap.size hin Tryd.underlying22 _ L rfl (HR5.out _) _ ((((s[n]'hlt).toNat : Int) - 97) % 256 + 1) rfl (World.cell?_alloc_new wr _ _ 0) hll.out (by simp; omega) ?_)
      intro v6 w6 hr6 hg6
      have HR6 : Hid (RoI w.heap.size w6 v6 (ltr s (n + 1))) := by show RoI _ _ _ _; rw [HS.out]; exact hr6
      have HB6 : Hid (Below w.heap.size w w6) := (HR5.out _).below (HB5.out _) hg6
      clear hr6 hg6 HR5 HB5
      go_wp2
      go_roundw
      case rel => exact ⟨n + 1, by omega, by go_num, HR6.out, HB6.out⟩
      case measure => simp [intOf]; omega
    · obtain rfl : n = s.size := by omega
      go_wp2
      go_ret
      exact ⟨_, rfl, hro, hbel⟩
set_option maxRecDepth 100000 in
theorem rfields_out (v k : Int) (w : World) (h : ¬ (1 ≤ v ∧ v ≤ 3 ∧ 1 ≤ k ∧ k ≤ 7)) :
    Calls Tryd.prog 6 #[.int .i64 v, .int .i64 k] w fun e w' => ∃ o, e = .returned o ∧ RoI w.heap.size w' o [] ∧ Below w.heap.size w w' := by
  by_cases h1 : v < 1
  · clear h
    go_enter Tryd.func6, Tryd.ntmps6
    go_wp2
    go_ret
    exact ⟨_, rfl, roI_nil _ _, Below.refl _ _⟩
  · by_cases h2 : 3 < v
    · clear h
      go_enter Tryd.func6, Tryd.ntmps6
      go_wp2
      go_ret
      exact ⟨_, rfl, roI_nil _ _, Below.refl _ _⟩
    · by_cases h3 : k < 1
      · clear h
        go_enter Tryd.func6, Tryd.ntmps6
        go_wp2
        go_ret
        exact ⟨_, rfl, roI_nil _ _, Below.refl _ _⟩
      · have h4 : 7 < k := by omega
        clear h
        go_enter Tryd.func6, Tryd.ntmps6
        go_wp2
        go_ret
        exact ⟨_, rfl, roI_nil _ _, Below.refl _ _⟩

/-- a slice of these numbers -/
def SlI (w : World) (v : Value) (l : List Int) : Prop := ∃ ao cap, v = .slice ao l.length cap ∧ ∀ j (h : j < l.length), ∃ g, ao = some ⟨g, 0, none⟩ ∧ w.cell? ⟨g, j, none⟩ = some (.int .i64 l[j])
theorem RoI.sl {B : Nat} {w : World} {v : Value} {l : List Int} (h : RoI B w v l) : SlI w v l := by
  obtain ⟨ao, cap, rfl⟩ := h.shape
  exact ⟨ao, cap, rfl, fun j hj => h.cell j hj⟩
theorem SlI.kept {w w' : World} {v : Value} {l : List Int} (h : SlI w v l) (hb : Below w.heap.size w w') : SlI w' v l := by
  obtain ⟨ao, cap, rfl, hc⟩ := h
  refine ⟨ao, cap, rfl, fun j hj => ?_⟩
  obtain ⟨g, hg, hcell⟩ := hc j hj
  exact ⟨g, hg, (hb.cell (p := ⟨g, j, none⟩) (World.block_lt_of_cell? _ _ hcell)).trans hcell⟩

set_option maxRecDepth 100000 in
set_option maxHeartbeats 1000000 in
theorem same_any (l : List Int) (a b : Value) (w : World) (ha : SlI w a l) (hb : SlI w b l) (hl : l.length ≤ 1000) :
    Calls Tryd.prog 5 #[a, b] w fun e w' => e = .returned (.bool true) ∧ ∃ n, w' = w.drewN n := by
  obtain ⟨aa, ca, rfl, hca⟩ := ha
  obtain ⟨ab, cb, rfl, hcb⟩ := hb
  have HA : Hid (∀ j (h : j < l.length), ∃ g, aa = some ⟨g, 0, none⟩ ∧ w.cell? ⟨g, j, none⟩ = some (.int .i64 l[j])) := hca
  have HB : Hid (∀ j (h : j < l.length), ∃ g, ab = some ⟨g, 0, none⟩ ∧ w.cell? ⟨g, j, none⟩ = some (.int .i64 l[j])) := hcb
  clear hca hcb
  go_enter Tryd.func5, Tryd.ntmps5
  go_wp2
  go_loopw [5] (fun i wr => ∃ k : Nat, k ≤ l.length ∧ i = .int .i64 (k : Int) ∧ ∃ n, wr = w.drewN n) (fun i _ => l.length - (intOf i).toNat)
  case atStart => exact ⟨0, by omega, rfl, 0, rfl⟩
  case round =>
    obtain ⟨k, hk, rfl, n, hw⟩ := hrel
    have HW : Hid (wr = w.drewN n) := hw
    clear hw
    by_cases hlt : k < l.length
    · obtain ⟨ga, rfl, c1⟩ := HA.out k hlt
      obtain ⟨gb, rfl, c2⟩ := HB.out k hlt
      generalize l[k] = x at *
      have c3 : wr.cell? ⟨ga, k, none⟩ = some (.int .i64 x) := by rw [HW.out]; exact c1
      have c4 : wr.cell? ⟨gb, k, none⟩ = some (.int .i64 x) := by rw [HW.out]; exact c2
      clear c1 c2 HA HB
      go_wp2
      go_quiet (fail)
      go_wp2
      go_roundw
      case rel => exact ⟨k + 1, by omega, by go_num, _, by rw [HW.out]; exact World.drewN_drewN _ _ _⟩
      case measure => simp [intOf]; omega
    · obtain rfl : k = l.length := by omega
      go_wp2
      go_ret
      exact ⟨rfl, n, HW.out⟩
end Go.Proofs.YtbmoghpeapdlaaaDoor
