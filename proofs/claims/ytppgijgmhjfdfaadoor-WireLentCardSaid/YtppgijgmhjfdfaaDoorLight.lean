/-
  The law package's helpers: sameAll, light.
-/
import Derived.Test.YtppgijgmhjfdfaaDoorRuns
import Derived.Test.YtppgijgmhjfdfaaDoorTorn
import Derived.Deep.RegionHeld
namespace Go.Proofs.YtppgijgmhjfdfaaDoor
open Go Go.RowKit
open Wb

set_option maxHeartbeats 1000000 in
theorem sameAll_yes (va vb : Value) (ls : List (List Nat)) (w : World) (ha : Ps w va ls) (hb : Ps w vb ls) :
    Calls Tryd.prog 10 #[va, vb] w fun e w' => e = .returned (.bool true) ∧ Below w.heap.size w w' := by
  obtain ⟨aoa, capa, rfl, hma, hca⟩ := ha.shape
  obtain ⟨aob, capb, rfl, hmb, hcb⟩ := hb.shape
  unfold maxLen at hma hmb
  have d0 : ((ls.length : Int) != (ls.length : Int)) = false := by simp
  clear ha hb
  go_enter Tryd.func10, Tryd.ntmps10
  go_wp2
  go_loopw [5] (fun i wr => ∃ k : Nat, k ≤ ls.length ∧ i = .int .i64 k ∧ Below w.heap.size w wr) (fun i _ => ls.length - (intOf i).toNat)
  case atStart => exact ⟨0, Nat.zero_le _, rfl, Below.refl _ _⟩
  case round =>
    obtain ⟨k, hk, rfl, hbel⟩ := hrel
    by_cases hlt : k < ls.length
    · obtain ⟨b1, off1, rfl, hcell1⟩ := hca (List.ne_nil_of_length_pos (by omega))
      obtain ⟨b2, off2, rfl, hcell2⟩ := hcb (List.ne_nil_of_length_pos (by omega))
      obtain ⟨v1, c1, h1⟩ := hcell1 k hlt
      obtain ⟨v2, c2, h2⟩ := hcell2 k hlt
      have HB : Hid (∀ w', Below w.heap.size w w' → (w'.cell? ⟨b1, off1 + k, none⟩ = some v1 ∧ w'.cell? ⟨b2, off2 + k, none⟩ = some v2)) := fun w' hb => ⟨(hb.cell (p := ⟨b1, off1 + k, none⟩) (World.block_lt_of_cell? _ _ c1)).trans c1, (hb.cell (p := ⟨b2, off2 + k, none⟩) (World.block_lt_of_cell? _ _ c2)).trans c2⟩
      have H1 : Hid (∀ w', Below w.heap.size w w' → Bs w' v1 ls[k]) := fun w' hb => h1.kept hb
      have H2 : Hid (∀ w', Below w.heap.size w w' → Bs w' v2 ls[k]) := fun w' hb => h2.kept hb
      obtain ⟨q1, q2⟩ := HB.out wr hbel
      obtain ⟨ao1, cp1, rfl, _⟩ := h1.shape
      obtain ⟨ao2, cp2, rfl, _⟩ := h2.shape
      clear hca hcb hcell1 hcell2 c1 c2 h1 h2
      generalize ls[k] = x at *
      go_wp2
      go_region_held (fun w' => w'.cell? ⟨b1, off1 + k, none⟩ = some (.slice ao1 x.length cp1) ∧ w'.cell? ⟨b2, off2 + k, none⟩ = some (.slice ao2 x.length cp2)) (first | go_keep | (exact HB.out _ (andThen (Below.drew hbel) hb')))
        (first | (go_at_call 13; refine (same_yes _ _ x _ ?_ ?_).mono ?_; (exact H1.out _ (Below.drew hbel)); (exact H2.out _ (Below.drew hbel)); rintro e w' ⟨rfl, hb'⟩))
      have hb2 : Below w.heap.size w w' := andThen (Below.drew hbel) hb'
      clear hb' hbel HB H1 H2 q1 q2
      go_wp2
      go_roundw
      case rel => exact ⟨k + 1, by omega, by go_num, hb2⟩
      case measure => simp [intOf]; omega
    · go_wp2
      go_ret
      exact ⟨rfl, hbel⟩

theorem ps_take {w : World} {v : Value} {ls : List (List Nat)} (h : Ps w v ls) (n : Nat) (hn : n ≤ ls.length) : ∀ ao cap, v = .slice ao ls.length cap → Ps w (.slice ao n cap) (ls.take n) := by
  intro ao cap hv
  obtain ⟨ao', cap', e, hm, hc⟩ := h.shape
  rw [e] at hv
  simp only [Value.slice.injEq, true_and] at hv
  obtain ⟨rfl, rfl⟩ := hv
  have hl : (ls.take n).length = n := by simp; omega
  refine ⟨ao', cap', by rw [hl], by omega, fun hne => ?_⟩
  have hpos : 0 < n := by rw [← hl]; exact List.length_pos_iff.2 hne
  obtain ⟨b, off, rfl, hcell⟩ := hc (List.ne_nil_of_length_pos (by omega))
  refine ⟨b, off, rfl, fun j hj => ?_⟩
  rw [hl] at hj
  obtain ⟨vj, h1, h2⟩ := hcell j (by omega)
  exact ⟨vj, h1, by simpa using h2⟩

theorem flat_le (ls : List (List Nat)) (k : Nat) : (ls.take k).flatten.length ≤ ls.flatten.length := by
  have h1 := congrArg (fun x => (List.flatten x).length) (List.take_append_drop k ls)
  simp only [List.flatten_append, List.length_append] at h1
  omega

set_option maxHeartbeats 1000000 in
theorem light_any (v : Value) (ls : List (List Nat)) (w : World) (h : Ps w v ls) (hsum : ls.flatten.length ≤ 1048576) (hcap : ∀ ao n cap, v = .slice ao n cap → n ≤ cap) :
    Calls Tryd.prog 5 #[v] w fun e w' => (∃ v', e = .returned v' ∧ Ps w v' (ls.take 5000)) ∧ w = w' := by
  have hob := h
  obtain ⟨ao, cap, rfl, hmx, hc⟩ := h.shape
  unfold maxLen at hmx
  have hlc := hcap _ _ _ rfl
  clear hcap
  have HT : Hid (∀ n, n ≤ ls.length → Ps w (.slice ao n cap) (ls.take n)) := fun n hn => ps_take hob n hn ao cap rfl
  have HL : Hid (ls.length ≤ 5000 → Ps w (.slice ao ls.length cap) (ls.take 5000)) := fun h5 => by rw [List.take_of_length_le h5]; exact hob
  clear hob h
  go_enter Tryd.func5, Tryd.ntmps5
  go_wp2
  go_loop [3, 4] (fun n i => ∃ k m : Nat, k ≤ ls.length ∧ k ≤ 5000 ∧ i = .int .i64 k ∧ n = .int .i64 (m : Int) ∧ m = (ls.take k).flatten.length) (fun _ i => ls.length - (intOf i).toNat)
  case atStart => exact ⟨0, 0, Nat.zero_le _, by omega, rfl, rfl, by simp⟩
  case round =>
    obtain ⟨k, m, hk, hk5, rfl, rfl, hm⟩ := hrel
    have HM : Hid (m = (ls.take k).flatten.length) := hm
    have hm1 : m ≤ 1048576 := by have := flat_le ls k; omega
    clear hm
    by_cases hlt : k < ls.length
    · obtain ⟨b, off, rfl, hcell⟩ := hc (List.ne_nil_of_length_pos (by omega))
      obtain ⟨vk, hck, hbk⟩ := hcell k hlt
      obtain ⟨aok, capk, rfl, hlk, hmk, hx1, hx2⟩ := hbk.shape
      have HN : Hid ((ls.take (k + 1)).flatten.length = m + ls[k].length) := by
        show _ = _
        rw [HM.out, List.take_succ_eq_append_getElem hlt, List.flatten_append]
        simp
      have hml : m + ls[k].length ≤ 1048576 := by have := flat_le ls (k + 1); have := HN.out; omega
      clear hx1 hx2 hc hcell hbk
      generalize ls[k].length = q at *
      by_cases h5 : k = 5000
      · have HP : Hid (Ps w (.slice (some ⟨b, off, none⟩) 5000 cap) (ls.take 5000)) := HT.out 5000 (by omega)
        subst h5
        clear HM HN HT HL
        go_wp2
        go_ret
        exact ⟨⟨_, rfl, HP.out⟩, rfl⟩
      · have d5 : decide ((5000 : Int) ≤ (k : Int)) = false := decide_eq_false (by omega)
        have d6 : decide ((4194304 : Int) < (m : Int) + (q : Int)) = false := decide_eq_false (by omega)
        go_wp2
        go_round
        case rel => exact ⟨k + 1, m + q, by omega, by omega, by go_num, by go_num, HN.out.symm⟩
        case measure => simp [intOf]; omega
    · have h5 : ls.length ≤ 5000 := by omega
      have HP : Hid (Ps w (.slice ao ls.length cap) (ls.take 5000)) := HL.out h5
      clear HT HL hc
      go_wp2
      go_ret
      exact ⟨⟨_, rfl, HP.out⟩, rfl⟩
end Go.Proofs.YtppgijgmhjfdfaaDoor
