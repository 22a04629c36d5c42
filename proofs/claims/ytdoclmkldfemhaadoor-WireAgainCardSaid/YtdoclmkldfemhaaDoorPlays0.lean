/-
  The law package's helpers for a call's script: few, roomy.
-/
import Derived.Test.YtdoclmkldfemhaaDoorRef1
namespace Go.Proofs.YtdoclmkldfemhaaDoor
open Go Go.RowKit
open Wb

theorem rwhole_any (v : Value) (l : List Nat) (w : World) (h : Bs w v l) (hlen : l.length ≤ 140737488355328) :
    Calls Tryd.prog 10 #[v, .int .i64 0, .int .i64 (l.length : Int)] w fun e w' => ∃ v', e = .returned v' ∧ Own w.heap.size w' v' l ∧ Below w.heap.size w w' := by
  have h1 := rpart_any v l 0 l.length w h hlen (Nat.zero_le _) (Nat.le_refl _)
  rw [List.take_of_length_le (Nat.le_refl _), List.drop_zero] at h1
  exact h1

theorem fl_le (ls : List (List Nat)) (k : Nat) : (ls.take k).flatten.length ≤ ls.flatten.length := by
  have h1 := congrArg (fun x => (List.flatten x).length) (List.take_append_drop k ls)
  simp only [List.flatten_append, List.length_append] at h1
  omega

/-- few's answer -/
def FewSays (ls : List (List Nat)) (e : Ending) : Prop := ∃ b, e = .returned (.bool b) ∧ (b = true → ls.flatten.length + ls.length ≤ 4194304)

set_option maxHeartbeats 1000000 in
theorem few_any (v : Value) (ls : List (List Nat)) (w : World) (h : Ps w v ls) (hel : ∀ j (h : j < ls.length), ls[j].length ≤ 140737488355328) :
    Calls Tryd.prog 47 #[v] w fun e w' => FewSays ls e ∧ w = w' := by
  have HL : Hid (∀ j (h : j < ls.length), ls[j].length ≤ 140737488355328) := hel
  clear hel
  obtain ⟨ao, cap, rfl, hmx, hc⟩ := h.shape
  unfold maxLen at hmx
  clear h
  go_enter Tryd.func47, Tryd.ntmps47
  go_wp2
  go_loop [3, 4] (fun n i => ∃ k m : Nat, k ≤ ls.length ∧ i = .int .i64 k ∧ n = .int .i64 (m : Int) ∧ m = (ls.take k).flatten.length + k ∧ m ≤ 4194304) (fun _ i => ls.length - (intOf i).toNat)
  case atStart => exact ⟨0, 0, Nat.zero_le _, rfl, rfl, by simp, by omega⟩
  case round =>
    obtain ⟨k, m, hk, rfl, rfl, hm, hm4⟩ := hrel
    have HM : Hid (m = (ls.take k).flatten.length + k) := hm
    clear hm
    by_cases hlt : k < ls.length
    · obtain ⟨b, off, rfl, hcell⟩ := hc (List.ne_nil_of_length_pos (by omega))
      obtain ⟨vk, hck, hbk⟩ := hcell k hlt
      obtain ⟨aok, capk, rfl, hlk, hmk, hx1, hx2⟩ := hbk.shape
      have hq := HL.out k hlt
      have HN : Hid (m + ls[k].length + 1 = (ls.take (k + 1)).flatten.length + (k + 1)) := by
        show _ = _
        rw [HM.out, List.take_succ_eq_append_getElem hlt, List.flatten_append]
        simp
        omega
      clear hx1 hx2 hc hcell hbk hmk HL
      generalize ls[k].length = q at *
      by_cases h5 : 4194304 < m + q + 1
      · have d6 : decide ((4194304 : Int) < (m : Int) + (q : Int) + 1) = true := decide_eq_true (by omega)
        clear HM HN
        go_wp2
        go_ret
        exact ⟨⟨false, rfl, fun e => by cases e⟩, rfl⟩
      · have d6 : decide ((4194304 : Int) < (m : Int) + (q : Int) + 1) = false := decide_eq_false (by omega)
        go_wp2
        go_round
        case rel => exact ⟨k + 1, m + q + 1, by omega, by go_num, by go_num, HN.out, by omega⟩
        case measure => simp [intOf]; omega
    · have HF : Hid (ls.flatten.length + ls.length ≤ 4194304) := by
        have h1 := HM.out
        rw [List.take_of_length_le (by omega)] at h1
        show _ ≤ _
        omega
      clear hc HM HL
      go_wp2
      go_ret
      exact ⟨⟨true, rfl, fun _ => HF.out⟩, rfl⟩

def pad (k : Nat) : List Nat := (List.range k).map fun i => 201 + i % 5
theorem pad_succ (k : Nat) : pad (k + 1) = pad k ++ [201 + k % 5] := by simp [pad, List.range_succ]
theorem pad_len (k : Nat) : (pad k).length = k := by simp [pad]
theorem pad_ok (k : Nat) : ok (pad k) := by
  intro x hx
  simp [pad] at hx
  obtain ⟨i, _, rfl⟩ := hx
  omega

set_option maxHeartbeats 1000000 in
theorem roomy_any (v : Value) (l : List Nat) (w : World) (h : Bs w v l) (hlen : l.length ≤ 140737488355000) :
    Calls Tryd.prog 48 #[v] w fun e w' => ∃ v', e = .returned v' ∧ Own w.heap.size w' v' (l ++ pad 75) ∧ Below w.heap.size w w' := by
  have hin := info5
  have hob := h
  obtain ⟨ao, cap, rfl, hl, hmx, _, _⟩ := h.shape
  clear h
  go_enter Tryd.func48, Tryd.ntmps48
  go_wp2_with fail
  refine (rwhole_any _ l _ hob (by omega)).mono ?_
  rintro e w1 ⟨v1, rfl, ho1, b1⟩
  obtain ⟨ao1, cap1, rfl, _⟩ := ho1.bs.shape
  clear hob
  go_wp2
  go_loopw [3, 4] (fun o i wr => ∃ k : Nat, k ≤ 75 ∧ i = .int .i64 (k : Int) ∧ Own w.heap.size wr o (l ++ pad k) ∧ Below w.heap.size w wr) (fun _ i _ => 75 - (intOf i).toNat)
  case atStart => exact ⟨0, by omega, rfl, by simpa [pad] using ho1, b1⟩
  case round =>
    obtain ⟨k, hk, rfl, hown, hbel⟩ := hrel
    by_cases hlt : k < 75
    · have HO : Hid (∀ o, Own w.heap.size (wr.alloc o) u3 (l ++ pad k)) := fun o => hown.alloc o
      have hL : (l ++ pad k).length ≤ 140737488355100 := by simp [pad_len]; omega
      have HS : Hid (l ++ pad (k + 1) = (l ++ pad k) ++ [201 + k % 5]) := by
        show _ = _
        rw [pad_succ, List.append_assoc]
      have hsz := hbel.size
      clear hown ho1
      generalize l ++ pad k = m at *
      go_wp2_with (at_builtin; refine wpList_append _ rfl (.tmp 13) (.tmp 18) 23 rfl w.heap.size hin Tryd.underlying23 _ m rfl (HO.out _) _ [201 + k % 5] rfl (Bs.one _ (201 + k % 5) (by omega) _ (by omega)) (by simp; omega) (by simp; omega) ?_)
      intro v' w' ho' hb' _
      have R : Hid (Own w.heap.size w' v' (l ++ pad (k + 1)) ∧ Below w.heap.size w w') := ⟨by rw [HS.out]; exact ho', (hbel.alloc hsz _).trans hb'⟩
      clear ho' hb' HO HS hbel
      go_wp2
      go_roundw
      case rel => exact ⟨k + 1, by omega, by go_num, R.out.1, R.out.2⟩
      case measure => simp [intOf]; omega
    · obtain rfl : k = 75 := by omega
      go_wp2
      go_ret
      exact ⟨_, rfl, hown, hbel⟩

end Go.Proofs.YtdoclmkldfemhaaDoor
