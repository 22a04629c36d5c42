import Derived.Test.YtppabcihbpbfpaaGreatDoorQK5
/-
  Package disk: Truncate.
-/
namespace Go.Proofs.YtppabcihbpbfpaaGreatDoor
open Go Go.RowKit Go.ChangeShapes
open Wb

theorem bs_take {w : World} {ao : Option Addr} {cap : Nat} {l : List Nat} (h : Bs w (.slice ao l.length cap) l) (n : Nat) (hn : n ≤ l.length) : Bs w (.slice ao n cap) (l.take n) := by
  obtain ⟨ao', cap', e, h1, h2, h3, hc⟩ := h.shape
  simp only [Value.slice.injEq] at e
  obtain ⟨rfl, _, rfl⟩ := e
  refine ⟨⟨ao, cap, by rw [List.length_take, Nat.min_eq_left hn], by rw [List.length_take]; omega, h2, h3, fun hne => ?_⟩, fun x hx => h.good x (List.mem_of_mem_take hx)⟩
  obtain ⟨b, off, e, hcell⟩ := hc (fun e => hne (by rw [e]; simp))
  refine ⟨b, off, e, fun j hj => ?_⟩
  rw [List.length_take] at hj
  rw [hcell j (by omega)]
  simp
set_option maxRecDepth 100000 in
set_option maxHeartbeats 4000000 in
theorem bclone_any (v : Value) (l : List Nat) (w : World) (h : Bs w v l) (hlen : l.length ≤ 140737488355000) :
    Calls Tryz.prog 33 #[v] w fun e w' => ∃ v', e = .returned v' ∧ Own w.heap.size w' v' l ∧ Below w.heap.size w w' := by
  have hin := info5
  obtain ⟨ao, cap, rfl, hl, hm, hn, hc⟩ := h.shape
  cases ao with
  | none =>
    have h0 : l = [] := List.eq_nil_of_length_eq_zero (by have := hn rfl; omega)
    subst h0
    clear h hc hl hm hn hlen
    have he : ∀ w' : World, (binOp .eql 32 (.slice none 0 cap) (.slice none 0 0)).run Tryz.prog w' = .ok (.bool true) w' := fun _ => rfl
    go_enter Tryz.func33, Tryz.ntmps33
    go_wp2
    go_ret
    exact ⟨_, rfl, Own.nil _ _, Below.refl _ _⟩
  | some ad =>
    have HB : Hid (∀ o, Bs (w.alloc o) (.slice (some ad) l.length cap) l) := fun o => h.alloc o
    have HO : Hid (Own w.heap.size (w.alloc (.cells #[] 5)) (.slice (some ⟨w.heap.size, 0, none⟩) 0 0) []) := Own.lit w [] ok_nil (Nat.le_refl _) (Nat.zero_le _) #[] rfl
    clear h hc hl hm hn
    have he : ∀ w' : World, (binOp .eql 32 (.slice (some ad) l.length cap) (.slice none 0 0)).run Tryz.prog w' = .ok (.bool false) w' := fun _ => rfl
    go_enter Tryz.func33, Tryz.ntmps33
    go_wp2_with (at_builtin; refine wpList_append _ rfl (.tmp 5) (.tmp 6) 32 rfl w.heap.size hin Tryz.underlying32 _ [] rfl HO.out _ l rfl (HB.out _) (by simp; omega) (by simp) ?_)
    intro v' w' ho' hb' _
    have R : Hid (Own w.heap.size w' v' l ∧ Below w.heap.size w w') := ⟨ho', ((Below.refl _ w).alloc (Nat.le_refl _) _).trans hb'⟩
    clear ho' hb'
    go_wp2
    go_ret
    exact ⟨_, rfl, R.out.1, R.out.2⟩
namespace Dk
/-- Truncate -/
def bad (S : DS) (f : Nat) (n : Int) : Bool := decide (n < 0 ∨ ((S.fo f).data.length : Int) < n)
def truE (S : DS) (s : List UInt8) (n : Int) : Int := if (findE S s).1 = 0 then (if bad S (fil S s) n = true then 65 else (cnt S).1) else (findE S s).1
def tru (S : DS) (s : List UInt8) (n : Int) : DS := if (findE S s).1 = 0 ∧ bad S (fil S s) n = false then (if (cnt S).1 = 0 then { (cnt S).2 with taken := S.taken - (((S.fo (fil S s)).data.length : Int) - n), fo := upd (cnt S).2.fo (fil S s) ⟨(S.fo (fil S s)).data.take n.toNat, min (S.fo (fil S s)).syn n.toNat⟩ } else (cnt S).2) else S
end Dk
theorem upd_upd (fo : Nat → Dk.Fl) (f : Nat) (x y : Dk.Fl) : Dk.upd (Dk.upd fo f x) f y = Dk.upd fo f y := by
  funext k
  unfold Dk.upd
  by_cases h : k = f <;> simp [h]
theorem upd_at (fo : Nat → Dk.Fl) (f : Nat) (x : Dk.Fl) : Dk.upd fo f x f = x := by
  unfold Dk.upd
  simp
end Go.Proofs.YtppabcihbpbfpaaGreatDoor
