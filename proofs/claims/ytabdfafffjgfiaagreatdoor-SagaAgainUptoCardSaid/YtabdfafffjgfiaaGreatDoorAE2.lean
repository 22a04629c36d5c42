import Derived.Deep.Slices
import Derived.Test.YtabdfafffjgfiaaGreatDoorAE1
namespace Go.Proofs.YtabdfafffjgfiaaGreatDoor
open Go Go.RowKit
open Wb

def RecsAt (w : World) (v : Value) (rs : List Rec) : Prop := ∃ ao cap, v = .slice ao rs.length cap ∧ rs.length ≤ maxLen ∧ ∀ k r, rs[k]? = some r → ∃ b off d, ao = some ⟨b, off, none⟩ ∧ w.rangeAt b (off + k * 12) (rcl (r, d)) ∧ Bs w d r.l
theorem RecsAt.kept {w w' : World} {v : Value} {rs : List Rec} (h : RecsAt w v rs) (hb : Below w.heap.size w w') : RecsAt w' v rs := by
 obtain ⟨ao, cap, e, hm, hc⟩ := h
 refine ⟨ao, cap, e, hm, fun k r hr => ?_⟩
 obtain ⟨b, off, d, e2, h1, h2⟩ := hc k r hr
 refine ⟨b, off, d, e2, fun j v hv => ?_, h2.kept hb⟩
 have h3 := h1 j v hv
 rw [hb.cell (World.block_lt_of_cell? w _ h3)]
 exact h3
structure RGood (rs : List Rec) : Prop where
 each : ∀ r ∈ rs, r.nm.size ≤ 1048576 ∧ r.x.fit
 few : rs.length * 120 ≤ 140737488355328
def UaPost (to : Int) (rs : List Rec) (w : World) (e : Ending) (w' : World) : Prop := Below w.heap.size w w' ∧
 ((∃ ps v', (∀ r ∈ rs, (upP to r).1 = 0) ∧ e = .returned (.tuple #[v', .int .i64 0, .int .i64 0]) ∧ Outs w.heap.size w' v' ps ∧ ps.map Prod.fst = rs.map fun r => (upP to r).2) ∨
  ∃ k r, rs[k]? = some r ∧ (∀ q ∈ rs.take k, (upP to q).1 = 0) ∧ (upP to r).1 ≠ 0 ∧ e = .returned (.tuple #[.slice none 0 0, .int .i64 (k : Int), .int .i64 (upP to r).1]))
end Go.Proofs.YtabdfafffjgfiaaGreatDoor
namespace Go.Proofs.YtabdfafffjgfiaaGreatDoor
open Go Go.RowKit Go.ChangeShapes Go.WideShapes Go.ChangeAt
open Wb

structure LGood (rs : List Rec) : Prop where
 each : ∀ r ∈ rs, r.nm.size ≤ 1048576 ∧ r.x.fit ∧ r.l.length ≤ 1048576
 few : rs.length ≤ 1048576
def IntsAt (w : World) (v : Value) (n : Nat) : Prop := ∃ ao cap, v = .slice ao n cap ∧ n ≤ 1048576 ∧ ∀ k, k < n → ∃ b off z, ao = some ⟨b, off, none⟩ ∧ w.cell? ⟨b, off + k, none⟩ = some (.int .i64 z)
theorem bulk_memr {H : Type} : ∀ {l : List (DataW H)} {d : DataW H}, d ∈ l → Rows.uptoBulk d ≤ Rows.uptoBulkAll l
 | x :: r, d, hd => by
  simp only [Rows.uptoBulkAll]
  rcases List.mem_cons.1 hd with rfl | h
  ·omega
  ·have := bulk_memr h
   omega
theorem bulk_pos {H : Type} (d : DataW H) : 1 ≤ Rows.uptoBulk d := by
 cases d with
 | lit x => cases x <;> simp [Rows.uptoBulk]
 | _ => simp [Rows.uptoBulk]
theorem bulk_count {H : Type} : ∀ l : List (DataW H), l.length ≤ Rows.uptoBulkAll l
 | [] => Nat.zero_le _
 | x :: r => by
  have := bulk_count r
  have := bulk_pos x
  simp only [Rows.uptoBulkAll, List.length_cons]
  omega
theorem listed4 {α : Type} {p : Nat → α → Prop} : ∀ n, (∀ k, k < n → ∃ a, p k a) → ∃ l : List α, l.length = n ∧ ∀ k a, l[k]? = some a → p k a
 | 0, _ => ⟨[], rfl, fun k a h => by simp at h⟩
 | n + 1, h => by
  obtain ⟨l, hl, hp⟩ := listed4 n (fun k hk => h k (by omega))
  obtain ⟨a, ha⟩ := h n (by omega)
  refine ⟨l ++ [a], by simp [hl], fun k b hb => ?_⟩
  by_cases hk : k < n
  ·rw [List.getElem?_append_left (by omega)] at hb
   exact hp k b hb
  ·rw [List.getElem?_append_right (by omega)] at hb
   obtain rfl : k = n := by
    have := (List.getElem?_eq_some_iff.1 hb).1
    simp at this
    omega
   rw [hl] at hb
   simp at hb
   exact hb ▸ ha
end Go.Proofs.YtabdfafffjgfiaaGreatDoor
