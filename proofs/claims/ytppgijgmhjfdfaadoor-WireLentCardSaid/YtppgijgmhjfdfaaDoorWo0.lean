/-
  WireOwn: what the lift family has ahead of filled and stand, for a seat of wire alone.
-/
import Derived.Test.YtppgijgmhjfdfaaDoorRuns
import Derived.Laws.OwnMore
import Derived.Deep.AppendLies
import Derived.Maps.AppendAt
import Derived.Deep.RegionHeldLaw
namespace Go.Proofs.YtppgijgmhjfdfaaDoor
open Go Go.RowKit
open Wb

theorem heap_new (w : World) (o : Obj) : (w.alloc o).heap[w.heap.size]? = some o := by
  show (w.heap.push o)[w.heap.size]? = _
  exact Array.getElem?_push_size
theorem heap_old (w : World) (o : Obj) (g : Nat) (h : g < w.heap.size) : (w.alloc o).heap[g]? = w.heap[g]? := by
  show (w.heap.push o)[g]? = _
  rw [Array.getElem?_push, if_neg (by omega)]
theorem heap_one (w : World) (o : Obj) : (w.alloc o).heap.size = w.heap.size + 1 := by
  show (w.heap.push o).size = _
  rw [Array.size_push]
theorem set_other (w : World) (p : Addr) (u : Value) (g : Nat) (h : g ≠ p.block) : (w.setCell p u).heap[g]? = w.heap[g]? := by
  simp only [World.setCell, Array.getElem?_modify]
  rw [if_neg (Ne.symm h)]
theorem infoBS : (Tryd.prog.info? 25).map (fun i => (i.zero, i.size, i.bytes)) = some (some (.slice none 0 0), 1, 24) := by kernel_rfl
theorem Lft.info_parts3 {P : Program} {t : TypeId} {z : Value} {a b : Nat} (h : (P.info? t).map (fun i => (i.zero, i.size, i.bytes)) = some (some z, a, b)) : ∃ i, P.info? t = some i ∧ i.zero = some z ∧ i.size = a ∧ i.bytes = b := by
  cases hq : P.info? t with
  | none => rw [hq] at h; simp at h
  | some i =>
    rw [hq] at h
    simp at h
    exact ⟨i, rfl, h.1, h.2.1, h.2.2⟩
theorem owns_kept {B : Nat} {w w' : World} {v : Value} {n s : Nat} {t : TypeId} {cs : List Value} (h : w.ownsRow B t s v n cs) (hb : Below w.heap.size w w') : w'.ownsRow B t s v n cs := by
  refine ⟨h.1, ?_⟩
  rcases h.2 with h1 | ⟨g, cap, cur, rfl, h1, hg, rest⟩
  · exact .inl h1
  · exact .inr ⟨g, cap, cur, rfl, h1, (hb.block g (Array.getElem?_eq_some_iff.1 hg).1).trans hg, rest⟩
theorem grown_below {B : Nat} {w w' : World} {v : Value} {n s : Nat} {t : TypeId} {cs : List Value} (h : w.ownsRow B t s v n cs) (hg : w.grownBy w' v.ownBlock) (hB : B ≤ w.heap.size) : Below B w w' := (Below.refl B w).grown hg hB (fun k hk => (World.ownsRow.lt h k hk).1)
theorem own_kept2 {B : Nat} {w w' : World} {d : Value} {l : List Nat} (h : Own B w d l) (hb : ∀ g, d.ownBlock = some g → w'.heap[g]? = w.heap[g]?) : Own B w' d l := by
  refine ⟨⟨h.row.1, ?_⟩, h.good⟩
  rcases h.row.2 with h1 | ⟨g, cap, cur, rfl, h1, hg, rest⟩
  · exact .inl h1
  · exact .inr ⟨g, cap, cur, rfl, h1, (hb g rfl).trans hg, rest⟩
/-- a byte of a record's data is turned -/
theorem Own.put {B : Nat} {w : World} {g n cap : Nat} {l : List Nat} (h : Own B w (.slice (some ⟨g, 0, none⟩) l.length cap) l) (k b : Nat) (_hk : k < l.length) (hb : b < 256) (_hn : n = l.length) : Own B (w.setCell ⟨g, k, none⟩ (.int .u8 (b : Int))) (.slice (some ⟨g, 0, none⟩) l.length cap) (l.set k b) := by
  have hst := (World.ownsRow.stored h.row k (.int .u8 (b : Int))).1
  have e : (bv l).set k (.int .u8 (b : Int)) = bv (l.set k b) := by unfold bv; rw [List.map_set]
  rw [e] at hst
  refine ⟨?_, fun x hx => ?_⟩
  · rw [List.length_set]
    exact hst
  · rcases List.mem_or_eq_of_mem_set hx with hx | hx
    · exact h.good x hx
    · omega
theorem rem5 (k : Nat) : Int.tmod (k : Int) 5 = ((k % 5 : Nat) : Int) := by
  rw [Int.tmod_eq_emod_of_nonneg (by omega)]
  omega
def lenV : Value → Nat
  | .slice _ n _ => n
  | _ => 0
theorem ok_rep {n a : Nat} (h : a < 256) : ok (List.replicate n a) := fun x hx => by rw [(List.mem_replicate.1 hx).2]; exact h
theorem wrap251 (i : Nat) : IntKind.wrap .u8 (251 + ((i % 5 : Nat) : Int)) = ((251 + i % 5 : Nat) : Int) := by
  have h : i % 5 < 5 := Nat.mod_lt _ (by decide)
  generalize i % 5 = m at *
  obtain rfl | rfl | rfl | rfl | rfl : m = 0 ∨ m = 1 ∨ m = 2 ∨ m = 3 ∨ m = 4 := by omega
  all_goals decide
set_option maxRecDepth 100000 in
set_option maxHeartbeats 1000000 in
theorem tail_any (i n : Nat) (w : World) (_hi : i ≤ 9000000) (hn : n ≤ 1000) :
    Calls Tryd.prog 26 #[.int .i64 (i : Int), .int .i64 (n : Int)] w fun e w' => ∃ v', e = .returned v' ∧ Own w.heap.size w' v' (List.replicate n (251 + i % 5)) ∧ Below w.heap.size w w' := by
  have hin := info5
  have e5 := rem5 i
  have e6 := wrap251 i
  have h256 : 251 + i % 5 < 256 := by omega
  generalize i % 5 = m at *
  go_enter Tryd.func26, Tryd.ntmps26
  go_wp2
  go_loopw [5] (fun v wr => ∃ k : Nat, k ≤ n ∧ Own w.heap.size wr v (List.replicate k (251 + m)) ∧ Below w.heap.size w wr) (fun v _ => n - lenV v)
  case atStart => exact ⟨0, Nat.zero_le _, Own.nil _ _, Below.refl _ _⟩
  case round =>
    obtain ⟨k, hk, hown, hbel⟩ := hrel
    obtain ⟨ak, ck, rfl, _⟩ := hown.bs.shape
    rw [List.length_replicate] at hown ⊢
    by_cases hlt : k < n
    · have HO : Hid (∀ o, Own w.heap.size (wr.alloc o) (.slice ak k ck) (List.replicate k (251 + m))) := fun o => hown.alloc o
      have HS : Hid (List.replicate (k + 1) (251 + m) = List.replicate k (251 + m) ++ [251 + m]) := List.replicate_succ'
      have hL : (List.replicate k (251 + m)).length ≤ 1000 := by rw [List.length_replicate]; omega
      have hsz := hbel.size
      generalize List.replicate k (251 + m) = l at *
      go_wp2_with (at_builtin; refine wpList_append _ rfl (.tmp 10) (.tmp 15) 25 rfl w.heap.size hin Tryd.underlying25 _ l rfl (HO.out _) _ [251 + m] rfl (Bs.one _ (251 + m) h256 _ (by go_num)) (by simp; omega) (by simp; omega) ?_)
      intro v' w' ho' hb' _
      have R : Own w.heap.size w' v' (List.replicate (k + 1) (251 + m)) ∧ Below w.heap.size w w' := ⟨by rw [HS.out]; exact ho', (hbel.alloc hsz _).trans hb'⟩
      clear ho' hb' hown HO HS
      go_wp2
      go_roundw
      case rel => exact ⟨k + 1, by omega, R.1, R.2⟩
      case measure =>
        obtain ⟨a9, c9, e9, _⟩ := R.1.bs.shape
        rw [e9]
        simp [lenV]
        omega
    · obtain rfl : k = n := by omega
      go_wp2
      go_ret
      exact ⟨_, rfl, hown, hbel⟩
theorem own_weak {B B2 : Nat} {w : World} {d : Value} {l : List Nat} (h : Own B2 w d l) (hB : B ≤ B2) : Own B w d l := by
  refine ⟨⟨h.row.1, ?_⟩, h.good⟩
  rcases h.row.2 with h1 | ⟨g, cap, cur, e, hb, rest⟩
  · exact .inl h1
  · exact .inr ⟨g, cap, cur, e, Nat.le_trans hB hb, rest⟩
end Go.Proofs.YtppgijgmhjfdfaaDoor
