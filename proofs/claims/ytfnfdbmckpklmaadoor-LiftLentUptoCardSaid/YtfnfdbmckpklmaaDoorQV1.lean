import Derived.Test.YtfnfdbmckpklmaaDoorQA1
import Derived.Test.YtfnfdbmckpklmaaDoorQU6
import Derived.Test.YtfnfdbmckpklmaaDoorQM1
import Derived.Test.YtfnfdbmckpklmaaDoorQO2
/-
  LiftLent: both UpAlls, as values (out of Lud).
-/
namespace Go.Proofs.YtfnfdbmckpklmaaDoor
open Go Go.RowKit
open Wb

theorem recsAt_nil (w : World) : RecsAt w (.slice none 0 0) [] := ⟨none, 0, rfl, by simp [maxLen], fun k r hr => by simp at hr⟩
/-- what UpAll answers, as values -/
def UaRel (to : Int) (rs L : List Rec) (i z : Int) : Prop := ((∀ r ∈ rs, (upP to r).1 = 0) ∧ L = (rs.map fun r => (upP to r).2) ∧ i = 0 ∧ z = 0) ∨ ∃ k r, rs[k]? = some r ∧ (∀ q ∈ rs.take k, (upP to q).1 = 0) ∧ (upP to r).1 ≠ 0 ∧ L = [] ∧ i = (k : Int) ∧ z = (upP to r).1
theorem ua_one {to : Int} {rs L L' : List Rec} {i i' z z' : Int} (h : UaRel to rs L i z) (h' : UaRel to rs L' i' z') : L = L' ∧ i = i' ∧ z = z' := by
  rcases h with ⟨h1, rfl, rfl, rfl⟩ | ⟨k, r, hk, hb, hz, rfl, rfl, rfl⟩
  · rcases h' with ⟨_, rfl, rfl, rfl⟩ | ⟨k', r', hk', _, hz', _⟩
    · exact ⟨rfl, rfl, rfl⟩
    · exact absurd (h1 r' (List.mem_of_getElem? hk')) hz'
  · rcases h' with ⟨h1, _⟩ | ⟨k', r', hk', hb', hz', rfl, rfl, rfl⟩
    · exact absurd (h1 r (List.mem_of_getElem? hk)) hz
    · have : k = k' := by
        rcases Nat.lt_trichotomy k k' with h | h | h
        · exact absurd (hb' r (List.mem_of_getElem? (by rw [List.getElem?_take_of_lt h]; exact hk))) hz
        · exact h
        · exact absurd (hb r' (List.mem_of_getElem? (by rw [List.getElem?_take_of_lt h]; exact hk'))) hz'
      subst this
      obtain rfl : r = r' := Option.some.inj (hk.symm.trans hk')
      exact ⟨rfl, rfl, rfl⟩
theorem ua_post {to : Int} {rs : List Rec} {w w' : World} {e : Ending} (h : UaPost to rs w e w') : ∃ vl L i z, e = .returned (.tuple #[vl, .int .i64 i, .int .i64 z]) ∧ RecsAt w' vl L ∧ UaRel to rs L i z ∧ Below w.heap.size w w' := by
  obtain ⟨hb, ⟨ps, v', hall, he, ho, hm⟩ | ⟨k, r, hk, hbf, hz, he⟩⟩ := h
  · exact ⟨v', _, 0, 0, he, ho.recsAt, .inl ⟨hall, hm, rfl, rfl⟩, hb⟩
  · exact ⟨_, [], _, _, he, recsAt_nil _, .inr ⟨k, r, hk, hbf, hz, rfl, rfl, rfl⟩, hb⟩
/-- both UpAlls answer the same -/
def UaAns (to : Int) (rs L : List Rec) (i z : Int) : Prop := if 1 ≤ to ∧ to ≤ 3 then UaRel to rs L i z else L = [] ∧ i = 0 ∧ z = 3
theorem uaAns_one {to : Int} {rs L L' : List Rec} {i i' z z' : Int} (h : UaAns to rs L i z) (h' : UaAns to rs L' i' z') : L = L' ∧ i = i' ∧ z = z' := by
  unfold UaAns at h h'
  by_cases ht : 1 ≤ to ∧ to ≤ 3
  · rw [if_pos ht] at h h'
    exact ua_one h h'
  · rw [if_neg ht] at h h'
    obtain ⟨rfl, rfl, rfl⟩ := h
    obtain ⟨rfl, rfl, rfl⟩ := h'
    exact ⟨rfl, rfl, rfl⟩
theorem uaAns_in {to : Int} {rs L : List Rec} {i z : Int} (ht : 1 ≤ to ∧ to ≤ 3) (h : UaRel to rs L i z) : UaAns to rs L i z := by unfold UaAns; rw [if_pos ht]; exact h
theorem uaAns_out {to : Int} (rs : List Rec) (ht : ¬ (1 ≤ to ∧ to ≤ 3)) : UaAns to rs [] 0 3 := by unfold UaAns; rw [if_neg ht]; exact ⟨rfl, rfl, rfl⟩
theorem upall_ans (to : Int) (v : Value) (rs : List Rec) (w : World) (h : RecsAt w v rs) (hg : RGood rs) (hT : LTabs w) :
    Calls Tryd.prog 27 #[.int .i64 to, v] w fun e w' => ∃ vl L i z, e = .returned (.tuple #[vl, .int .i64 i, .int .i64 z]) ∧ RecsAt w' vl L ∧ UaAns to rs L i z ∧ Below w.heap.size w w' := by
  by_cases ht : 1 ≤ to ∧ to ≤ 3
  · refine (upall_any to ht v rs w h hg hT).mono fun e w' hp => ?_
    obtain ⟨vl, L, i, z, h1, h2, h3, h4⟩ := ua_post hp
    exact ⟨vl, L, i, z, h1, h2, uaAns_in ht h3, h4⟩
  · obtain ⟨ao, cap, e, _⟩ := h
    exact (upall_ver to ht v _ _ _ w e).mono fun e w' ⟨he, hb⟩ => ⟨_, [], 0, 3, he, recsAt_nil _, uaAns_out rs ht, hb⟩
theorem r4upall_ans (to : Int) (v : Value) (rs : List Rec) (w : World) (h : RecsAt w v rs) (hg : RGood rs) (hT : Tabs w) :
    Calls Tryd.prog 26 #[.int .i64 to, v] w fun e w' => ∃ vl L i z, e = .returned (.tuple #[vl, .int .i64 i, .int .i64 z]) ∧ RecsAt w' vl L ∧ UaAns to rs L i z ∧ Below w.heap.size w w' := by
  by_cases ht : 1 ≤ to ∧ to ≤ 3
  · refine (r4upall_any to ht v rs w h hg hT).mono fun e w' hp => ?_
    obtain ⟨vl, L, i, z, h1, h2, h3, h4⟩ := ua_post hp
    exact ⟨vl, L, i, z, h1, h2, uaAns_in ht h3, h4⟩
  · obtain ⟨ao, cap, e, _⟩ := h
    by_cases h1 : to < 1
    · exact (r4upall_ver_a to h1 v _ _ _ w e).mono fun e w' ⟨he, hb⟩ => ⟨_, [], 0, 3, he, recsAt_nil _, uaAns_out rs ht, hb⟩
    · exact (r4upall_ver_b to (by omega) v _ _ _ w e).mono fun e w' ⟨he, hb⟩ => ⟨_, [], 0, 3, he, recsAt_nil _, uaAns_out rs ht, hb⟩
theorem LGood.one {r : Rec} (h : r.nm.size ≤ 1048576 ∧ r.x.fit ∧ r.l.length ≤ 1048576) : LGood [r] := ⟨fun q hq => by obtain rfl := List.mem_singleton.1 hq; exact h, by simp⟩
theorem LGood.rgood {rs : List Rec} (h : LGood rs) : RGood rs := ⟨fun r hr => ⟨(h.each r hr).1, (h.each r hr).2.1⟩, by have := h.few; omega⟩
end Go.Proofs.YtfnfdbmckpklmaaDoor

/-
  LiftLent: what it calls.
-/
namespace Go.Proofs.YtfnfdbmckpklmaaDoor
open Go Go.RowKit
open Wb

theorem LGood.ogood {rs : List Rec} (h : LGood rs) : OGood rs := ⟨fun r hr => ⟨Nat.le_trans (h.each r hr).1 (by decide), (h.each r hr).2.1, Nat.le_trans (h.each r hr).2.2 (by decide)⟩, h.few⟩
theorem LTabs.etabs {w : World} (h : LTabs w) : ETabs w := ⟨⟨h.tabs.lets, h.tabs.tags⟩, h.ways⟩
/-- UpAll hands out a row of its own, with data of their own -/
theorem upall_own (to : Int) (v : Value) (rs : List Rec) (w : World) (h : RecsAt w v rs) (hg : LGood rs) (hT : LTabs w) :
    Calls Tryd.prog 27 #[.int .i64 to, v] w fun e w' => ∃ vl ps i z, e = .returned (.tuple #[vl, .int .i64 i, .int .i64 z]) ∧ Rws w.heap.size w' vl ps ∧ UaAns to rs (ps.map Prod.fst) i z ∧ Below w.heap.size w w' := by
  by_cases ht : 1 ≤ to ∧ to ≤ 3
  · refine (upall_O to ht v rs w h hg.ogood hT.etabs).mono fun e w' hp => ?_
    obtain ⟨hb, ⟨ps, v', hall, he, ho, hm⟩ | ⟨k, r, hk, hbf, hz, he⟩⟩ := hp
    · exact ⟨v', ps, 0, 0, he, ho, uaAns_in ht (.inl ⟨hall, hm, rfl, rfl⟩), hb⟩
    · exact ⟨_, [], _, _, he, Rws.nil _ _, uaAns_in ht (.inr ⟨k, r, hk, hbf, hz, rfl, rfl, rfl⟩), hb⟩
  · obtain ⟨ao, cap, e, _⟩ := h
    exact (upall_ver to ht v _ _ _ w e).mono fun e w' ⟨he, hb⟩ => ⟨_, [], 0, 3, he, Rws.nil _ _, uaAns_out rs ht, hb⟩
/-- records in a row stay where a row of another kind changes -/
theorem Rws.kind {B B' : Nat} {w w' : World} {v u : Value} {ps : List (Rec × Value)} {e' : TypeId} {s' m : Nat} {ys : List Value} (h : Rws B w v ps) (hu : w.ownsRow B' e' s' u m ys) (h1 : 24 ≠ e') (h2 : 5 ≠ e') (k : w.grownBy w' u.ownBlock) : Rws B w' v ps := by
  have own : ∀ p ∈ ps, Own B w' p.2 p.1.l := fun p hp => ⟨Mg.row_other (h.own p hp).row k (Mg.kinds_apart (h.own p hp).row hu h2), (h.own p hp).good⟩
  exact ⟨⟨Mg.row_other h.recs.1 k (Mg.kinds_apart h.recs.1 hu h1), fun p hp => ⟨(own p hp).bs, (h.recs.2 p hp).2⟩⟩, own, h.apart, h.row⟩
/-- where an answer's length comes from -/
theorem uaAns_len {to : Int} {rs L : List Rec} {i z : Int} (h : UaAns to rs L i z) : L.length ≤ rs.length := by
  unfold UaAns at h
  split at h
  · rcases h with ⟨_, rfl, _⟩ | ⟨_, _, _, _, _, rfl, _⟩
    · simp
    · simp
  · obtain ⟨rfl, _⟩ := h
    simp
/-- the mark of the i-th list of words -/
def wrd (i : Nat) : ByteArray := ⟨#[UInt8.ofNat (97 + i), 33]⟩
theorem wrd_str (w : World) (t : TypeId) (i : Nat) (hi : i < 6) : (convert 22 9 (.slice (some ⟨w.heap.size, 0, none⟩) 2 2)).run Tryd.prog (w.alloc (.cells #[.int .u8 (97 + (i : Int)), .int .u8 33] t)) = .ok (.string (wrd i)) (w.alloc (.cells #[.int .u8 (97 + (i : Int)), .int .u8 33] t)) := by
  have e : (97 + (i : Int)) = ((UInt8.ofNat (97 + i)).toNat : Int) := by
    rw [UInt8.toNat_ofNat_of_lt' (show 97 + i < 256 by omega)]
    omega
  rw [e]
  exact run_convert_bytes_back _ 22 9 5 ⟨w.heap.size, 0, none⟩ 2 [UInt8.ofNat (97 + i), 33] Tryd.underlying22 Tryd.underlying5 Tryd.underlying9 (fun j hj => by
    rw [Addr.add_lit, Nat.zero_add, World.cell?_alloc_new]
    match j, hj with
    | 0, _ => rfl
    | 1, _ => rfl)
set_option maxRecDepth 100000 in
set_option maxHeartbeats 2000000 in
theorem word_any (i : Nat) (w : World) (hi : i < 6) :
    Calls Tryd.prog 29 #[.int .i64 (i : Int)] w fun e w' => e = .returned (.string (wrd i)) ∧ Below w.heap.size w w' := by
  have hcv := fun t => wrd_str w t i hi
  generalize wrd i = s at *
  go_enter Tryd.func29, Tryd.ntmps29
  go_wp2
  go_ret
  exact ⟨rfl, up0 _ _⟩
def upN : List ByteArray := [⟨#[49, 116, 111, 50]⟩, ⟨#[50, 116, 111, 51]⟩]
def downN : List ByteArray := [⟨#[51, 116, 111, 50]⟩, ⟨#[50, 116, 111, 49]⟩]
/-- there or back -/
def wayN (b : Nat) : List ByteArray := if b = 0 then upN else downN
theorem steps_way (b : Nat) (hb : b < 2) (w : World) (hT : Lft.WaysT w) :
    Calls Tryd.prog 25 #[.int .i64 (1 + 2 * (b : Int)), .int .i64 (3 - 2 * (b : Int))] w fun e w' => ∃ o, e = .returned o ∧ Lft.RoT w.heap.size w' o (wayN b) ∧ Below w.heap.size w w' := by
  rcases (show b = 0 ∨ b = 1 by omega) with rfl | rfl
  · have h := Lft.steps_in 1 3 w hT (by decide) (by decide) (by decide) (by decide)
    have e : Lft.names (Lft.go 1 3 4).2 = wayN 0 := by decide +kernel
    rw [e] at h
    exact h
  · have h := Lft.steps_in 3 1 w hT (by decide) (by decide) (by decide) (by decide)
    have e : Lft.names (Lft.go 3 1 4).2 = wayN 1 := by decide +kernel
    rw [e] at h
    exact h
end Go.Proofs.YtfnfdbmckpklmaaDoor
