import Derived.Test.YtjhgjlnckidjkaaDoorQU6
/-
  LiftUps and its kin: what one step holds.
-/
namespace Go.Proofs.YtjhgjlnckidjkaaDoor
open Go Go.RowKit
open Wb

def markR : Rec := ⟨⟨-201, 0, 0, 0, 0, 0, 0, 0, 0, 0⟩, ⟨#[]⟩, []⟩
def mk : Rec × Value := (markR, .slice none 0 0)
/-- an Op whose record's data and whose records are others -/
def setop (w : World) (g : Nat) (r : Rec) (d v : Value) : World := (w.setCells g 1 [.int .i64 r.x.v, .int .i64 r.x.k, .int .i64 r.x.s, .int .i64 r.x.p, .int .i64 r.x.t, .int .i64 r.x.a, .int .i64 r.x.l, .int .i64 r.x.c, .int .i64 r.x.n, .int .i64 r.x.i, .string r.nm, d]).setCell ⟨g, 15, none⟩ v
theorem setop_other {w : World} {g : Nat} {r : Rec} {d v : Value} (i : Nat) (h : i ≠ g) : (setop w g r d v).heap[i]? = w.heap[i]? := by
  unfold setop
  rw [set_other _ _ _ i h, cells_other _ _ _ _ i h]
theorem setop_below {B g : Nat} {a w : World} {r : Rec} {d v : Value} (h : Below B a w) (hg : B ≤ g) : Below B a (setop w g r d v) := Below.setCell (below_cells hg _ _ _ h) (show B ≤ g from hg) _
theorem RecsAt.cut {w : World} {g n cap : Nat} {rs qs : List Rec} (h : RecsAt w (.slice (some ⟨g, 0, none⟩) n cap) (rs ++ qs)) : RecsAt w (.slice (some ⟨g, 0, none⟩) rs.length cap) rs := by
  obtain ⟨ao, cap', e, hm, hc⟩ := h
  simp only [Value.slice.injEq] at e
  obtain ⟨rfl, _, rfl⟩ := e
  rw [List.length_append] at hm
  refine ⟨_, _, rfl, by omega, fun k r hr => ?_⟩
  exact hc k r (by rw [List.getElem?_append_left (List.getElem?_eq_some_iff.1 hr).1]; exact hr)
theorem recsAt_one (w : World) (r : Rec) (cs : Array Value) (d : Value) (hcs : cs.toList = rcl (r, d)) (h : Bs w d r.l) : RecsAt (w.alloc (.cells cs 38)) (.slice (some ⟨w.heap.size, 0, none⟩) 1 1) [r] := by
  refine ⟨_, _, rfl, by simp [maxLen], fun k q hq => ?_⟩
  cases k with
  | zero =>
    obtain rfl : r = q := by simpa using hq
    refine ⟨w.heap.size, 0, d, rfl, ?_, h.alloc _⟩
    have := new_range w cs
    rw [hcs] at this
    simpa using this
  | succ k => simp at hq
theorem recsAt_nil (w : World) : RecsAt w (.slice none 0 0) [] := ⟨none, 0, rfl, by simp [maxLen], fun k r hr => by simp at hr⟩
/-- what UpAll answers, as values -/
def UaRel (to : Int) (rs L : List Rec) (i z : Int) : Prop := ((∀ r ∈ rs, (upP to r).1 = 0) ∧ L = (rs.map fun r => (upP to r).2) ∧ i = 0 ∧ z = 0) ∨ ∃ k r, rs[k]? = some r ∧ (∀ q ∈ rs.take k, (upP to q).1 = 0) ∧ (upP to r).1 ≠ 0 ∧ L = [] ∧ i = (k : Int) ∧ z = (upP to r).1
theorem ua_one {to : Int} {rs L L' : List Rec} {i i' z z' : Int} (h : UaRel to rs L i z) (h' : UaRel to rs L' i' z') : L = L' ∧ i = i' ∧ z = z' := by
  rcases h with ⟨h1, rfl, rfl, rfl⟩ | ⟨k, r, hk, hb, hz, rfl, rfl, rfl⟩
  · rcases h' with ⟨_, rfl, rfl, rfl⟩ | ⟨k', r', hk', _, hz', _⟩
    · exact ⟨rfl, rfl, rfl⟩
    · exact absurd (h1 r' (List.mem_of_getElem? hk')) hz'
  · rcases h' with ⟨h1, _⟩ | ⟨k', r', hk', hb', hz', rfl, rfl, rfl⟩
    · exact absurd (h1 r (List.mem_of_getElem? hk)) hz
    · have : k = k' := by
        rcases Nat.lt_trichotomy k k' with h | h | h
        · exact absurd (hb' r (List.mem_of_getElem? (by rw [List.getElem?_take_of_lt h]; exact hk))) hz
        · exact h
        · exact absurd (hb r' (List.mem_of_getElem? (by rw [List.getElem?_take_of_lt h]; exact hk'))) hz'
      subst this
      obtain rfl : r = r' := Option.some.inj (hk.symm.trans hk')
      exact ⟨rfl, rfl, rfl⟩
theorem ua_post {to : Int} {rs : List Rec} {w w' : World} {e : Ending} (h : UaPost to rs w e w') : ∃ vl L i z, e = .returned (.tuple #[vl, .int .i64 i, .int .i64 z]) ∧ RecsAt w' vl L ∧ UaRel to rs L i z ∧ Below w.heap.size w w' := by
  obtain ⟨hb, ⟨ps, v', hall, he, ho, hm⟩ | ⟨k, r, hk, hbf, hz, he⟩⟩ := h
  · exact ⟨v', _, 0, 0, he, ho.recsAt, .inl ⟨hall, hm, rfl, rfl⟩, hb⟩
  · exact ⟨_, [], _, _, he, recsAt_nil _, .inr ⟨k, r, hk, hbf, hz, rfl, rfl, rfl⟩, hb⟩
/-- both UpAlls answer the same -/
def UaAns (to : Int) (rs L : List Rec) (i z : Int) : Prop := if 1 ≤ to ∧ to ≤ 3 then UaRel to rs L i z else L = [] ∧ i = 0 ∧ z = 3
theorem uaAns_one {to : Int} {rs L L' : List Rec} {i i' z z' : Int} (h : UaAns to rs L i z) (h' : UaAns to rs L' i' z') : L = L' ∧ i = i' ∧ z = z' := by
  unfold UaAns at h h'
  by_cases ht : 1 ≤ to ∧ to ≤ 3
  · rw [if_pos ht] at h h'
    exact ua_one h h'
  · rw [if_neg ht] at h h'
    obtain ⟨rfl, rfl, rfl⟩ := h
    obtain ⟨rfl, rfl, rfl⟩ := h'
    exact ⟨rfl, rfl, rfl⟩
theorem uaAns_in {to : Int} {rs L : List Rec} {i z : Int} (ht : 1 ≤ to ∧ to ≤ 3) (h : UaRel to rs L i z) : UaAns to rs L i z := by unfold UaAns; rw [if_pos ht]; exact h
theorem uaAns_out {to : Int} (rs : List Rec) (ht : ¬ (1 ≤ to ∧ to ≤ 3)) : UaAns to rs [] 0 3 := by unfold UaAns; rw [if_neg ht]; exact ⟨rfl, rfl, rfl⟩
theorem upall_ans (to : Int) (v : Value) (rs : List Rec) (w : World) (h : RecsAt w v rs) (hg : RGood rs) (hT : LTabs w) :
    Calls Tryd.prog 9 #[.int .i64 to, v] w fun e w' => ∃ vl L i z, e = .returned (.tuple #[vl, .int .i64 i, .int .i64 z]) ∧ RecsAt w' vl L ∧ UaAns to rs L i z ∧ Below w.heap.size w w' := by
  by_cases ht : 1 ≤ to ∧ to ≤ 3
  · refine (upall_any to ht v rs w h hg hT).mono fun e w' hp => ?_
    obtain ⟨vl, L, i, z, h1, h2, h3, h4⟩ := ua_post hp
    exact ⟨vl, L, i, z, h1, h2, uaAns_in ht h3, h4⟩
  · obtain ⟨ao, cap, e, _⟩ := h
    exact (upall_ver to ht v _ _ _ w e).mono fun e w' ⟨he, hb⟩ => ⟨_, [], 0, 3, he, recsAt_nil _, uaAns_out rs ht, hb⟩
theorem r4upall_ans (to : Int) (v : Value) (rs : List Rec) (w : World) (h : RecsAt w v rs) (hg : RGood rs) (hT : Tabs w) :
    Calls Tryd.prog 8 #[.int .i64 to, v] w fun e w' => ∃ vl L i z, e = .returned (.tuple #[vl, .int .i64 i, .int .i64 z]) ∧ RecsAt w' vl L ∧ UaAns to rs L i z ∧ Below w.heap.size w w' := by
  by_cases ht : 1 ≤ to ∧ to ≤ 3
  · refine (r4upall_any to ht v rs w h hg hT).mono fun e w' hp => ?_
    obtain ⟨vl, L, i, z, h1, h2, h3, h4⟩ := ua_post hp
    exact ⟨vl, L, i, z, h1, h2, uaAns_in ht h3, h4⟩
  · obtain ⟨ao, cap, e, _⟩ := h
    by_cases h1 : to < 1
    · exact (r4upall_ver_a to h1 v _ _ _ w e).mono fun e w' ⟨he, hb⟩ => ⟨_, [], 0, 3, he, recsAt_nil _, uaAns_out rs ht, hb⟩
    · exact (r4upall_ver_b to (by omega) v _ _ _ w e).mono fun e w' ⟨he, hb⟩ => ⟨_, [], 0, 3, he, recsAt_nil _, uaAns_out rs ht, hb⟩
theorem LGood.one {r : Rec} (h : r.nm.size ≤ 1048576 ∧ r.x.fit ∧ r.l.length ≤ 1048576) : LGood [r] := ⟨fun q hq => by obtain rfl := List.mem_singleton.1 hq; exact h, by simp⟩
theorem LGood.rgood {rs : List Rec} (h : LGood rs) : RGood rs := ⟨fun r hr => ⟨(h.each r hr).1, (h.each r hr).2.1⟩, by have := h.few; omega⟩
end Go.Proofs.YtjhgjlnckidjkaaDoor
