/-
  Package record: readTag, readNumber.
-/
import Derived.Test.YtioghecmnggehaaDoorRcD
namespace Go.Proofs.YtioghecmnggehaaDoor
open Go Go.RowKit
open Wb

theorem set_other (w : World) (p : Addr) (u : Value) (g : Nat) (h : g ≠ p.block) : (w.setCell p u).heap[g]? = w.heap[g]? := by
  simp only [World.setCell, Array.getElem?_modify]
  rw [if_neg (Ne.symm h)]
theorem Own.set {B : Nat} {w : World} {v : Value} {l : List Nat} (h : Own B w v l) (p : Addr) (u : Value) (hp : p.block < B) : Own B (w.setCell p u) v l := by
  refine ⟨⟨h.row.1, ?_⟩, h.good⟩
  rcases h.row.2 with h1 | ⟨g, cap, cur, rfl, h1, hg, rest⟩
  · exact .inl h1
  · exact .inr ⟨g, cap, cur, rfl, h1, (set_other w p u g (by omega)).trans hg, rest⟩

def rn (b : List Nat) (p : Int) : Int × Int × Nat := if (Wn.ru b p).2.2 ≠ 0 then (0, 0, (Wn.ru b p).2.2) else if 9223372036854775807 < (Wn.ru b p).1 then (0, 0, 34) else (((Wn.ru b p).1 : Int), (Wn.ru b p).2.1, 0)
def rt (b : List Nat) (p : Int) (last : Nat) : Nat × Int × Nat := if (Wn.ru b p).2.2 ≠ 0 then (0, 0, (Wn.ru b p).2.2) else if (Wn.ru b p).1 ≤ last ∨ 11 < (Wn.ru b p).1 then (0, 0, 37) else ((Wn.ru b p).1, (Wn.ru b p).2.1, 0)
set_option maxHeartbeats 400000 in
theorem rnum_any (v : Value) (l : List Nat) (p : Int) (w : World) (h : Bs w v l) (hlen : l.length ≤ 140737488355328) :
    Calls Tryd.prog 44 #[v, .int .i64 p] w fun e w' => e = .returned (.tuple #[.int .i64 (rn l p).1, .int .i64 (rn l p).2.1, .int .i64 ((rn l p).2.2 : Int)]) ∧ w' = w := by
  have hru := readUint_any v l p w h hlen
  unfold tup3 at hru
  have HC : Hid (∃ a b c, Wn.ru l p = (a, b, c)) := ⟨_, _, _, rfl⟩
  obtain ⟨a, b, c, hR⟩ := HC.out
  have HRN : Hid (rn l p = if c ≠ 0 then (0, 0, c) else if 9223372036854775807 < a then (0, 0, 34) else ((a : Int), b, 0)) := by show _ = _; unfold rn; rw [hR]
  rw [hR] at hru
  simp only at hru
  have HRU : Hid (Calls Tryd.prog 41 #[v, .int .i64 p] w fun e w' => e = .returned (.tuple #[.int .u64 (a : Int), .int .i64 b, .int .i64 (c : Int)]) ∧ w = w') := hru
  clear hru hR HC
  obtain ⟨ao, cap, rfl, _⟩ := h.shape
  clear h
  by_cases hc : c = 0
  · subst hc
    by_cases ha : 9223372036854775807 < a
    · have HE : Hid (rn l p = (0, 0, 34)) := by show _ = _; rw [HRN.out, if_neg (by simp), if_pos ha]
      rw [HE.out]
      go_enter Tryd.func44, Tryd.ntmps44
      go_wp2_with fail
      refine HRU.out.mono ?_
      rintro e w1 ⟨rfl, rfl⟩
      go_wp2
      go_ret3
      exact ⟨rfl, rfl⟩
    · have HE : Hid (rn l p = ((a : Int), b, 0)) := by show _ = _; rw [HRN.out, if_neg (by simp), if_neg ha]
      rw [HE.out]
      go_enter Tryd.func44, Tryd.ntmps44
      go_wp2_with fail
      refine HRU.out.mono ?_
      rintro e w1 ⟨rfl, rfl⟩
      go_wp2
      go_ret3
      exact ⟨rfl, rfl⟩
  · have HE : Hid (rn l p = (0, 0, c)) := by show _ = _; rw [HRN.out, if_pos hc]
    have d1 : ((c : Int) != 0) = true := by rw [bne_iff_ne]; omega
    rw [HE.out]
    go_enter Tryd.func44, Tryd.ntmps44
    go_wp2_with fail
    refine HRU.out.mono ?_
    rintro e w1 ⟨rfl, rfl⟩
    go_wp2
    go_ret3
    exact ⟨rfl, rfl⟩
set_option maxHeartbeats 400000 in
theorem rtag_any (v : Value) (l : List Nat) (p : Int) (last : Nat) (w : World) (h : Bs w v l) (hlen : l.length ≤ 140737488355328) (hlast : last ≤ 11) :
    Calls Tryd.prog 32 #[v, .int .i64 p, .int .i64 (last : Int)] w fun e w' => e = .returned (.tuple #[.int .i64 ((rt l p last).1 : Int), .int .i64 (rt l p last).2.1, .int .i64 ((rt l p last).2.2 : Int)]) ∧ w' = w := by
  have hru := readUint_any v l p w h hlen
  unfold tup3 at hru
  have HC : Hid (∃ a b c, Wn.ru l p = (a, b, c)) := ⟨_, _, _, rfl⟩
  obtain ⟨a, b, c, hR⟩ := HC.out
  have HRN : Hid (rt l p last = if c ≠ 0 then (0, 0, c) else if a ≤ last ∨ 11 < a then (0, 0, 37) else (a, b, 0)) := by show _ = _; unfold rt; rw [hR]
  rw [hR] at hru
  simp only at hru
  have HRU : Hid (Calls Tryd.prog 41 #[v, .int .i64 p] w fun e w' => e = .returned (.tuple #[.int .u64 (a : Int), .int .i64 b, .int .i64 (c : Int)]) ∧ w = w') := hru
  clear hru hR HC
  obtain ⟨ao, cap, rfl, _⟩ := h.shape
  clear h
  by_cases hc : c = 0
  · subst hc
    by_cases ha : a ≤ last
    · have HE : Hid (rt l p last = (0, 0, 37)) := by show _ = _; rw [HRN.out, if_neg (by simp), if_pos (.inl ha)]
      rw [HE.out]
      go_enter Tryd.func32, Tryd.ntmps32
      go_wp2_with fail
      refine HRU.out.mono ?_
      rintro e w1 ⟨rfl, rfl⟩
      go_wp2
      go_ret3
      exact ⟨rfl, rfl⟩
    · by_cases hb : 11 < a
      · have HE : Hid (rt l p last = (0, 0, 37)) := by show _ = _; rw [HRN.out, if_neg (by simp), if_pos (.inr hb)]
        rw [HE.out]
        go_enter Tryd.func32, Tryd.ntmps32
        go_wp2_with fail
        refine HRU.out.mono ?_
        rintro e w1 ⟨rfl, rfl⟩
        go_wp2
        go_ret3
        exact ⟨rfl, rfl⟩
      · have HE : Hid (rt l p last = (a, b, 0)) := by show _ = _; rw [HRN.out, if_neg (by simp), if_neg (by omega)]
        rw [HE.out]
        go_enter Tryd.func32, Tryd.ntmps32
        go_wp2_with fail
        refine HRU.out.mono ?_
        rintro e w1 ⟨rfl, rfl⟩
        go_wp2
        go_ret3
        exact ⟨rfl, rfl⟩
  · have HE : Hid (rt l p last = (0, 0, c)) := by show _ = _; rw [HRN.out, if_pos hc]
    have d1 : ((c : Int) != 0) = true := by rw [bne_iff_ne]; omega
    rw [HE.out]
    go_enter Tryd.func32, Tryd.ntmps32
    go_wp2_with fail
    refine HRU.out.mono ?_
    rintro e w1 ⟨rfl, rfl⟩
    go_wp2
    go_ret3
    exact ⟨rfl, rfl⟩
end Go.Proofs.YtioghecmnggehaaDoor
