/-
  One buffer: halves.
-/
import Derived.Test.YtdoclmkldfemhaaDoorAgain1
import Derived.Deep.RegionHeld
namespace Go.Proofs.YtdoclmkldfemhaaDoor
open Go Go.RowKit Go.ChangeShapes Go.WideShapes
open Wb

theorem buf_part {w : World} {g : Nat} {l : List Nat} (h : Buf w g l) (lo n cap : Nat) (hn : lo + n ≤ l.length) (hc : n ≤ cap) (hm : cap ≤ maxLen) : Bs w (.slice (some ⟨g, lo, none⟩) n cap) ((l.drop lo).take n) := by
  have hlen : ((l.drop lo).take n).length = n := by rw [List.length_take, List.length_drop]; omega
  refine ⟨⟨some ⟨g, lo, none⟩, cap, by rw [hlen], by omega, hm, fun e => (by cases e), fun _ => ⟨g, lo, rfl, fun j hj => ?_⟩⟩, ok_take (ok_drop h.good _) _⟩
  rw [hlen] at hj
  rw [h.cell (lo + j) (by omega)]
  simp

set_option maxHeartbeats 1000000 in
theorem halves_any (g : Nat) (l : List Nat) (w : World) (hbuf : Buf w g l) (hl : l.length ≤ 400) :
    Calls Tryd.prog 18 #[.slice (some ⟨g, 0, none⟩) l.length l.length] w fun e w' => ∃ v, e = .returned v ∧ (∃ ls, ls.flatten = l ∧ Ps w' v ls) ∧ Below w.heap.size w w' := by
  have HP : Hid (∀ w', Below w.heap.size w w' → ∀ lo n cap, lo + n ≤ l.length → n ≤ cap → cap ≤ 400 → Bs w' (.slice (some ⟨g, lo, none⟩) n cap) ((l.drop lo).take n)) := fun w' hb lo n cap h1 h2 h3 => buf_part (hbuf.kept hb) lo n cap h1 h2 (by unfold maxLen; omega)
  have HF : Hid ([(l.drop 0).take (l.length / 2), (l.drop (l.length / 2)).take (l.length - l.length / 2)].flatten = l) := by
    show [(l.drop 0).take (l.length / 2), (l.drop (l.length / 2)).take (l.length - l.length / 2)].flatten = l
    rw [List.drop_zero, List.flatten_cons, List.flatten_cons, List.flatten_nil, List.append_nil, List.take_of_length_le (i := l.length - l.length / 2) (by rw [List.length_drop]; exact Nat.le_refl _), List.take_append_drop]
  clear hbuf
  obtain ⟨n, hn⟩ : ∃ n, l.length = n := ⟨_, rfl⟩
  rw [hn] at HP HF hl
  rw [hn]
  clear hn
  obtain ⟨m, hm⟩ : ∃ m, n / 2 = m := ⟨_, rfl⟩
  rw [hm] at HF
  have q1 : (n : Int) / 2 = (m : Int) := by omega
  have q2 : (n : Int).tdiv 2 = (m : Int) := by rw [Int.tdiv_eq_ediv_of_nonneg (by omega)]; exact q1
  have hm1 : m ≤ n := by omega
  by_cases h0 : n = 0
  · obtain rfl : m = 0 := by omega
    subst h0
    have HPP : Hid (∀ w', Below w.heap.size w w' → Bs w' (.slice (some ⟨g, 0, none⟩) 0 0) ((l.drop 0).take 0) ∧ Bs w' (.slice (some ⟨g, 0, none⟩) 0 0) ((l.drop 0).take (0 - 0))) := fun w' hb => ⟨HP.out w' hb 0 0 0 (by omega) (by omega) (by omega), HP.out w' hb 0 0 0 (by omega) (by omega) (by omega)⟩
    clear HP hm
    go_enter Tryd.func18, Tryd.ntmps18
    go_wp2
    go_region_held (fun _ => True) (exact trivial) (fail)
    all_goals
      go_wp2
      go_ret
      refine ⟨_, rfl, ⟨_, HF.out, ?_⟩, up (below_drewN (Below.refl _ _) _) _⟩
      first
        | exact ps2 _ _ rfl _ (HPP.out _ (below_drewN (Below.refl _ _) _)).1 (HPP.out _ (below_drewN (Below.refl _ _) _)).2
        | skip
  · have h2 : ¬ n = m := by omega
    have HPP : Hid (∀ w', Below w.heap.size w w' → Bs w' (.slice (some ⟨g, 0, none⟩) m n) ((l.drop 0).take m) ∧ Bs w' (.slice (some ⟨g, m, none⟩) (n - m) (n - m)) ((l.drop m).take (n - m))) := fun w' hb => ⟨HP.out w' hb 0 m n (by omega) (by omega) (by omega), HP.out w' hb m (n - m) (n - m) (by omega) (by omega) (by omega)⟩
    clear HP
    have hm2 : (m : Int) ≤ (n : Int) := by omega
    go_enter Tryd.func18, Tryd.ntmps18
    go_wp2
    go_region
    all_goals
      go_wp2
      go_ret
      refine ⟨_, rfl, ⟨_, HF.out, ?_⟩, by repeat (first | exact Below.refl _ _ | refine Below.drew ?_ | refine below_drewN ?_ _ | refine up ?_ _)⟩
      first
        | exact ps2 _ _ rfl _ (HPP.out _ (by repeat (first | exact Below.refl _ _ | refine Below.drew ?_))).1 (HPP.out _ (by repeat (first | exact Below.refl _ _ | refine Below.drew ?_))).2
        | exact (ps2 _ _ rfl _ (HPP.out _ (by repeat (first | exact Below.refl _ _ | refine Below.drew ?_))).1 (HPP.out _ (by repeat (first | exact Below.refl _ _ | refine Below.drew ?_))).2).kept ((Below.refl _ _).drew)
end Go.Proofs.YtdoclmkldfemhaaDoor
