/-
  Scripts: slices of calls; 'upTo'.
-/
import Derived.Test.YtdoclmkldfemhaaDoorPlays2
namespace Go.Proofs.YtdoclmkldfemhaaDoor
open Go Go.RowKit
open Wb

/-- one call of a script, in its seven cells -/
structure OpAt (w : World) (b off : Nat) (kd u i a m : Int) (bv pv : Value) (l : List Nat) (ls : List (List Nat)) : Prop where
  c0 : w.cell? ⟨b, off, none⟩ = some (.int .i64 kd)
  c1 : w.cell? ⟨b, off + 1, none⟩ = some (.int .u64 u)
  c2 : w.cell? ⟨b, off + 2, none⟩ = some (.int .i64 i)
  c3 : w.cell? ⟨b, off + 3, none⟩ = some (.int .i64 a)
  c4 : w.cell? ⟨b, off + 4, none⟩ = some (.int .i64 m)
  c5 : w.cell? ⟨b, off + 5, none⟩ = some bv
  c6 : w.cell? ⟨b, off + 6, none⟩ = some pv
  hb : Bs w bv l
  hp : Ps w pv ls
  hl : l.length ≤ 140737488355000
  hls : ∀ j (h : j < ls.length), ls[j].length ≤ 140737488355328
  hu : (Lit.int .u64 u).wf = true
  hi : (Lit.int .i64 i).wf = true
  ha : (Lit.int .i64 a).wf = true
  hm : (Lit.int .i64 m).wf = true
/-- a script -/
def Script (w : World) (v : Value) (n : Nat) : Prop := ∃ ao cap, v = .slice ao n cap ∧ n ≤ maxLen ∧ ∀ k, k < n → ∃ b off kd u i a m bv pv l ls, ao = some ⟨b, off, none⟩ ∧ OpAt w b (off + k * 7) kd u i a m bv pv l ls

theorem OpAt.kept {w w' : World} {b off : Nat} {kd u i a m : Int} {bv pv : Value} {l : List Nat} {ls : List (List Nat)} (h : OpAt w b off kd u i a m bv pv l ls) (hb : Below w.heap.size w w') : OpAt w' b off kd u i a m bv pv l ls := by
  have key : ∀ j x, w.cell? ⟨b, j, none⟩ = some x → w'.cell? ⟨b, j, none⟩ = some x := fun j x hx => (hb.cell (p := ⟨b, j, none⟩) (World.block_lt_of_cell? _ _ hx)).trans hx
  exact ⟨key _ _ h.c0, key _ _ h.c1, key _ _ h.c2, key _ _ h.c3, key _ _ h.c4, key _ _ h.c5, key _ _ h.c6, h.hb.kept hb, h.hp.kept hb, h.hl, h.hls, h.hu, h.hi, h.ha, h.hm⟩

theorem Script.kept {w w' : World} {v : Value} {n : Nat} (h : Script w v n) (hb : Below w.heap.size w w') : Script w' v n := by
  obtain ⟨ao, cap, e, hn, hc⟩ := h
  refine ⟨ao, cap, e, hn, fun k hk => ?_⟩
  obtain ⟨b, off, kd, u, i, a, m, bv, pv, l, ls, e2, hop⟩ := hc k hk
  exact ⟨b, off, kd, u, i, a, m, bv, pv, l, ls, e2, hop.kept hb⟩

set_option maxHeartbeats 2000000 in
theorem upTo_any (lo hi : Int) (v : Value) (n : Nat) (w : World) (hT : Tab w) (h : Script w v n)
    (hpl : ∀ (kd : Int), lo ≤ kd → kd ≤ hi → ∀ (b off : Nat) (u i a m : Int) (bv pv : Value) (l : List Nat) (ls : List (List Nat)) (W : World), Tab W → OpAt W b off kd u i a m bv pv l ls →
      Calls Tryd.prog 46 #[.agg #[.int .i64 kd, .int .u64 u, .int .i64 i, .int .i64 a, .int .i64 m, bv, pv]] W fun e w' => e = .returned (.bool true) ∧ Below W.heap.size W w') :
    Calls Tryd.prog 28 #[v, .int .i64 lo, .int .i64 hi] w fun e w' => e = .returned (.bool true) ∧ Below w.heap.size w w' := by
  obtain ⟨ao, cap, rfl, hn, hc⟩ := h
  unfold maxLen at hn
  have HC : Hid (∀ k, k < n → ∃ b off kd u i a m bv pv l ls, ao = some ⟨b, off, none⟩ ∧ OpAt w b (off + k * 7) kd u i a m bv pv l ls) := hc
  have HT : Hid (Tab w) := hT
  have HPL : Hid (∀ (kd : Int), lo ≤ kd → kd ≤ hi → ∀ (b off : Nat) (u i a m : Int) (bv pv : Value) (l : List Nat) (ls : List (List Nat)) (W : World), Tab W → OpAt W b off kd u i a m bv pv l ls →
      Calls Tryd.prog 46 #[.agg #[.int .i64 kd, .int .u64 u, .int .i64 i, .int .i64 a, .int .i64 m, bv, pv]] W fun e w' => e = .returned (.bool true) ∧ Below W.heap.size W w') := hpl
  clear hc hT hpl
  go_enter Tryd.func28, Tryd.ntmps28
  go_wp2
  go_loopw [7] (fun i wr => ∃ k : Nat, k ≤ n ∧ i = .int .i64 (k : Int) ∧ Below w.heap.size w wr) (fun i _ => n - (intOf i).toNat)
  case atStart => exact ⟨0, Nat.zero_le _, rfl, Below.refl _ _⟩
  case round =>
    obtain ⟨k, hk, rfl, hbel⟩ := hrel
    by_cases hlt : k < n
    · obtain ⟨b, off, kd, u, i, a, m, bv, pv, l, ls, rfl, hop⟩ := HC.out k hlt
      have hop' := hop.kept hbel
      have HO : Hid (OpAt wr b (off + k * 7) kd u i a m bv pv l ls) := hop'
      obtain ⟨c0, c1, c2, c3, c4, c5, c6, _, _, _, _, _, _, _, _⟩ := hop'
      clear hop HC
      by_cases hkd : lo ≤ kd ∧ kd ≤ hi
      · obtain ⟨k1, k2⟩ := hkd
        go_wp2_with fail
        clear c0 c1 c2 c3 c4 c5 c6
        have hTr : Tab wr := HT.out.kept hbel
        refine (HPL.out kd k1 k2 _ _ _ _ _ _ _ _ l ls _ hTr HO.out).mono ?_
        rintro e w2 ⟨rfl, b2⟩
        have hb2 := andThen hbel b2
        clear b2 hbel hTr HO
        go_wp2
        go_roundw
        case rel => exact ⟨k + 1, by omega, by go_num, hb2⟩
        case measure => simp [intOf]; omega
      · by_cases k1 : lo ≤ kd
        · have k2 : ¬ kd ≤ hi := fun h => hkd ⟨k1, h⟩
          go_wp2
          all_goals first | (exfalso; omega) | exact ⟨⟨k + 1, by omega, by go_num, hbel⟩, by simp [intOf]; omega⟩
        go_wp2
        all_goals first | (exfalso; omega) | exact ⟨⟨k + 1, by omega, by go_num, hbel⟩, by simp [intOf]; omega⟩
    · go_wp2
      go_ret
      exact ⟨rfl, hbel⟩
end Go.Proofs.YtdoclmkldfemhaaDoor
