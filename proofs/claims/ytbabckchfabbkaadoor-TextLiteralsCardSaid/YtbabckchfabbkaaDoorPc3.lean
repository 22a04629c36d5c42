/-
  piece: all cases together; Pieces.
-/
import Derived.Test.YtbabckchfabbkaaDoorPc2
namespace Go.Proofs.YtbabckchfabbkaaDoor
open Go Go.RowKit
open Tx

theorem piece_any (s : ByteArray) (i : Nat) (w : World) (hm : i < 140737488355328) (h : i < s.size) :
    Calls Tryd.prog 30 #[.string s, .int .i64 (i : Int)] w fun e w' => e = .returned (.agg #[.int .i64 (pcR s i), .int .i64 i, .int .i64 ((Utf8.decode s i).2 : Int)]) ∧ Below w.heap.size w w' := by
  have g0 := at_get s i h
  generalize hx0 : s[i]'h = x0 at *
  have q0 := x0.toNat_lt
  have N0 := pc_none s i
  have S0 := pc_some s i
  have F0 : (fun k => at' s (i + k)) 0 = x0.toNat := g0
  have F1 : ∀ h : i + 1 < s.size, (fun k => at' s (i + k)) 1 = (s[i + 1]'h).toNat := fun h => at_get s (i + 1) h
  have F2 : ∀ h : i + 2 < s.size, (fun k => at' s (i + k)) 2 = (s[i + 2]'h).toNat := fun h => at_get s (i + 2) h
  have F3 : ∀ h : i + 3 < s.size, (fun k => at' s (i + k)) 3 = (s[i + 3]'h).toNat := fun h => at_get s (i + 3) h
  generalize (fun k => at' s (i + k)) = f at *
  have key : ∀ R N : Int, pcR s i = R ∧ ((Utf8.decode s i).2 : Int) = N → (Calls Tryd.prog 30 #[.string s, .int .i64 (i : Int)] w fun e w' => e = .returned (.agg #[.int .i64 R, .int .i64 i, .int .i64 N]) ∧ Below w.heap.size w w') →
      Calls Tryd.prog 30 #[.string s, .int .i64 (i : Int)] w fun e w' => e = .returned (.agg #[.int .i64 (pcR s i), .int .i64 i, .int .i64 ((Utf8.decode s i).2 : Int)]) ∧ Below w.heap.size w w' := by
    rintro R N ⟨rfl, rfl⟩ h
    exact h
  have nope : pcF f (s.size - i) = none → pcR s i = -1 ∧ ((Utf8.decode s i).2 : Int) = 1 := fun h => by
    obtain ⟨a, b⟩ := N0 h
    exact ⟨a, by rw [b]; rfl⟩
  have yes : ∀ (r n : Nat) (R N : Int), pcF f (s.size - i) = some (r, n) → (r : Int) = R → (n : Int) = N → pcR s i = R ∧ ((Utf8.decode s i).2 : Int) = N := fun r n R N h e1 e2 => by
    obtain ⟨a, b⟩ := S0 r n h
    rw [a, b]
    exact ⟨e1, e2⟩
  clear N0 S0 g0
  by_cases a0 : x0.toNat < 128
  · exact key _ _ (yes _ 1 _ _ (by unfold pcF; rw [F0, if_pos a0]) rfl rfl) (piece_low s i w hm h x0 hx0 a0)
  by_cases a1 : x0.toNat < 192
  · exact key _ _ (nope (by unfold pcF; rw [F0, if_neg a0, if_pos a1])) (piece_mid s i w hm h x0 hx0 (by omega) a1)
  by_cases a2 : x0.toNat < 224
  · have c0 : 192 ≤ x0.toNat := by omega
    by_cases cs : i + 2 ≤ s.size
    · have h1 : i + 1 < s.size := by omega
      have F1' := F1 h1
      generalize hx1 : s[i + 1]'h1 = x1 at *
      have q1 := x1.toNat_lt
      by_cases b1 : x1.toNat < 128
      · exact key _ _ (nope (by unfold pcF; rw [F0, if_neg a0, if_neg a1, if_pos a2]; rw [F1', if_neg (by omega)])) (piece2_bad1l s i w hm h x0 hx0 h1 x1 hx1 c0 a2 cs b1)
      by_cases d1 : 191 < x1.toNat
      · exact key _ _ (nope (by unfold pcF; rw [F0, if_neg a0, if_neg a1, if_pos a2]; rw [F1', if_neg (by omega)])) (piece2_bad1g s i w hm h x0 hx0 h1 x1 hx1 c0 a2 cs d1)
      by_cases l2 : (((x0.toNat : Int) - 192) * 64 + (x1.toNat : Int) - 128) < 128
      · exact key _ _ (nope (by unfold pcF; rw [F0, if_neg a0, if_neg a1, if_pos a2]; rw [F1', if_neg (by omega)])) (piece2_least s i w hm h x0 hx0 h1 x1 hx1 c0 a2 cs (by omega) (by omega) l2)
      exact key _ _ (yes _ 2 _ _ (by unfold pcF; rw [F0, if_neg a0, if_neg a1, if_pos a2]; rw [F1', if_pos (by omega)]) (by omega) rfl) (piece2_ok s i w hm h x0 hx0 h1 x1 hx1 c0 a2 cs (by omega) (by omega) (by omega))
    · exact key _ _ (nope (by unfold pcF; rw [F0, if_neg a0, if_neg a1, if_pos a2]; rw [if_neg (by omega)])) (piece2_short s i w hm h x0 hx0 c0 a2 (by omega))
  by_cases a3 : x0.toNat < 240
  · have c0 : 224 ≤ x0.toNat := by omega
    by_cases cs : i + 3 ≤ s.size
    · have h1 : i + 1 < s.size := by omega
      have F1' := F1 h1
      generalize hx1 : s[i + 1]'h1 = x1 at *
      have q1 := x1.toNat_lt
      by_cases b1 : x1.toNat < 128
      · exact key _ _ (nope (by unfold pcF; rw [F0, if_neg a0, if_neg a1, if_neg a2, if_pos a3]; rw [F1', if_neg (by omega)])) (piece3_bad1l s i w hm h x0 hx0 h1 x1 hx1 c0 a3 cs b1)
      by_cases d1 : 191 < x1.toNat
      · exact key _ _ (nope (by unfold pcF; rw [F0, if_neg a0, if_neg a1, if_neg a2, if_pos a3]; rw [F1', if_neg (by omega)])) (piece3_bad1g s i w hm h x0 hx0 h1 x1 hx1 c0 a3 cs d1)
      have h2 : i + 2 < s.size := by omega
      have F2' := F2 h2
      generalize hx2 : s[i + 2]'h2 = x2 at *
      have q2 := x2.toNat_lt
      by_cases b2 : x2.toNat < 128
      · exact key _ _ (nope (by unfold pcF; rw [F0, if_neg a0, if_neg a1, if_neg a2, if_pos a3]; rw [F2', if_neg (by omega)])) (piece3_bad2l s i w hm h x0 hx0 h1 x1 hx1 h2 x2 hx2 c0 a3 cs (by omega) (by omega) b2)
      by_cases d2 : 191 < x2.toNat
      · exact key _ _ (nope (by unfold pcF; rw [F0, if_neg a0, if_neg a1, if_neg a2, if_pos a3]; rw [F2', if_neg (by omega)])) (piece3_bad2g s i w hm h x0 hx0 h1 x1 hx1 h2 x2 hx2 c0 a3 cs (by omega) (by omega) d2)
      by_cases l3 : ((((x0.toNat : Int) - 224) * 64 + (x1.toNat : Int) - 128) * 64 + (x2.toNat : Int) - 128) < 2048
      · exact key _ _ (nope (by unfold pcF; rw [F0, if_neg a0, if_neg a1, if_neg a2, if_pos a3]; rw [F1', F2', if_neg (by omega)])) (piece3_least s i w hm h x0 hx0 h1 x1 hx1 h2 x2 hx2 c0 a3 cs (by omega) (by omega) (by omega) (by omega) l3)
      by_cases s1 : ((((x0.toNat : Int) - 224) * 64 + (x1.toNat : Int) - 128) * 64 + (x2.toNat : Int) - 128) < 55296
      · exact key _ _ (yes _ 3 _ _ (by unfold pcF; rw [F0, if_neg a0, if_neg a1, if_neg a2, if_pos a3]; rw [F1', F2', if_pos (by omega)]) (by omega) rfl) (piece3_ok s i w hm h x0 hx0 h1 x1 hx1 h2 x2 hx2 c0 a3 cs (by omega) (by omega) (by omega) (by omega) (by omega) s1)
      by_cases s2 : ((((x0.toNat : Int) - 224) * 64 + (x1.toNat : Int) - 128) * 64 + (x2.toNat : Int) - 128) ≤ 57343
      · exact key _ _ (nope (by unfold pcF; rw [F0, if_neg a0, if_neg a1, if_neg a2, if_pos a3]; rw [F1', F2', if_neg (by omega)])) (piece3_sur s i w hm h x0 hx0 h1 x1 hx1 h2 x2 hx2 c0 a3 cs (by omega) (by omega) (by omega) (by omega) (by omega) s2)
      exact key _ _ (yes _ 3 _ _ (by unfold pcF; rw [F0, if_neg a0, if_neg a1, if_neg a2, if_pos a3]; rw [F1', F2', if_pos (by omega)]) (by omega) rfl) (piece3_okk s i w hm h x0 hx0 h1 x1 hx1 h2 x2 hx2 c0 a3 cs (by omega) (by omega) (by omega) (by omega) (by omega))
    · exact key _ _ (nope (by unfold pcF; rw [F0, if_neg a0, if_neg a1, if_neg a2, if_pos a3]; rw [if_neg (by omega)])) (piece3_short s i w hm h x0 hx0 c0 a3 (by omega))
  by_cases a4 : x0.toNat < 248
  · have c0 : 240 ≤ x0.toNat := by omega
    by_cases cs : i + 4 ≤ s.size
    · have h1 : i + 1 < s.size := by omega
      have F1' := F1 h1
      generalize hx1 : s[i + 1]'h1 = x1 at *
      have q1 := x1.toNat_lt
      by_cases b1 : x1.toNat < 128
      · exact key _ _ (nope (by unfold pcF; rw [F0, if_neg a0, if_neg a1, if_neg a2, if_neg a3, if_pos a4]; rw [F1', if_neg (by omega)])) (piece4_bad1l s i w hm h x0 hx0 h1 x1 hx1 c0 a4 cs b1)
      by_cases d1 : 191 < x1.toNat
      · exact key _ _ (nope (by unfold pcF; rw [F0, if_neg a0, if_neg a1, if_neg a2, if_neg a3, if_pos a4]; rw [F1', if_neg (by omega)])) (piece4_bad1g s i w hm h x0 hx0 h1 x1 hx1 c0 a4 cs d1)
      have h2 : i + 2 < s.size := by omega
      have F2' := F2 h2
      generalize hx2 : s[i + 2]'h2 = x2 at *
      have q2 := x2.toNat_lt
      by_cases b2 : x2.toNat < 128
      · exact key _ _ (nope (by unfold pcF; rw [F0, if_neg a0, if_neg a1, if_neg a2, if_neg a3, if_pos a4]; rw [F2', if_neg (by omega)])) (piece4_bad2l s i w hm h x0 hx0 h1 x1 hx1 h2 x2 hx2 c0 a4 cs (by omega) (by omega) b2)
      by_cases d2 : 191 < x2.toNat
      · exact key _ _ (nope (by unfold pcF; rw [F0, if_neg a0, if_neg a1, if_neg a2, if_neg a3, if_pos a4]; rw [F2', if_neg (by omega)])) (piece4_bad2g s i w hm h x0 hx0 h1 x1 hx1 h2 x2 hx2 c0 a4 cs (by omega) (by omega) d2)
      have h3 : i + 3 < s.size := by omega
      have F3' := F3 h3
      generalize hx3 : s[i + 3]'h3 = x3 at *
      have q3 := x3.toNat_lt
      by_cases b3 : x3.toNat < 128
      · exact key _ _ (nope (by unfold pcF; rw [F0, if_neg a0, if_neg a1, if_neg a2, if_neg a3, if_pos a4]; rw [F3', if_neg (by omega)])) (piece4_bad3l s i w hm h x0 hx0 h1 x1 hx1 h2 x2 hx2 h3 x3 hx3 c0 a4 cs (by omega) (by omega) (by omega) (by omega) b3)
      by_cases d3 : 191 < x3.toNat
      · exact key _ _ (nope (by unfold pcF; rw [F0, if_neg a0, if_neg a1, if_neg a2, if_neg a3, if_pos a4]; rw [F3', if_neg (by omega)])) (piece4_bad3g s i w hm h x0 hx0 h1 x1 hx1 h2 x2 hx2 h3 x3 hx3 c0 a4 cs (by omega) (by omega) (by omega) (by omega) d3)
      by_cases l4 : (((((x0.toNat : Int) - 240) * 64 + (x1.toNat : Int) - 128) * 64 + (x2.toNat : Int) - 128) * 64 + (x3.toNat : Int) - 128) < 65536
      · exact key _ _ (nope (by unfold pcF; rw [F0, if_neg a0, if_neg a1, if_neg a2, if_neg a3, if_pos a4]; rw [F1', F2', F3', if_neg (by omega)])) (piece4_least s i w hm h x0 hx0 h1 x1 hx1 h2 x2 hx2 h3 x3 hx3 c0 a4 cs (by omega) (by omega) (by omega) (by omega) (by omega) (by omega) l4)
      by_cases s1 : (((((x0.toNat : Int) - 240) * 64 + (x1.toNat : Int) - 128) * 64 + (x2.toNat : Int) - 128) * 64 + (x3.toNat : Int) - 128) ≤ 1114111
      · exact key _ _ (yes _ 4 _ _ (by unfold pcF; rw [F0, if_neg a0, if_neg a1, if_neg a2, if_neg a3, if_pos a4]; rw [F1', F2', F3', if_pos (by omega)]) (by omega) rfl) (piece4_ok s i w hm h x0 hx0 h1 x1 hx1 h2 x2 hx2 h3 x3 hx3 c0 a4 cs (by omega) (by omega) (by omega) (by omega) (by omega) (by omega) (by omega) s1)
      exact key _ _ (nope (by unfold pcF; rw [F0, if_neg a0, if_neg a1, if_neg a2, if_neg a3, if_pos a4]; rw [F1', F2', F3', if_neg (by omega)])) (piece4_big s i w hm h x0 hx0 h1 x1 hx1 h2 x2 hx2 h3 x3 hx3 c0 a4 cs (by omega) (by omega) (by omega) (by omega) (by omega) (by omega) (by omega))
    · exact key _ _ (nope (by unfold pcF; rw [F0, if_neg a0, if_neg a1, if_neg a2, if_neg a3, if_pos a4]; rw [if_neg (by omega)])) (piece4_short s i w hm h x0 hx0 c0 a4 (by omega))
  exact key _ _ (nope (by unfold pcF; rw [F0, if_neg a0, if_neg a1, if_neg a2, if_neg a3, if_neg a4])) (piece_high s i w hm h x0 hx0 (by omega))
end Go.Proofs.YtbabckchfabbkaaDoor
