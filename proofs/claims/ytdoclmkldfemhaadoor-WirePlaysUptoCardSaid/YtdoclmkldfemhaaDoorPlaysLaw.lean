/-
  WirePlays: the law's walk.
-/
import Derived.Test.YtdoclmkldfemhaaDoorUpToU
import Derived.Test.YtdoclmkldfemhaaDoorNums
import Derived.Test.YtdoclmkldfemhaaDoorStrs
import Derived.Test.YtdoclmkldfemhaaDoorStr8
import Derived.Test.YtdoclmkldfemhaaDoorPlaysK1
import Derived.Test.YtdoclmkldfemhaaDoorPlaysK2
import Derived.Test.YtdoclmkldfemhaaDoorPlaysK3
import Derived.Test.YtdoclmkldfemhaaDoorPlaysK4
import Derived.Test.YtdoclmkldfemhaaDoorPlaysK5
import Derived.Test.YtdoclmkldfemhaaDoorPlaysK6
import Derived.Test.YtdoclmkldfemhaaDoorPlaysK7
import Derived.Test.YtdoclmkldfemhaaDoorPlaysK8
import Derived.Test.YtdoclmkldfemhaaDoorPlaysK9
import Derived.Test.YtdoclmkldfemhaaDoorPlaysK10
import Derived.Test.YtdoclmkldfemhaaDoorRef2
namespace Go.Proofs.YtdoclmkldfemhaaDoor
open Go Go.RowKit Go.ChangeShapes Go.WideShapes
open Wb

theorem plays_kinds : ∀ (kd : Int), 1 ≤ kd → kd ≤ 10 → ∀ (b off : Nat) (u i a m : Int) (bv pv : Value) (l : List Nat) (ls : List (List Nat)) (W : World), Tab W → OpAt W b off kd u i a m bv pv l ls → l.length ≤ 1048576 →
      Calls Tryd.prog 46 #[.agg #[.int .i64 kd, .int .u64 u, .int .i64 i, .int .i64 a, .int .i64 m, bv, pv]] W fun e w' => e = .returned (.bool true) ∧ Below W.heap.size W w' := by
  intro kd h1 h2 b off u i a m bv pv l ls W hT op hll
  have hk : kd = 1 ∨ kd = 2 ∨ kd = 3 ∨ kd = 4 ∨ kd = 5 ∨ kd = 6 ∨ kd = 7 ∨ kd = 8 ∨ kd = 9 ∨ kd = 10 := by omega
  rcases hk with rfl | rfl | rfl | rfl | rfl | rfl | rfl | rfl | rfl | rfl
  · exact plays_1 u i a m bv pv l ls W hT op.hb op.hp op.hl op.hls (fun W' bv' pv' _ _ _ _ => numbers_1 u i a m bv' pv' W' op.hu)
  · exact plays_2 u i a m bv pv l ls W hT op.hb op.hp op.hl op.hls (fun W' bv' pv' _ hb _ _ => numbers_2 u i a m bv' pv' l W' hb (Nat.le_trans op.hl (by decide)))
  · exact plays_3 u i a m bv pv l ls W hT op.hb op.hp op.hl op.hls (fun W' bv' pv' _ _ _ _ => numbers_3 u i a m bv' pv' W' op.hi)
  · exact plays_4 u i a m bv pv l ls W hT op.hb op.hp op.hl op.hls (fun W' bv' pv' _ hb _ _ => numbers_4 u i a m bv' pv' l W' hb (Nat.le_trans op.hl (by decide)))
  · exact plays_5 u i a m bv pv l ls W hT op.hb op.hp op.hl op.hls (fun W' bv' pv' _ hb _ _ => stretches_5 u i a m bv' pv' l W' hb op.hl)
  · exact plays_6 u i a m bv pv l ls W hT op.hb op.hp op.hl op.hls (fun W' bv' pv' _ hb _ _ => stretches_6 u i a m bv' pv' l W' hb (Nat.le_trans op.hl (by decide)) (bounds_i64 op.hm).2)
  · exact plays_7 u i a m bv pv l ls W hT op.hb op.hp op.hl op.hls (fun W' bv' pv' hT' _ hp hf => stretches_7 u i a m bv' pv' ls W' hT' hp (Nat.le_trans hf (by decide)))
  · exact plays_8 u i a m bv pv l ls W hT op.hb op.hp op.hl op.hls (fun W' bv' pv' hT' _ hp hf => stretches_8 u i a m bv' pv' ls W' hT' hp (Nat.le_trans hf (by decide)))
  · exact plays_9 u i a m bv pv l ls W hT op.hb op.hp op.hl op.hls
  · exact plays_10 u i a m bv pv l ls W hT op.hb op.hp op.hl op.hls (by omega)

set_option maxHeartbeats 1000000 in
theorem plays_any (v : Value) (n : Nat) (w : World) (hT : Tab w) (h : ScriptU w v n) :
    Calls Tryd.prog 8 #[v] w fun e w' => e = .returned (.bool true) ∧ Below w.heap.size w w' := by
  have HS : Hid (∀ w', Below w.heap.size w w' → ScriptU w' v n) := fun w' hb => h.kept hb
  have HT : Hid (∀ w', Below w.heap.size w w' → Tab w') := fun w' hb => hT.kept hb
  obtain ⟨ao, cap, rfl, _⟩ := h
  clear hT
  go_enter Tryd.func8, Tryd.ntmps8
  go_wp2_with fail
  refine (started_any _).mono ?_
  rintro e w1 ⟨rfl, b1⟩
  go_wp2_with fail
  refine (upToU_any 1 10 _ n _ (HT.out _ b1) (HS.out _ b1) plays_kinds).mono ?_
  rintro e w2 ⟨rfl, b2⟩
  have B2 := andThen b1 b2
  clear b1 b2 HS HT
  go_wp2
  go_ret
  exact ⟨rfl, B2⟩
end Go.Proofs.YtdoclmkldfemhaaDoor
