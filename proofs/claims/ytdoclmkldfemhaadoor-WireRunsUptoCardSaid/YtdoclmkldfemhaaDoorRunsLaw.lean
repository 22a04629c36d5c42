/-
  WireRuns: the law's walk.
-/
import Derived.Test.YtdoclmkldfemhaaDoorUpToU
import Derived.Test.YtdoclmkldfemhaaDoorPlaysK10
import Derived.Test.YtdoclmkldfemhaaDoorRef2
namespace Go.Proofs.YtdoclmkldfemhaaDoor
open Go Go.RowKit Go.ChangeShapes Go.WideShapes
open Wb

theorem runs_kinds : ∀ (kd : Int), 10 ≤ kd → kd ≤ 10 → ∀ (b off : Nat) (u i a m : Int) (bv pv : Value) (l : List Nat) (ls : List (List Nat)) (W : World), Tab W → OpAt W b off kd u i a m bv pv l ls → l.length ≤ 1048576 →
      Calls Tryd.prog 46 #[.agg #[.int .i64 kd, .int .u64 u, .int .i64 i, .int .i64 a, .int .i64 m, bv, pv]] W fun e w' => e = .returned (.bool true) ∧ Below W.heap.size W w' := by
  intro kd h1 h2 b off u i a m bv pv l ls W hT op hll
  have hk : kd = 10 := by omega
  rcases hk with rfl
  exact plays_10 u i a m bv pv l ls W hT op.hb op.hp op.hl op.hls (by omega)

set_option maxHeartbeats 1000000 in
theorem runs_any (v : Value) (n : Nat) (w : World) (hT : Tab w) (h : ScriptU w v n) :
    Calls Tryd.prog 7 #[v] w fun e w' => e = .returned (.bool true) ∧ Below w.heap.size w w' := by
  have HS : Hid (∀ w', Below w.heap.size w w' → ScriptU w' v n) := fun w' hb => h.kept hb
  have HT : Hid (∀ w', Below w.heap.size w w' → Tab w') := fun w' hb => hT.kept hb
  obtain ⟨ao, cap, rfl, _⟩ := h
  clear hT
  go_enter Tryd.func7, Tryd.ntmps7
  go_wp2_with fail
  refine (started_any _).mono ?_
  rintro e w1 ⟨rfl, b1⟩
  go_wp2_with fail
  refine (upToU_any 10 10 _ n _ (HT.out _ b1) (HS.out _ b1) runs_kinds).mono ?_
  rintro e w2 ⟨rfl, b2⟩
  have B2 := andThen b1 b2
  clear b1 b2 HS HT
  go_wp2
  go_ret
  exact ⟨rfl, B2⟩
end Go.Proofs.YtdoclmkldfemhaaDoor
