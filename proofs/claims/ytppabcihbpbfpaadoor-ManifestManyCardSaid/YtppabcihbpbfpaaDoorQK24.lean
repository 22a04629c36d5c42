import Derived.Deep.RegionHeld
import Derived.Test.YtppabcihbpbfpaaDoorQK23
/-
  ManifestMany: the files, and a Sweep of them.
-/
namespace Go.Proofs.YtppabcihbpbfpaaDoor
open Go Go.RowKit Go.ChangeShapes
open Wb
open Rd
/-- the files as they lie -/
def mxs (n : Nat) : List FX := (Sw.foreignN, .slice none 0 0, []) :: (List.range n).map fun i => (Sw.sN (i + 1), .slice none 0 0, [])
theorem mxs_many (n : Nat) : (mxs n).map (fun x => (x.1, x.2.2)) = Sw.many n := by
  simp [mxs, Sw.many]
theorem mxs_succ (n : Nat) : mxs (n + 1) = mxs n ++ [(Sw.sN (n + 1), .slice none 0 0, [])] := by
  simp [mxs, List.range_succ]
theorem mxs_len (n : Nat) : (mxs n).length = n + 1 := by simp [mxs]
theorem fo_lit (w : World) (x : FX) (hx : x.2.1 = .slice none 0 0 ∧ x.2.2 = []) : FO w.heap.size (w.alloc (.cells (enF x).toArray 44)) (.slice (some ⟨w.heap.size, 0, none⟩) 1 1) [x] := by
  have L : LB (w.alloc (.cells (enF x).toArray 44)) w.heap.size 44 (enF x) := lb_new w (enF x) 44
  refine ⟨⟨rfl, .inr ⟨w.heap.size, 1, _, rfl, Nat.le_refl _, L, Nat.le_refl _, by unfold maxLen; omega, rfl, rfl⟩⟩, fun y hy => ?_⟩
  rw [List.mem_singleton.1 hy, hx.1, hx.2]
  exact Own.nil _ _
set_option maxRecDepth 100000 in
set_option maxHeartbeats 16000000 in
theorem many_any (n : Nat) (w : World) (hn : 1 ≤ n ∧ n ≤ 600) :
    Calls Tryd.prog 7 #[.int .i64 (n : Int)] w fun e w' => ∃ v, e = .returned v ∧ Fls (w.heap.size ≤ ·) w' v (Sw.many n) ∧ Below w.heap.size w w' := by
  obtain ⟨p0, hp0⟩ : ∃ p, p = w.heap.size := ⟨_, rfl⟩
  obtain ⟨W1, hW1⟩ : ∃ W, W = w.alloc (.cells #[.string ⟨#[102, 111, 114, 101, 105, 103, 110]⟩, .slice none 0 0] 44) := ⟨_, rfl⟩
  have H1 : Hid (FO w.heap.size W1 (.slice (some ⟨p0, 0, none⟩) 1 1) (mxs 0) ∧ Below w.heap.size w W1) := by
    rw [hW1, hp0]
    exact ⟨fo_lit w (Sw.foreignN, .slice none 0 0, []) ⟨rfl, rfl⟩, up0 _ _⟩
  have HW1 : Hid (w.alloc (.cells #[.string ⟨#[102, 111, 114, 101, 105, 103, 110]⟩, .slice none 0 0] 44) = W1 ∧ w.heap.size = p0) := ⟨hW1.symm, hp0.symm⟩
  clear hW1 hp0
  obtain ⟨hn1, hn2⟩ := hn
  go_enter Tryd.func7, Tryd.ntmps7
  go_upto_region 2 with fail
  rw [HW1.out.1, HW1.out.2]
  clear HW1
  go_wp2_with fail
  go_loopw [3, 4] (fun o i wx => ∃ k : Nat, k ≤ n ∧ i = .int .i64 ((k + 1 : Nat) : Int) ∧ FO w.heap.size wx o (mxs k) ∧ Below w.heap.size w wx) (fun _ i _ => n + 1 - (intOf i).toNat)
  case atStart => exact ⟨0, Nat.zero_le _, rfl, H1.out.1, H1.out.2⟩
  case round =>
    obtain ⟨k, hk, rfl, hfo, hbx⟩ := hrel
    have HX : Hid (FO w.heap.size wr u3 (mxs k) ∧ Below w.heap.size w wr) := ⟨hfo, hbx⟩
    clear hfo hbx
    by_cases hlt : k + 1 ≤ n
    · have HNM : Hid (Calls Tryd.prog 10 #[.int .i64 ((k + 1 : Nat) : Int)] wr fun e w' => e = .returned (.string ⟨(Sw.sN (k + 1)).toArray⟩) ∧ Below wr.heap.size wr w') := r8name_any _ wr
      obtain ⟨s, hs⟩ : ∃ s, s = Sw.sN (k + 1) := ⟨_, rfl⟩
      have HS : Hid (s = Sw.sN (k + 1)) := hs
      rw [← hs] at HNM
      clear hs
      go_wp2_with fail
      refine HNM.out.mono ?_
      rintro e W2 ⟨rfl, b2⟩
      have HAP : Hid (∃ o3 W3, (Builtin.append_ #[32, 32] 32 #[u3, .slice (some ⟨W2.heap.size, 0, none⟩) 1 1]).run Tryd.prog (W2.alloc (.cells #[.string ⟨s.toArray⟩, .slice none 0 0] 44)) = .ok o3 W3 ∧ FO w.heap.size W3 o3 (mxs (k + 1)) ∧ Below w.heap.size w W3) := by
        have b3 := up0 W2 (.cells #[.string ⟨s.toArray⟩, .slice none 0 0] 44)
        have L3 : LB (W2.alloc (.cells #[.string ⟨s.toArray⟩, .slice none 0 0] 44)) W2.heap.size 44 (enF (s, .slice none 0 0, [])) := lb_new W2 [.string ⟨s.toArray⟩, .slice none 0 0] 44
        obtain ⟨o3, W3, hr, f3, k3⟩ := ((HX.out.1.kept b2).kept b3).app 32 (s, .slice none 0 0, []) (Own.nil _ _) W2.heap.size 1 L3 (by rw [mxs_len]; omega) (Nat.le_trans HX.out.2.size (Nat.le_trans b2.size b3.size))
        refine ⟨o3, W3, hr, ?_, (andThen (andThen HX.out.2 b2) b3).trans k3⟩
        rw [mxs_succ, ← HS.out]
        exact f3
      clear b2 HNM
      obtain ⟨o3, W3, hr3, f3, b3⟩ := HAP.out
      have H3 : Hid (FO w.heap.size W3 o3 (mxs (k + 1)) ∧ Below w.heap.size w W3) := ⟨f3, b3⟩
      clear f3 b3
      go_wp2_with (at_builtin; refine wpList_appRun rfl (.tmp 12) (.tmp 16) 32 rfl rfl rfl hr3 ?_)
      go_roundw
      case rel => exact ⟨k + 1, by omega, by go_num, H3.out.1, H3.out.2⟩
      case measure => simp [intOf]; omega
    · have hke : k = n := by omega
      have HE : Hid (Fls (w.heap.size ≤ ·) wr u3 (Sw.many n) ∧ Below w.heap.size w wr) := by
        have h9 := HX.out.1.fls
        rw [hke, mxs_many] at h9
        exact ⟨h9, HX.out.2⟩
      clear hke
      go_wp2_with fail
      go_returns
      exact ⟨_, rfl, HE.out.1, HE.out.2⟩
end Go.Proofs.YtppabcihbpbfpaaDoor
