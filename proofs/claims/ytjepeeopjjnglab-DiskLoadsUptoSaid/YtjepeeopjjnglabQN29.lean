import Derived.Test.YtjepeeopjjnglabQN28
/-
  The laws' own functions: first.
-/
namespace Go.Proofs.Ytjepeeopjjnglab
open Go Go.RowKit Go.ChangeShapes
open Wb
open Rd
/-- a pair in its box -/
structure FS (B N : Nat) (K : Nat → Prop) (W : World) (p g : Nat) (S : Dk.DS) (M : Mm) (R : RS) (y : PVal) : Prop where
  pm : PM B N K W g S M R (pvw y)
  pa : y.pa = some ⟨g, 0, none⟩
  box : LB W p 56 (pvc y)
  nf : ¬ Ft g S M p
  nk : ¬ K p
  kb : ∀ q, K q → B ≤ q
section
variable {B N N' L p g g' : Nat} {K K' : Nat → Prop} {W w w' : World} {S S' : Dk.DS} {M M' : Mm} {R R' : RS} {v v' : Value} {y y' : PVal}
theorem Rd.PM.far (h : PM B N K w g S M R v) (hf : ¬ Ft g S M p) (hk : ¬ K p) (r : List Value) (i : Nat) : PM B N K (putAll w p i r) g S M R v :=
  ⟨h.dm.blk fun q hq => putAll_far (fun e => hf (by rw [← e]; exact hq)) r w i, h.rd.blk fun q hq _ => putAll_far (fun e => hk (by rw [← e]; exact hq)) r w i, h.sy, fun q hq => by rw [putAll_size]; exact h.lt q hq, h.ap⟩
theorem Rd.PM.low {B2 : Nat} (h : PM B N K w g S M R v) (hB : B2 ≤ B) : PM B2 N K w g S M R v := ⟨DM.low h.dm hB, h.rd, h.sy, h.lt, h.ap⟩
theorem FS.kept (h : FS B N K W p g S M R y) (hb : Below W.heap.size W w') : FS B N K w' p g S M R y := ⟨h.pm.kept hb, h.pa, h.box.kept hb, h.nf, h.nk, h.kb⟩
theorem FS.mono (h : FS B N K W p g S M R y) (hN : N ≤ N') : FS B N' K W p g S M R y := ⟨h.pm.mono hN, h.pa, h.box, h.nf, h.nk, h.kb⟩
theorem FS.step (h : FS B N K W p g S M R y) (hy : y'.pa = some ⟨g', 0, none⟩) (pt : PT B N' K W W.heap.size g S M w' g' S' M' R' (pvw y') K') : LB w' p 56 (pvc y) ∧ FS B N' K' (putAll w' p 0 (pvc y')) p g' S' M' R' y' := by
  have hl := h.box.lt
  have hb : LB w' p 56 (pvc y) := (pt.fr.block p hl h.nf).trans h.box
  have hf : ¬ Ft g' S' M' p := fun e => by
    rcases pt.fl p e with e2 | e2
    · exact h.nf e2
    · omega
  have hk : ¬ K' p := fun e => by
    rcases pt.kl p e with e2 | e2
    · exact h.nk e2
    · omega
  exact ⟨hb, pt.pm.far hf hk _ _, hy, putAll_lb _ hb rfl, hf, hk, fun q e => by
    rcases pt.kl q e with e2 | e2
    · exact h.kb q e2
    · have h1 := h.pm.dm.gB
      have h2 := h.pm.dm.box.lt
      omega⟩
/-- a step on a pair in its box -/
theorem fs_step (o : Rop) (h : FS B N K W p g S M R y) (hB : B ≤ W.heap.size) (hN : 1048576 ≤ N ∧ N ≤ 90000000) (hok : OpF W o) (hold : o.data ≠ [] → ∀ q z, o.da = some ⟨q, z, none⟩ → ¬ Ft g S M q) :
    Calls Try.prog 46 #[pvv y, opv o] W fun e w' => ∃ g' S' M' R' K' yq ya1 yn1 yc1 ya2 yn2 yc2 ya3 yn3 yc3 ya4 yn4 yc4 yl yd, e = .returned (.tuple #[.agg #[.pointer (some ⟨g', 0, none⟩), .int .i64 yq, .slice ya1 yn1 yc1, .slice ya2 yn2 yc2, .slice ya3 yn3 yc3, .slice ya4 yn4 yc4, .int .i64 yl, .bool yd], .bool true]) ∧ PT B (N + 1) K W W.heap.size g S M w' g' S' M' R' (.agg #[.int .i64 yq, .slice ya1 yn1 yc1, .slice ya2 yn2 yc2, .slice ya3 yn3 yc3, .slice ya4 yn4 yc4, .int .i64 yl, .bool yd]) K' := (dlstep_any B N K g S M R y o W h.pm h.pa hB hN hok hold).mono fun e w' ⟨z, g', S', M', R', K', h1, h2, h3⟩ => by
  obtain ⟨pa, yq, ya1, yn1, yc1, ya2, yn2, yc2, ya3, yn3, yc3, ya4, yn4, yc4, yl, yd⟩ := z
  have hpa : pa = some ⟨g', 0, none⟩ := h2
  subst hpa
  exact ⟨g', S', M', R', K', _, _, _, _, _, _, _, _, _, _, _, _, _, _, _, h1, h3⟩
end
theorem bs_two (w : World) : Bs (w.alloc (.cells #[.int .u8 1, .int .u8 2] 5)) (.slice (some ⟨w.heap.size, 0, none⟩) 2 2) [1, 2] := by
  have h := lb_new w [.int .u8 1, .int .u8 2] 5
  refine ⟨⟨_, 2, rfl, by decide, by unfold maxLen; omega, (fun e => by cases e), fun _ => ⟨_, 0, rfl, fun j hj => ?_⟩⟩, fun x hx => ?_⟩
  · have hj2 : j = 0 ∨ j = 1 := by
      have : j < 2 := hj
      omega
    rcases hj2 with rfl | rfl
    · exact h.cell 0 _ rfl
    · exact h.cell 1 _ rfl
  · simp at hx
    rcases hx with rfl | rfl <;> decide
theorem lb_kept9 {w W : World} {p B : Nat} {t : TypeId} {cs : List Value} (h : LB w p t cs) (hb : Below B w W) (hp : p < B) : LB W p t cs := (hb.block p hp).trans h
/-- what first hands back -/
def FiQ (w : World) (e : Ending) (w' : World) : Prop := Below w.heap.size w w' ∧ ∃ g S M R K y, e = .returned (.tuple #[pvv y, .bool true]) ∧ y.pa = some ⟨g, 0, none⟩ ∧ PM w.heap.size 1048579 K w' g S M R (pvw y) ∧ ∀ q, K q → w.heap.size ≤ q
theorem first_fin {w W2 W10 : World} {B p2 p4 g : Nat} {K : Nat → Prop} {S : Dk.DS} {M : Mm} {R : RS} {y : PVal} {r : List Value} (_hB : B ≤ W2.heap.size) (hp : p2 < B) (h : FS B 1048579 K W10 p4 g S M R y) (_hb : Below B W2 W10) (h2 : w.heap.size ≤ p2) (hw : Below w.heap.size w W2) (_hr : r = r) : FiQ w (.returned (.tuple #[pvv y, .bool true])) (putAll W10 p2 0 r) := by
  obtain ⟨pa, yq, ya1, yn1, yc1, ya2, yn2, yc2, ya3, yn3, yc3, ya4, yn4, yc4, yl, yd⟩ := y
  refine ⟨putAll_bel (hw.trans (_hb.mono (by omega))) h2 _ _, g, S, M, R, K, _, rfl, h.pa, (h.pm.far (fun e => ?_) (fun e => ?_) r 0).low (by omega), fun q e => ?_⟩
  · have := (h.pm.dm.ft e).1
    omega
  · have := h.kb _ e
    omega
  · have := h.kb _ e
    omega
set_option maxRecDepth 100000 in
set_option maxHeartbeats 64000000 in
theorem dlfirst_any (q : Int) (w : World) : Calls Try.prog 20 #[.int .i64 q] w fun e w' => FiQ w e w' := by
  obtain ⟨W2, hW2⟩ : ∃ W, W = w.alloc (.cells #[.pointer none, .int .i64 0, .slice none 0 0, .slice none 0 0, .slice none 0 0, .slice none 0 0, .int .i64 0, .bool false] 56) := ⟨_, rfl⟩
  obtain ⟨p2, hp2⟩ : ∃ p, p = w.heap.size := ⟨_, rfl⟩
  obtain ⟨B, hB⟩ : ∃ B, B = W2.heap.size := ⟨_, rfl⟩
  have hl2 : LB W2 p2 56 [.pointer none, .int .i64 0, .slice none 0 0, .slice none 0 0, .slice none 0 0, .slice none 0 0, .int .i64 0, .bool false] := by
    rw [hW2, hp2]
    exact lb_new w [.pointer none, .int .i64 0, .slice none 0 0, .slice none 0 0, .slice none 0 0, .slice none 0 0, .int .i64 0, .bool false] 56
  have HL2 : Hid (p2 < B ∧ LB W2 p2 56 [.pointer none, .int .i64 0, .slice none 0 0, .slice none 0 0, .slice none 0 0, .slice none 0 0, .int .i64 0, .bool false]) := ⟨by rw [hB]; exact hl2.lt, hl2⟩
  have HB2 : Hid (w.heap.size ≤ p2 ∧ Below w.heap.size w W2) := ⟨by omega, by rw [hW2]; exact up0 _ _⟩
  have HSB : Hid (B ≤ W2.heap.size) := Nat.le_of_eq hB
  have HBE : Hid (∀ {W}, Below W2.heap.size W2 W → Below B W2 W) := fun h => by rw [hB]; exact h
  have HW2 : Hid (w.alloc (.cells #[.pointer none, .int .i64 0, .slice none 0 0, .slice none 0 0, .slice none 0 0, .slice none 0 0, .int .i64 0, .bool false] 56) = W2 ∧ w.heap.size = p2) := ⟨hW2.symm, hp2.symm⟩
  have HLD : Hid (∀ Q : Int, 16 ≤ Q ∧ Q ≤ 4194304 → Calls Try.prog 23 #[.agg #[.pointer none, .int .i64 0, .slice none 0 0, .slice none 0 0, .slice none 0 0, .slice none 0 0, .int .i64 0, .bool false], .int .i64 Q, .slice none 0 0, .bool true] W2 fun e w' => ∃ g0 S0 M0 R0 K0 aq aa1 an1 ac1 aa2 an2 ac2 aa3 an3 ac3 aa4 an4 ac4 al ad, e = .returned (.tuple #[.agg #[.pointer (some ⟨g0, 0, none⟩), .int .i64 aq, .slice aa1 an1 ac1, .slice aa2 an2 ac2, .slice aa3 an3 ac3, .slice aa4 an4 ac4, .int .i64 al, .bool ad], .bool true]) ∧ PM B 1048576 K0 w' g0 S0 M0 R0 (.agg #[.int .i64 aq, .slice aa1 an1 ac1, .slice aa2 an2 ac2, .slice aa3 an3 ac3, .slice aa4 an4 ac4, .int .i64 al, .bool ad]) ∧ (∀ q, K0 q → B ≤ q) ∧ Below W2.heap.size W2 w') := fun Q hQ => (dlloaded_any (fun _ => True) ⟨none, 0, none, 0, 0, none, 0, 0, none, 0, 0, none, 0, 0, 0, false⟩ Q _ [] true W2 (fls_nil W2) (fun _ => rfl) (Nat.zero_le _) (fun x hx => by cases hx) (Nat.zero_le _)).mono fun e w' ⟨h1, h2⟩ => by
    rcases h2 with ⟨h2, -⟩ | ⟨-, g, S, M, y, K, h3, h4, h5, h6⟩
    · refine absurd ?_ h2
      unfold rldE
      rw [if_neg (by omega)]
      show (if (0 : Int) ≠ 0 then 0 else if ((0 : Nat) : Int) > Q then 64 else 0) = (0 : Int)
      rw [if_neg (by omega), if_neg (by omega)]
    · obtain ⟨pa, aq, aa1, an1, ac1, aa2, an2, ac2, aa3, an3, ac3, aa4, an4, ac4, al, ad⟩ := y
      have hpa : pa = some ⟨g, 0, none⟩ := h4
      subst hpa
      rw [hB]
      exact ⟨g, S, M, _, K, _, _, _, _, _, _, _, _, _, _, _, _, _, _, _, h3, h5.mono (Nat.zero_le _), h6, h1⟩
  clear hl2 hW2 hp2 hB
  go_enter Try.func20, Try.ntmps20
  go_upto_region 1 with fail
  rw [HW2.out.1, HW2.out.2]
  by_cases h1 : q < 16
  · have t1 : (q < 16) = True := eq_true h1
    have hQ : 16 ≤ (64 : Int) ∧ (64 : Int) ≤ 4194304 := by decide
    clear h1
    go_wp2_with fail
    refine (HLD.out _ hQ).mono ?_
    rintro e W3 ⟨g0, S0, M0, R0, K0, aq, aa1, an1, ac1, aa2, an2, ac2, aa3, an3, ac3, aa4, an4, ac4, al, ad, rfl, m3, k3, b3⟩
    obtain ⟨p4, hp4⟩ : ∃ p, p = W3.heap.size := ⟨_, rfl⟩
    obtain ⟨W4, hW4⟩ : ∃ W, W = W3.alloc (.cells #[.pointer (some ⟨g0, 0, none⟩), .int .i64 aq, .slice aa1 an1 ac1, .slice aa2 an2 ac2, .slice aa3 an3 ac3, .slice aa4 an4 ac4, .int .i64 al, .bool ad] 56) := ⟨_, rfl⟩
    have HF0 : Hid (FS B 1048576 K0 W4 p4 g0 S0 M0 R0 ⟨some ⟨g0, 0, none⟩, aq, aa1, an1, ac1, aa2, an2, ac2, aa3, an3, ac3, aa4, an4, ac4, al, ad⟩ ∧ Below B W2 W4) := by
      rw [hW4, hp4]
      exact ⟨⟨m3.kept (up0 _ _), rfl, lb_new W3 [.pointer (some ⟨g0, 0, none⟩), .int .i64 aq, .slice aa1 an1 ac1, .slice aa2 an2 ac2, .slice aa3 an3 ac3, .slice aa4 an4 ac4, .int .i64 al, .bool ad] 56, fun e => by have := (m3.dm.ft e).2; omega, fun e => by have := m3.lt _ e; omega, k3⟩, HBE.out (andThen b3 (up0 _ _))⟩
    have HPB : Hid (B ≤ p4) := by
      have := b3.size
      have := HSB.out
      show B ≤ p4
      omega
    have HW4 : Hid (W3.alloc (.cells #[.pointer (some ⟨g0, 0, none⟩), .int .i64 aq, .slice aa1 an1 ac1, .slice aa2 an2 ac2, .slice aa3 an3 ac3, .slice aa4 an4 ac4, .int .i64 al, .bool ad] 56) = W4 ∧ W3.heap.size = p4) := ⟨hW4.symm, hp4.symm⟩
    clear hW4 hp4 m3 k3 b3
    go_upto_region 4 with fail
    rw [HW4.out.1, HW4.out.2]
    have l0 := HF0.out.1.box
    have d0 := l0.cell 0 _ rfl
    have d1 := l0.cell 1 _ rfl
    have d2 := l0.cell 2 _ rfl
    have d3 := l0.cell 3 _ rfl
    have d4 := l0.cell 4 _ rfl
    have d5 := l0.cell 5 _ rfl
    have d6 := l0.cell 6 _ rfl
    have d7 := l0.cell 7 _ rfl
    clear l0
    have HS1 : Hid (Calls Try.prog 46 #[.agg #[.pointer (some ⟨g0, 0, none⟩), .int .i64 aq, .slice aa1 an1 ac1, .slice aa2 an2 ac2, .slice aa3 an3 ac3, .slice aa4 an4 ac4, .int .i64 al, .bool ad], .agg #[.int .i64 1, .bool false, .string ⟨#[122]⟩, .string ⟨#[]⟩, .int .i64 0, .slice none 0 0, .slice none 0 0, .slice none 0 0]] W4 fun e w' => ∃ g1 S1 M1 R1 K1 bq ba1 bn1 bc1 ba2 bn2 bc2 ba3 bn3 bc3 ba4 bn4 bc4 bl bd, e = .returned (.tuple #[.agg #[.pointer (some ⟨g1, 0, none⟩), .int .i64 bq, .slice ba1 bn1 bc1, .slice ba2 bn2 bc2, .slice ba3 bn3 bc3, .slice ba4 bn4 bc4, .int .i64 bl, .bool bd], .bool true]) ∧ LB w' p4 56 [.pointer (some ⟨g0, 0, none⟩), .int .i64 aq, .slice aa1 an1 ac1, .slice aa2 an2 ac2, .slice aa3 an3 ac3, .slice aa4 an4 ac4, .int .i64 al, .bool ad] ∧ FS B 1048577 K1 (putAll w' p4 0 [.pointer (some ⟨g1, 0, none⟩), .int .i64 bq, .slice ba1 bn1 bc1, .slice ba2 bn2 bc2, .slice ba3 bn3 bc3, .slice ba4 bn4 bc4, .int .i64 bl, .bool bd]) p4 g1 S1 M1 R1 ⟨some ⟨g1, 0, none⟩, bq, ba1, bn1, bc1, ba2, bn2, bc2, ba3, bn3, bc3, ba4, bn4, bc4, bl, bd⟩ ∧ Below B W2 (putAll w' p4 0 [.pointer (some ⟨g1, 0, none⟩), .int .i64 bq, .slice ba1 bn1 bc1, .slice ba2 bn2 bc2, .slice ba3 bn3 bc3, .slice ba4 bn4 bc4, .int .i64 bl, .bool bd])) := (fs_step ⟨1, false, ⟨#[122]⟩, ⟨#[]⟩, 0, none, 0, [], none, 0, [], none, 0, 0⟩ HF0.out.1 (Nat.le_trans HSB.out (HF0.out.2).size) (by omega) ⟨⟨⟨by decide, by decide⟩, Bs.nil _, cts_nil _, by decide⟩, by decide, by decide, [], fls_nil _, Nat.zero_le _, (fun x hx => by cases hx), Nat.zero_le _⟩ (fun h => absurd rfl h)).mono fun e w' ⟨g', S', M', R', K', bq, ba1, bn1, bc1, ba2, bn2, bc2, ba3, bn3, bc3, ba4, bn4, bc4, bl, bd, h1, h2⟩ => by
      obtain ⟨h3, h4⟩ := (HF0.out.1).step (y' := ⟨some ⟨g', 0, none⟩, bq, ba1, bn1, bc1, ba2, bn2, bc2, ba3, bn3, bc3, ba4, bn4, bc4, bl, bd⟩) rfl h2
      exact ⟨g', S', M', R', K', _, _, _, _, _, _, _, _, _, _, _, _, _, _, _, h1, h3, h4, putAll_bel (HF0.out.2.trans (h2.fr.below B (Nat.le_trans HSB.out (HF0.out.2).size) fun q hq => ((HF0.out.1).pm.dm.ft hq).1)) HPB.out _ _⟩
    go_wp2_with fail
    refine HS1.out.mono ?_
    rintro e w1 ⟨g1, S1, M1, R1, K1, bq, ba1, bn1, bc1, ba2, bn2, bc2, ba3, bn3, bc3, ba4, bn4, bc4, bl, bd, rfl, l1, f1, b1⟩
    clear d0 d1 d2 d3 d4 d5 d6 d7
    have d0 := l1.cell 0 _ rfl
    have d1 := l1.cell 1 _ rfl
    have d2 := l1.cell 2 _ rfl
    have d3 := l1.cell 3 _ rfl
    have d4 := l1.cell 4 _ rfl
    have d5 := l1.cell 5 _ rfl
    have d6 := l1.cell 6 _ rfl
    have d7 := l1.cell 7 _ rfl
    have u0 := l1.free 0
    have u1 := l1.free 1
    have u2 := l1.free 2
    have u3 := l1.free 3
    have u4 := l1.free 4
    have u5 := l1.free 5
    have u6 := l1.free 6
    have u7 := l1.free 7
    clear l1
    obtain ⟨W6, hWn⟩ : ∃ W, W = putAll w1 p4 0 [.pointer (some ⟨g1, 0, none⟩), .int .i64 bq, .slice ba1 bn1 bc1, .slice ba2 bn2 bc2, .slice ba3 bn3 bc3, .slice ba4 bn4 bc4, .int .i64 bl, .bool bd] := ⟨_, rfl⟩
    have HW1 : Hid (((((((((w1.setCell ⟨p4, 0, none⟩ (.pointer (some ⟨g1, 0, none⟩))).setCell ⟨p4, 1, none⟩ (.int .i64 bq)).setCell ⟨p4, 2, none⟩ (.slice ba1 bn1 bc1)).setCell ⟨p4, 3, none⟩ (.slice ba2 bn2 bc2)).setCell ⟨p4, 4, none⟩ (.slice ba3 bn3 bc3)).setCell ⟨p4, 5, none⟩ (.slice ba4 bn4 bc4)).setCell ⟨p4, 6, none⟩ (.int .i64 bl)).setCell ⟨p4, 7, none⟩ (.bool bd)) = W6) := hWn.symm
    have HF1 : Hid (FS B 1048577 K1 W6 p4 g1 S1 M1 R1 ⟨some ⟨g1, 0, none⟩, bq, ba1, bn1, bc1, ba2, bn2, bc2, ba3, bn3, bc3, ba4, bn4, bc4, bl, bd⟩ ∧ Below B W2 W6) := by
      rw [hWn]
      exact ⟨f1, b1⟩
    clear hWn f1 b1 HS1
    go_upto_region 7 with fail
    rw [HW1.out]
    clear d0 d1 d2 d3 d4 d5 d6 d7
    clear u0 u1 u2 u3 u4 u5 u6 u7
    have l1 := HF1.out.1.box
    have d0 := l1.cell 0 _ rfl
    have d1 := l1.cell 1 _ rfl
    have d2 := l1.cell 2 _ rfl
    have d3 := l1.cell 3 _ rfl
    have d4 := l1.cell 4 _ rfl
    have d5 := l1.cell 5 _ rfl
    have d6 := l1.cell 6 _ rfl
    have d7 := l1.cell 7 _ rfl
    clear l1
    have hb7 := up0 W6 (.cells #[.int .u8 1, .int .u8 2] 5)
    have HS2 : Hid (Calls Try.prog 46 #[.agg #[.pointer (some ⟨g1, 0, none⟩), .int .i64 bq, .slice ba1 bn1 bc1, .slice ba2 bn2 bc2, .slice ba3 bn3 bc3, .slice ba4 bn4 bc4, .int .i64 bl, .bool bd], .agg #[.int .i64 2, .bool false, .string ⟨#[122]⟩, .string ⟨#[]⟩, .int .i64 0, .slice (some ⟨W6.heap.size, 0, none⟩) 2 2, .slice none 0 0, .slice none 0 0]] (W6.alloc (.cells #[.int .u8 1, .int .u8 2] 5)) fun e w' => ∃ g2 S2 M2 R2 K2 cq ca1 cn1 cc1 ca2 cn2 cc2 ca3 cn3 cc3 ca4 cn4 cc4 cl cd, e = .returned (.tuple #[.agg #[.pointer (some ⟨g2, 0, none⟩), .int .i64 cq, .slice ca1 cn1 cc1, .slice ca2 cn2 cc2, .slice ca3 cn3 cc3, .slice ca4 cn4 cc4, .int .i64 cl, .bool cd], .bool true]) ∧ LB w' p4 56 [.pointer (some ⟨g1, 0, none⟩), .int .i64 bq, .slice ba1 bn1 bc1, .slice ba2 bn2 bc2, .slice ba3 bn3 bc3, .slice ba4 bn4 bc4, .int .i64 bl, .bool bd] ∧ FS B 1048578 K2 (putAll w' p4 0 [.pointer (some ⟨g2, 0, none⟩), .int .i64 cq, .slice ca1 cn1 cc1, .slice ca2 cn2 cc2, .slice ca3 cn3 cc3, .slice ca4 cn4 cc4, .int .i64 cl, .bool cd]) p4 g2 S2 M2 R2 ⟨some ⟨g2, 0, none⟩, cq, ca1, cn1, cc1, ca2, cn2, cc2, ca3, cn3, cc3, ca4, cn4, cc4, cl, cd⟩ ∧ Below B W2 (putAll w' p4 0 [.pointer (some ⟨g2, 0, none⟩), .int .i64 cq, .slice ca1 cn1 cc1, .slice ca2 cn2 cc2, .slice ca3 cn3 cc3, .slice ca4 cn4 cc4, .int .i64 cl, .bool cd])) := (fs_step ⟨2, false, ⟨#[122]⟩, ⟨#[]⟩, 0, some ⟨W6.heap.size, 0, none⟩, 2, [1, 2], none, 0, [], none, 0, 0⟩ (HF1.out.1.kept hb7) (Nat.le_trans HSB.out ((HF1.out.2.trans (hb7.mono (Nat.le_trans HSB.out HF1.out.2.size)))).size) (by omega) ⟨⟨⟨show (1 : Nat) ≤ maxLen by decide, show (0 : Nat) ≤ maxLen by decide⟩, bs_two W6, cts_nil _, show (0 : Int) ≤ 9223372036854775807 by decide⟩, show (2 : Nat) ≤ 1048576 by decide, show (0 : Nat) ≤ 1048576 by decide, [], fls_nil _, Nat.zero_le _, (fun x hx => by cases hx), Nat.zero_le _⟩ (fun _ q z e hq => by have h8 := (HF1.out.1.pm.dm.ft hq).2; simp only [Option.some.injEq, Addr.mk.injEq] at e; omega)).mono fun e w' ⟨g', S', M', R', K', cq, ca1, cn1, cc1, ca2, cn2, cc2, ca3, cn3, cc3, ca4, cn4, cc4, cl, cd, h1, h2⟩ => by
      obtain ⟨h3, h4⟩ := ((HF1.out.1.kept hb7)).step (y' := ⟨some ⟨g', 0, none⟩, cq, ca1, cn1, cc1, ca2, cn2, cc2, ca3, cn3, cc3, ca4, cn4, cc4, cl, cd⟩) rfl h2
      exact ⟨g', S', M', R', K', _, _, _, _, _, _, _, _, _, _, _, _, _, _, _, h1, h3, h4, putAll_bel ((HF1.out.2.trans (hb7.mono (Nat.le_trans HSB.out HF1.out.2.size))).trans (h2.fr.below B (Nat.le_trans HSB.out ((HF1.out.2.trans (hb7.mono (Nat.le_trans HSB.out HF1.out.2.size)))).size) fun q hq => (((HF1.out.1.kept hb7)).pm.dm.ft hq).1)) HPB.out _ _⟩
    clear hb7
    go_wp2_with fail
    refine HS2.out.mono ?_
    rintro e w2 ⟨g2, S2, M2, R2, K2, cq, ca1, cn1, cc1, ca2, cn2, cc2, ca3, cn3, cc3, ca4, cn4, cc4, cl, cd, rfl, l2, f2, b2⟩
    clear d0 d1 d2 d3 d4 d5 d6 d7
    have d0 := l2.cell 0 _ rfl
    have d1 := l2.cell 1 _ rfl
    have d2 := l2.cell 2 _ rfl
    have d3 := l2.cell 3 _ rfl
    have d4 := l2.cell 4 _ rfl
    have d5 := l2.cell 5 _ rfl
    have d6 := l2.cell 6 _ rfl
    have d7 := l2.cell 7 _ rfl
    have u0 := l2.free 0
    have u1 := l2.free 1
    have u2 := l2.free 2
    have u3 := l2.free 3
    have u4 := l2.free 4
    have u5 := l2.free 5
    have u6 := l2.free 6
    have u7 := l2.free 7
    clear l2
    obtain ⟨W8, hWn⟩ : ∃ W, W = putAll w2 p4 0 [.pointer (some ⟨g2, 0, none⟩), .int .i64 cq, .slice ca1 cn1 cc1, .slice ca2 cn2 cc2, .slice ca3 cn3 cc3, .slice ca4 cn4 cc4, .int .i64 cl, .bool cd] := ⟨_, rfl⟩
    have HW2 : Hid (((((((((w2.setCell ⟨p4, 0, none⟩ (.pointer (some ⟨g2, 0, none⟩))).setCell ⟨p4, 1, none⟩ (.int .i64 cq)).setCell ⟨p4, 2, none⟩ (.slice ca1 cn1 cc1)).setCell ⟨p4, 3, none⟩ (.slice ca2 cn2 cc2)).setCell ⟨p4, 4, none⟩ (.slice ca3 cn3 cc3)).setCell ⟨p4, 5, none⟩ (.slice ca4 cn4 cc4)).setCell ⟨p4, 6, none⟩ (.int .i64 cl)).setCell ⟨p4, 7, none⟩ (.bool cd)) = W8) := hWn.symm
    have HF2 : Hid (FS B 1048578 K2 W8 p4 g2 S2 M2 R2 ⟨some ⟨g2, 0, none⟩, cq, ca1, cn1, cc1, ca2, cn2, cc2, ca3, cn3, cc3, ca4, cn4, cc4, cl, cd⟩ ∧ Below B W2 W8) := by
      rw [hWn]
      exact ⟨f2, b2⟩
    clear hWn f2 b2 HS2
    go_upto_region 10 with fail
    rw [HW2.out]
    clear d0 d1 d2 d3 d4 d5 d6 d7
    clear u0 u1 u2 u3 u4 u5 u6 u7
    have l2 := HF2.out.1.box
    have d0 := l2.cell 0 _ rfl
    have d1 := l2.cell 1 _ rfl
    have d2 := l2.cell 2 _ rfl
    have d3 := l2.cell 3 _ rfl
    have d4 := l2.cell 4 _ rfl
    have d5 := l2.cell 5 _ rfl
    have d6 := l2.cell 6 _ rfl
    have d7 := l2.cell 7 _ rfl
    clear l2
    have HS3 : Hid (Calls Try.prog 46 #[.agg #[.pointer (some ⟨g2, 0, none⟩), .int .i64 cq, .slice ca1 cn1 cc1, .slice ca2 cn2 cc2, .slice ca3 cn3 cc3, .slice ca4 cn4 cc4, .int .i64 cl, .bool cd], .agg #[.int .i64 8, .bool false, .string ⟨#[122]⟩, .string ⟨#[]⟩, .int .i64 0, .slice none 0 0, .slice none 0 0, .slice none 0 0]] W8 fun e w' => ∃ g3 S3 M3 R3 K3 eq ea1 en1 ec1 ea2 en2 ec2 ea3 en3 ec3 ea4 en4 ec4 el ed, e = .returned (.tuple #[.agg #[.pointer (some ⟨g3, 0, none⟩), .int .i64 eq, .slice ea1 en1 ec1, .slice ea2 en2 ec2, .slice ea3 en3 ec3, .slice ea4 en4 ec4, .int .i64 el, .bool ed], .bool true]) ∧ LB w' p4 56 [.pointer (some ⟨g2, 0, none⟩), .int .i64 cq, .slice ca1 cn1 cc1, .slice ca2 cn2 cc2, .slice ca3 cn3 cc3, .slice ca4 cn4 cc4, .int .i64 cl, .bool cd] ∧ FS B 1048579 K3 (putAll w' p4 0 [.pointer (some ⟨g3, 0, none⟩), .int .i64 eq, .slice ea1 en1 ec1, .slice ea2 en2 ec2, .slice ea3 en3 ec3, .slice ea4 en4 ec4, .int .i64 el, .bool ed]) p4 g3 S3 M3 R3 ⟨some ⟨g3, 0, none⟩, eq, ea1, en1, ec1, ea2, en2, ec2, ea3, en3, ec3, ea4, en4, ec4, el, ed⟩ ∧ Below B W2 (putAll w' p4 0 [.pointer (some ⟨g3, 0, none⟩), .int .i64 eq, .slice ea1 en1 ec1, .slice ea2 en2 ec2, .slice ea3 en3 ec3, .slice ea4 en4 ec4, .int .i64 el, .bool ed])) := (fs_step ⟨8, false, ⟨#[122]⟩, ⟨#[]⟩, 0, none, 0, [], none, 0, [], none, 0, 0⟩ HF2.out.1 (Nat.le_trans HSB.out (HF2.out.2).size) (by omega) ⟨⟨⟨by decide, by decide⟩, Bs.nil _, cts_nil _, by decide⟩, by decide, by decide, [], fls_nil _, Nat.zero_le _, (fun x hx => by cases hx), Nat.zero_le _⟩ (fun h => absurd rfl h)).mono fun e w' ⟨g', S', M', R', K', eq, ea1, en1, ec1, ea2, en2, ec2, ea3, en3, ec3, ea4, en4, ec4, el, ed, h1, h2⟩ => by
      obtain ⟨h3, h4⟩ := (HF2.out.1).step (y' := ⟨some ⟨g', 0, none⟩, eq, ea1, en1, ec1, ea2, en2, ec2, ea3, en3, ec3, ea4, en4, ec4, el, ed⟩) rfl h2
      exact ⟨g', S', M', R', K', _, _, _, _, _, _, _, _, _, _, _, _, _, _, _, h1, h3, h4, putAll_bel (HF2.out.2.trans (h2.fr.below B (Nat.le_trans HSB.out (HF2.out.2).size) fun q hq => ((HF2.out.1).pm.dm.ft hq).1)) HPB.out _ _⟩
    go_wp2_with fail
    refine HS3.out.mono ?_
    rintro e w3 ⟨g3, S3, M3, R3, K3, eq, ea1, en1, ec1, ea2, en2, ec2, ea3, en3, ec3, ea4, en4, ec4, el, ed, rfl, l3, f3, b3⟩
    clear d0 d1 d2 d3 d4 d5 d6 d7
    have d0 := l3.cell 0 _ rfl
    have d1 := l3.cell 1 _ rfl
    have d2 := l3.cell 2 _ rfl
    have d3 := l3.cell 3 _ rfl
    have d4 := l3.cell 4 _ rfl
    have d5 := l3.cell 5 _ rfl
    have d6 := l3.cell 6 _ rfl
    have d7 := l3.cell 7 _ rfl
    have u0 := l3.free 0
    have u1 := l3.free 1
    have u2 := l3.free 2
    have u3 := l3.free 3
    have u4 := l3.free 4
    have u5 := l3.free 5
    have u6 := l3.free 6
    have u7 := l3.free 7
    clear l3
    obtain ⟨W10, hWn⟩ : ∃ W, W = putAll w3 p4 0 [.pointer (some ⟨g3, 0, none⟩), .int .i64 eq, .slice ea1 en1 ec1, .slice ea2 en2 ec2, .slice ea3 en3 ec3, .slice ea4 en4 ec4, .int .i64 el, .bool ed] := ⟨_, rfl⟩
    have HW3 : Hid (((((((((w3.setCell ⟨p4, 0, none⟩ (.pointer (some ⟨g3, 0, none⟩))).setCell ⟨p4, 1, none⟩ (.int .i64 eq)).setCell ⟨p4, 2, none⟩ (.slice ea1 en1 ec1)).setCell ⟨p4, 3, none⟩ (.slice ea2 en2 ec2)).setCell ⟨p4, 4, none⟩ (.slice ea3 en3 ec3)).setCell ⟨p4, 5, none⟩ (.slice ea4 en4 ec4)).setCell ⟨p4, 6, none⟩ (.int .i64 el)).setCell ⟨p4, 7, none⟩ (.bool ed)) = W10) := hWn.symm
    have HF3 : Hid (FS B 1048579 K3 W10 p4 g3 S3 M3 R3 ⟨some ⟨g3, 0, none⟩, eq, ea1, en1, ec1, ea2, en2, ec2, ea3, en3, ec3, ea4, en4, ec4, el, ed⟩ ∧ Below B W2 W10) := by
      rw [hWn]
      exact ⟨f3, b3⟩
    clear hWn f3 b3 HS3
    go_upto_region 13 with fail
    rw [HW3.out]
    clear d0 d1 d2 d3 d4 d5 d6 d7
    clear u0 u1 u2 u3 u4 u5 u6 u7
    have l3 := HF3.out.1.box
    have d0 := l3.cell 0 _ rfl
    have d1 := l3.cell 1 _ rfl
    have d2 := l3.cell 2 _ rfl
    have d3 := l3.cell 3 _ rfl
    have d4 := l3.cell 4 _ rfl
    have d5 := l3.cell 5 _ rfl
    have d6 := l3.cell 6 _ rfl
    have d7 := l3.cell 7 _ rfl
    clear l3
    have L2 : LB W10 p2 56 [.pointer none, .int .i64 0, .slice none 0 0, .slice none 0 0, .slice none 0 0, .slice none 0 0, .int .i64 0, .bool false] := lb_kept9 HL2.out.2 HF3.out.2 HL2.out.1
    have HL9 : Hid (LB W10 p2 56 [.pointer none, .int .i64 0, .slice none 0 0, .slice none 0 0, .slice none 0 0, .slice none 0 0, .int .i64 0, .bool false]) := L2
    have z0 := L2.cell 0 _ rfl
    have z1 := L2.cell 1 _ rfl
    have z2 := L2.cell 2 _ rfl
    have z3 := L2.cell 3 _ rfl
    have z4 := L2.cell 4 _ rfl
    have z5 := L2.cell 5 _ rfl
    have z6 := L2.cell 6 _ rfl
    have z7 := L2.cell 7 _ rfl
    have v0 := L2.free 0
    have v1 := L2.free 1
    have v2 := L2.free 2
    have v3 := L2.free 3
    have v4 := L2.free 4
    have v5 := L2.free 5
    have v6 := L2.free 6
    have v7 := L2.free 7
    clear L2
    go_wp2_with fail
    refine bodyPost_ret (results_cell_slot rfl _ _ p2 [.pointer (some ⟨g3, 0, none⟩), .int .i64 eq, .slice ea1 en1 ec1, .slice ea2 en2 ec2, .slice ea3 en3 ec3, .slice ea4 en4 ec4, .int .i64 el, .bool ed] _ rfl (putAll_lb [.pointer (some ⟨g3, 0, none⟩), .int .i64 eq, .slice ea1 en1 ec1, .slice ea2 en2 ec2, .slice ea3 en3 ec3, .slice ea4 en4 ec4, .int .i64 el, .bool ed] HL9.out rfl).range Try.underlying56 rfl (by kernel_rfl)) rfl ?_
    exact first_fin (r := [.pointer (some ⟨g3, 0, none⟩), .int .i64 eq, .slice ea1 en1 ec1, .slice ea2 en2 ec2, .slice ea3 en3 ec3, .slice ea4 en4 ec4, .int .i64 el, .bool ed]) HSB.out HL2.out.1 HF3.out.1 HF3.out.2 HB2.out.1 HB2.out.2 rfl
  by_cases h2 : 4194304 < q
  · have t1 : (q < 16) = False := eq_false h1
    have t2 : (4194304 < q) = True := eq_true h2
    have hQ : 16 ≤ (64 : Int) ∧ (64 : Int) ≤ 4194304 := by decide
    clear h1 h2
    go_wp2_with fail
    refine (HLD.out _ hQ).mono ?_
    rintro e W3 ⟨g0, S0, M0, R0, K0, aq, aa1, an1, ac1, aa2, an2, ac2, aa3, an3, ac3, aa4, an4, ac4, al, ad, rfl, m3, k3, b3⟩
    obtain ⟨p4, hp4⟩ : ∃ p, p = W3.heap.size := ⟨_, rfl⟩
    obtain ⟨W4, hW4⟩ : ∃ W, W = W3.alloc (.cells #[.pointer (some ⟨g0, 0, none⟩), .int .i64 aq, .slice aa1 an1 ac1, .slice aa2 an2 ac2, .slice aa3 an3 ac3, .slice aa4 an4 ac4, .int .i64 al, .bool ad] 56) := ⟨_, rfl⟩
    have HF0 : Hid (FS B 1048576 K0 W4 p4 g0 S0 M0 R0 ⟨some ⟨g0, 0, none⟩, aq, aa1, an1, ac1, aa2, an2, ac2, aa3, an3, ac3, aa4, an4, ac4, al, ad⟩ ∧ Below B W2 W4) := by
      rw [hW4, hp4]
      exact ⟨⟨m3.kept (up0 _ _), rfl, lb_new W3 [.pointer (some ⟨g0, 0, none⟩), .int .i64 aq, .slice aa1 an1 ac1, .slice aa2 an2 ac2, .slice aa3 an3 ac3, .slice aa4 an4 ac4, .int .i64 al, .bool ad] 56, fun e => by have := (m3.dm.ft e).2; omega, fun e => by have := m3.lt _ e; omega, k3⟩, HBE.out (andThen b3 (up0 _ _))⟩
    have HPB : Hid (B ≤ p4) := by
      have := b3.size
      have := HSB.out
      show B ≤ p4
      omega
    have HW4 : Hid (W3.alloc (.cells #[.pointer (some ⟨g0, 0, none⟩), .int .i64 aq, .slice aa1 an1 ac1, .slice aa2 an2 ac2, .slice aa3 an3 ac3, .slice aa4 an4 ac4, .int .i64 al, .bool ad] 56) = W4 ∧ W3.heap.size = p4) := ⟨hW4.symm, hp4.symm⟩
    clear hW4 hp4 m3 k3 b3
    go_upto_region 4 with fail
    rw [HW4.out.1, HW4.out.2]
    have l0 := HF0.out.1.box
    have d0 := l0.cell 0 _ rfl
    have d1 := l0.cell 1 _ rfl
    have d2 := l0.cell 2 _ rfl
    have d3 := l0.cell 3 _ rfl
    have d4 := l0.cell 4 _ rfl
    have d5 := l0.cell 5 _ rfl
    have d6 := l0.cell 6 _ rfl
    have d7 := l0.cell 7 _ rfl
    clear l0
    have HS1 : Hid (Calls Try.prog 46 #[.agg #[.pointer (some ⟨g0, 0, none⟩), .int .i64 aq, .slice aa1 an1 ac1, .slice aa2 an2 ac2, .slice aa3 an3 ac3, .slice aa4 an4 ac4, .int .i64 al, .bool ad], .agg #[.int .i64 1, .bool false, .string ⟨#[122]⟩, .string ⟨#[]⟩, .int .i64 0, .slice none 0 0, .slice none 0 0, .slice none 0 0]] W4 fun e w' => ∃ g1 S1 M1 R1 K1 bq ba1 bn1 bc1 ba2 bn2 bc2 ba3 bn3 bc3 ba4 bn4 bc4 bl bd, e = .returned (.tuple #[.agg #[.pointer (some ⟨g1, 0, none⟩), .int .i64 bq, .slice ba1 bn1 bc1, .slice ba2 bn2 bc2, .slice ba3 bn3 bc3, .slice ba4 bn4 bc4, .int .i64 bl, .bool bd], .bool true]) ∧ LB w' p4 56 [.pointer (some ⟨g0, 0, none⟩), .int .i64 aq, .slice aa1 an1 ac1, .slice aa2 an2 ac2, .slice aa3 an3 ac3, .slice aa4 an4 ac4, .int .i64 al, .bool ad] ∧ FS B 1048577 K1 (putAll w' p4 0 [.pointer (some ⟨g1, 0, none⟩), .int .i64 bq, .slice ba1 bn1 bc1, .slice ba2 bn2 bc2, .slice ba3 bn3 bc3, .slice ba4 bn4 bc4, .int .i64 bl, .bool bd]) p4 g1 S1 M1 R1 ⟨some ⟨g1, 0, none⟩, bq, ba1, bn1, bc1, ba2, bn2, bc2, ba3, bn3, bc3, ba4, bn4, bc4, bl, bd⟩ ∧ Below B W2 (putAll w' p4 0 [.pointer (some ⟨g1, 0, none⟩), .int .i64 bq, .slice ba1 bn1 bc1, .slice ba2 bn2 bc2, .slice ba3 bn3 bc3, .slice ba4 bn4 bc4, .int .i64 bl, .bool bd])) := (fs_step ⟨1, false, ⟨#[122]⟩, ⟨#[]⟩, 0, none, 0, [], none, 0, [], none, 0, 0⟩ HF0.out.1 (Nat.le_trans HSB.out (HF0.out.2).size) (by omega) ⟨⟨⟨by decide, by decide⟩, Bs.nil _, cts_nil _, by decide⟩, by decide, by decide, [], fls_nil _, Nat.zero_le _, (fun x hx => by cases hx), Nat.zero_le _⟩ (fun h => absurd rfl h)).mono fun e w' ⟨g', S', M', R', K', bq, ba1, bn1, bc1, ba2, bn2, bc2, ba3, bn3, bc3, ba4, bn4, bc4, bl, bd, h1, h2⟩ => by
      obtain ⟨h3, h4⟩ := (HF0.out.1).step (y' := ⟨some ⟨g', 0, none⟩, bq, ba1, bn1, bc1, ba2, bn2, bc2, ba3, bn3, bc3, ba4, bn4, bc4, bl, bd⟩) rfl h2
      exact ⟨g', S', M', R', K', _, _, _, _, _, _, _, _, _, _, _, _, _, _, _, h1, h3, h4, putAll_bel (HF0.out.2.trans (h2.fr.below B (Nat.le_trans HSB.out (HF0.out.2).size) fun q hq => ((HF0.out.1).pm.dm.ft hq).1)) HPB.out _ _⟩
    go_wp2_with fail
    refine HS1.out.mono ?_
    rintro e w1 ⟨g1, S1, M1, R1, K1, bq, ba1, bn1, bc1, ba2, bn2, bc2, ba3, bn3, bc3, ba4, bn4, bc4, bl, bd, rfl, l1, f1, b1⟩
    clear d0 d1 d2 d3 d4 d5 d6 d7
    have d0 := l1.cell 0 _ rfl
    have d1 := l1.cell 1 _ rfl
    have d2 := l1.cell 2 _ rfl
    have d3 := l1.cell 3 _ rfl
    have d4 := l1.cell 4 _ rfl
    have d5 := l1.cell 5 _ rfl
    have d6 := l1.cell 6 _ rfl
    have d7 := l1.cell 7 _ rfl
    have u0 := l1.free 0
    have u1 := l1.free 1
    have u2 := l1.free 2
    have u3 := l1.free 3
    have u4 := l1.free 4
    have u5 := l1.free 5
    have u6 := l1.free 6
    have u7 := l1.free 7
    clear l1
    obtain ⟨W6, hWn⟩ : ∃ W, W = putAll w1 p4 0 [.pointer (some ⟨g1, 0, none⟩), .int .i64 bq, .slice ba1 bn1 bc1, .slice ba2 bn2 bc2, .slice ba3 bn3 bc3, .slice ba4 bn4 bc4, .int .i64 bl, .bool bd] := ⟨_, rfl⟩
    have HW1 : Hid (((((((((w1.setCell ⟨p4, 0, none⟩ (.pointer (some ⟨g1, 0, none⟩))).setCell ⟨p4, 1, none⟩ (.int .i64 bq)).setCell ⟨p4, 2, none⟩ (.slice ba1 bn1 bc1)).setCell ⟨p4, 3, none⟩ (.slice ba2 bn2 bc2)).setCell ⟨p4, 4, none⟩ (.slice ba3 bn3 bc3)).setCell ⟨p4, 5, none⟩ (.slice ba4 bn4 bc4)).setCell ⟨p4, 6, none⟩ (.int .i64 bl)).setCell ⟨p4, 7, none⟩ (.bool bd)) = W6) := hWn.symm
    have HF1 : Hid (FS B 1048577 K1 W6 p4 g1 S1 M1 R1 ⟨some ⟨g1, 0, none⟩, bq, ba1, bn1, bc1, ba2, bn2, bc2, ba3, bn3, bc3, ba4, bn4, bc4, bl, bd⟩ ∧ Below B W2 W6) := by
      rw [hWn]
      exact ⟨f1, b1⟩
    clear hWn f1 b1 HS1
    go_upto_region 7 with fail
    rw [HW1.out]
    clear d0 d1 d2 d3 d4 d5 d6 d7
    clear u0 u1 u2 u3 u4 u5 u6 u7
    have l1 := HF1.out.1.box
    have d0 := l1.cell 0 _ rfl
    have d1 := l1.cell 1 _ rfl
    have d2 := l1.cell 2 _ rfl
    have d3 := l1.cell 3 _ rfl
    have d4 := l1.cell 4 _ rfl
    have d5 := l1.cell 5 _ rfl
    have d6 := l1.cell 6 _ rfl
    have d7 := l1.cell 7 _ rfl
    clear l1
    have hb7 := up0 W6 (.cells #[.int .u8 1, .int .u8 2] 5)
    have HS2 : Hid (Calls Try.prog 46 #[.agg #[.pointer (some ⟨g1, 0, none⟩), .int .i64 bq, .slice ba1 bn1 bc1, .slice ba2 bn2 bc2, .slice ba3 bn3 bc3, .slice ba4 bn4 bc4, .int .i64 bl, .bool bd], .agg #[.int .i64 2, .bool false, .string ⟨#[122]⟩, .string ⟨#[]⟩, .int .i64 0, .slice (some ⟨W6.heap.size, 0, none⟩) 2 2, .slice none 0 0, .slice none 0 0]] (W6.alloc (.cells #[.int .u8 1, .int .u8 2] 5)) fun e w' => ∃ g2 S2 M2 R2 K2 cq ca1 cn1 cc1 ca2 cn2 cc2 ca3 cn3 cc3 ca4 cn4 cc4 cl cd, e = .returned (.tuple #[.agg #[.pointer (some ⟨g2, 0, none⟩), .int .i64 cq, .slice ca1 cn1 cc1, .slice ca2 cn2 cc2, .slice ca3 cn3 cc3, .slice ca4 cn4 cc4, .int .i64 cl, .bool cd], .bool true]) ∧ LB w' p4 56 [.pointer (some ⟨g1, 0, none⟩), .int .i64 bq, .slice ba1 bn1 bc1, .slice ba2 bn2 bc2, .slice ba3 bn3 bc3, .slice ba4 bn4 bc4, .int .i64 bl, .bool bd] ∧ FS B 1048578 K2 (putAll w' p4 0 [.pointer (some ⟨g2, 0, none⟩), .int .i64 cq, .slice ca1 cn1 cc1, .slice ca2 cn2 cc2, .slice ca3 cn3 cc3, .slice ca4 cn4 cc4, .int .i64 cl, .bool cd]) p4 g2 S2 M2 R2 ⟨some ⟨g2, 0, none⟩, cq, ca1, cn1, cc1, ca2, cn2, cc2, ca3, cn3, cc3, ca4, cn4, cc4, cl, cd⟩ ∧ Below B W2 (putAll w' p4 0 [.pointer (some ⟨g2, 0, none⟩), .int .i64 cq, .slice ca1 cn1 cc1, .slice ca2 cn2 cc2, .slice ca3 cn3 cc3, .slice ca4 cn4 cc4, .int .i64 cl, .bool cd])) := (fs_step ⟨2, false, ⟨#[122]⟩, ⟨#[]⟩, 0, some ⟨W6.heap.size, 0, none⟩, 2, [1, 2], none, 0, [], none, 0, 0⟩ (HF1.out.1.kept hb7) (Nat.le_trans HSB.out ((HF1.out.2.trans (hb7.mono (Nat.le_trans HSB.out HF1.out.2.size)))).size) (by omega) ⟨⟨⟨show (1 : Nat) ≤ maxLen by decide, show (0 : Nat) ≤ maxLen by decide⟩, bs_two W6, cts_nil _, show (0 : Int) ≤ 9223372036854775807 by decide⟩, show (2 : Nat) ≤ 1048576 by decide, show (0 : Nat) ≤ 1048576 by decide, [], fls_nil _, Nat.zero_le _, (fun x hx => by cases hx), Nat.zero_le _⟩ (fun _ q z e hq => by have h8 := (HF1.out.1.pm.dm.ft hq).2; simp only [Option.some.injEq, Addr.mk.injEq] at e; omega)).mono fun e w' ⟨g', S', M', R', K', cq, ca1, cn1, cc1, ca2, cn2, cc2, ca3, cn3, cc3, ca4, cn4, cc4, cl, cd, h1, h2⟩ => by
      obtain ⟨h3, h4⟩ := ((HF1.out.1.kept hb7)).step (y' := ⟨some ⟨g', 0, none⟩, cq, ca1, cn1, cc1, ca2, cn2, cc2, ca3, cn3, cc3, ca4, cn4, cc4, cl, cd⟩) rfl h2
      exact ⟨g', S', M', R', K', _, _, _, _, _, _, _, _, _, _, _, _, _, _, _, h1, h3, h4, putAll_bel ((HF1.out.2.trans (hb7.mono (Nat.le_trans HSB.out HF1.out.2.size))).trans (h2.fr.below B (Nat.le_trans HSB.out ((HF1.out.2.trans (hb7.mono (Nat.le_trans HSB.out HF1.out.2.size)))).size) fun q hq => (((HF1.out.1.kept hb7)).pm.dm.ft hq).1)) HPB.out _ _⟩
    clear hb7
    go_wp2_with fail
    refine HS2.out.mono ?_
    rintro e w2 ⟨g2, S2, M2, R2, K2, cq, ca1, cn1, cc1, ca2, cn2, cc2, ca3, cn3, cc3, ca4, cn4, cc4, cl, cd, rfl, l2, f2, b2⟩
    clear d0 d1 d2 d3 d4 d5 d6 d7
    have d0 := l2.cell 0 _ rfl
    have d1 := l2.cell 1 _ rfl
    have d2 := l2.cell 2 _ rfl
    have d3 := l2.cell 3 _ rfl
    have d4 := l2.cell 4 _ rfl
    have d5 := l2.cell 5 _ rfl
    have d6 := l2.cell 6 _ rfl
    have d7 := l2.cell 7 _ rfl
    have u0 := l2.free 0
    have u1 := l2.free 1
    have u2 := l2.free 2
    have u3 := l2.free 3
    have u4 := l2.free 4
    have u5 := l2.free 5
    have u6 := l2.free 6
    have u7 := l2.free 7
    clear l2
    obtain ⟨W8, hWn⟩ : ∃ W, W = putAll w2 p4 0 [.pointer (some ⟨g2, 0, none⟩), .int .i64 cq, .slice ca1 cn1 cc1, .slice ca2 cn2 cc2, .slice ca3 cn3 cc3, .slice ca4 cn4 cc4, .int .i64 cl, .bool cd] := ⟨_, rfl⟩
    have HW2 : Hid (((((((((w2.setCell ⟨p4, 0, none⟩ (.pointer (some ⟨g2, 0, none⟩))).setCell ⟨p4, 1, none⟩ (.int .i64 cq)).setCell ⟨p4, 2, none⟩ (.slice ca1 cn1 cc1)).setCell ⟨p4, 3, none⟩ (.slice ca2 cn2 cc2)).setCell ⟨p4, 4, none⟩ (.slice ca3 cn3 cc3)).setCell ⟨p4, 5, none⟩ (.slice ca4 cn4 cc4)).setCell ⟨p4, 6, none⟩ (.int .i64 cl)).setCell ⟨p4, 7, none⟩ (.bool cd)) = W8) := hWn.symm
    have HF2 : Hid (FS B 1048578 K2 W8 p4 g2 S2 M2 R2 ⟨some ⟨g2, 0, none⟩, cq, ca1, cn1, cc1, ca2, cn2, cc2, ca3, cn3, cc3, ca4, cn4, cc4, cl, cd⟩ ∧ Below B W2 W8) := by
      rw [hWn]
      exact ⟨f2, b2⟩
    clear hWn f2 b2 HS2
    go_upto_region 10 with fail
    rw [HW2.out]
    clear d0 d1 d2 d3 d4 d5 d6 d7
    clear u0 u1 u2 u3 u4 u5 u6 u7
    have l2 := HF2.out.1.box
    have d0 := l2.cell 0 _ rfl
    have d1 := l2.cell 1 _ rfl
    have d2 := l2.cell 2 _ rfl
    have d3 := l2.cell 3 _ rfl
    have d4 := l2.cell 4 _ rfl
    have d5 := l2.cell 5 _ rfl
    have d6 := l2.cell 6 _ rfl
    have d7 := l2.cell 7 _ rfl
    clear l2
    have HS3 : Hid (Calls Try.prog 46 #[.agg #[.pointer (some ⟨g2, 0, none⟩), .int .i64 cq, .slice ca1 cn1 cc1, .slice ca2 cn2 cc2, .slice ca3 cn3 cc3, .slice ca4 cn4 cc4, .int .i64 cl, .bool cd], .agg #[.int .i64 8, .bool false, .string ⟨#[122]⟩, .string ⟨#[]⟩, .int .i64 0, .slice none 0 0, .slice none 0 0, .slice none 0 0]] W8 fun e w' => ∃ g3 S3 M3 R3 K3 eq ea1 en1 ec1 ea2 en2 ec2 ea3 en3 ec3 ea4 en4 ec4 el ed, e = .returned (.tuple #[.agg #[.pointer (some ⟨g3, 0, none⟩), .int .i64 eq, .slice ea1 en1 ec1, .slice ea2 en2 ec2, .slice ea3 en3 ec3, .slice ea4 en4 ec4, .int .i64 el, .bool ed], .bool true]) ∧ LB w' p4 56 [.pointer (some ⟨g2, 0, none⟩), .int .i64 cq, .slice ca1 cn1 cc1, .slice ca2 cn2 cc2, .slice ca3 cn3 cc3, .slice ca4 cn4 cc4, .int .i64 cl, .bool cd] ∧ FS B 1048579 K3 (putAll w' p4 0 [.pointer (some ⟨g3, 0, none⟩), .int .i64 eq, .slice ea1 en1 ec1, .slice ea2 en2 ec2, .slice ea3 en3 ec3, .slice ea4 en4 ec4, .int .i64 el, .bool ed]) p4 g3 S3 M3 R3 ⟨some ⟨g3, 0, none⟩, eq, ea1, en1, ec1, ea2, en2, ec2, ea3, en3, ec3, ea4, en4, ec4, el, ed⟩ ∧ Below B W2 (putAll w' p4 0 [.pointer (some ⟨g3, 0, none⟩), .int .i64 eq, .slice ea1 en1 ec1, .slice ea2 en2 ec2, .slice ea3 en3 ec3, .slice ea4 en4 ec4, .int .i64 el, .bool ed])) := (fs_step ⟨8, false, ⟨#[122]⟩, ⟨#[]⟩, 0, none, 0, [], none, 0, [], none, 0, 0⟩ HF2.out.1 (Nat.le_trans HSB.out (HF2.out.2).size) (by omega) ⟨⟨⟨by decide, by decide⟩, Bs.nil _, cts_nil _, by decide⟩, by decide, by decide, [], fls_nil _, Nat.zero_le _, (fun x hx => by cases hx), Nat.zero_le _⟩ (fun h => absurd rfl h)).mono fun e w' ⟨g', S', M', R', K', eq, ea1, en1, ec1, ea2, en2, ec2, ea3, en3, ec3, ea4, en4, ec4, el, ed, h1, h2⟩ => by
      obtain ⟨h3, h4⟩ := (HF2.out.1).step (y' := ⟨some ⟨g', 0, none⟩, eq, ea1, en1, ec1, ea2, en2, ec2, ea3, en3, ec3, ea4, en4, ec4, el, ed⟩) rfl h2
      exact ⟨g', S', M', R', K', _, _, _, _, _, _, _, _, _, _, _, _, _, _, _, h1, h3, h4, putAll_bel (HF2.out.2.trans (h2.fr.below B (Nat.le_trans HSB.out (HF2.out.2).size) fun q hq => ((HF2.out.1).pm.dm.ft hq).1)) HPB.out _ _⟩
    go_wp2_with fail
    refine HS3.out.mono ?_
    rintro e w3 ⟨g3, S3, M3, R3, K3, eq, ea1, en1, ec1, ea2, en2, ec2, ea3, en3, ec3, ea4, en4, ec4, el, ed, rfl, l3, f3, b3⟩
    clear d0 d1 d2 d3 d4 d5 d6 d7
    have d0 := l3.cell 0 _ rfl
    have d1 := l3.cell 1 _ rfl
    have d2 := l3.cell 2 _ rfl
    have d3 := l3.cell 3 _ rfl
    have d4 := l3.cell 4 _ rfl
    have d5 := l3.cell 5 _ rfl
    have d6 := l3.cell 6 _ rfl
    have d7 := l3.cell 7 _ rfl
    have u0 := l3.free 0
    have u1 := l3.free 1
    have u2 := l3.free 2
    have u3 := l3.free 3
    have u4 := l3.free 4
    have u5 := l3.free 5
    have u6 := l3.free 6
    have u7 := l3.free 7
    clear l3
    obtain ⟨W10, hWn⟩ : ∃ W, W = putAll w3 p4 0 [.pointer (some ⟨g3, 0, none⟩), .int .i64 eq, .slice ea1 en1 ec1, .slice ea2 en2 ec2, .slice ea3 en3 ec3, .slice ea4 en4 ec4, .int .i64 el, .bool ed] := ⟨_, rfl⟩
    have HW3 : Hid (((((((((w3.setCell ⟨p4, 0, none⟩ (.pointer (some ⟨g3, 0, none⟩))).setCell ⟨p4, 1, none⟩ (.int .i64 eq)).setCell ⟨p4, 2, none⟩ (.slice ea1 en1 ec1)).setCell ⟨p4, 3, none⟩ (.slice ea2 en2 ec2)).setCell ⟨p4, 4, none⟩ (.slice ea3 en3 ec3)).setCell ⟨p4, 5, none⟩ (.slice ea4 en4 ec4)).setCell ⟨p4, 6, none⟩ (.int .i64 el)).setCell ⟨p4, 7, none⟩ (.bool ed)) = W10) := hWn.symm
    have HF3 : Hid (FS B 1048579 K3 W10 p4 g3 S3 M3 R3 ⟨some ⟨g3, 0, none⟩, eq, ea1, en1, ec1, ea2, en2, ec2, ea3, en3, ec3, ea4, en4, ec4, el, ed⟩ ∧ Below B W2 W10) := by
      rw [hWn]
      exact ⟨f3, b3⟩
    clear hWn f3 b3 HS3
    go_upto_region 13 with fail
    rw [HW3.out]
    clear d0 d1 d2 d3 d4 d5 d6 d7
    clear u0 u1 u2 u3 u4 u5 u6 u7
    have l3 := HF3.out.1.box
    have d0 := l3.cell 0 _ rfl
    have d1 := l3.cell 1 _ rfl
    have d2 := l3.cell 2 _ rfl
    have d3 := l3.cell 3 _ rfl
    have d4 := l3.cell 4 _ rfl
    have d5 := l3.cell 5 _ rfl
    have d6 := l3.cell 6 _ rfl
    have d7 := l3.cell 7 _ rfl
    clear l3
    have L2 : LB W10 p2 56 [.pointer none, .int .i64 0, .slice none 0 0, .slice none 0 0, .slice none 0 0, .slice none 0 0, .int .i64 0, .bool false] := lb_kept9 HL2.out.2 HF3.out.2 HL2.out.1
    have HL9 : Hid (LB W10 p2 56 [.pointer none, .int .i64 0, .slice none 0 0, .slice none 0 0, .slice none 0 0, .slice none 0 0, .int .i64 0, .bool false]) := L2
    have z0 := L2.cell 0 _ rfl
    have z1 := L2.cell 1 _ rfl
    have z2 := L2.cell 2 _ rfl
    have z3 := L2.cell 3 _ rfl
    have z4 := L2.cell 4 _ rfl
    have z5 := L2.cell 5 _ rfl
    have z6 := L2.cell 6 _ rfl
    have z7 := L2.cell 7 _ rfl
    have v0 := L2.free 0
    have v1 := L2.free 1
    have v2 := L2.free 2
    have v3 := L2.free 3
    have v4 := L2.free 4
    have v5 := L2.free 5
    have v6 := L2.free 6
    have v7 := L2.free 7
    clear L2
    go_wp2_with fail
    refine bodyPost_ret (results_cell_slot rfl _ _ p2 [.pointer (some ⟨g3, 0, none⟩), .int .i64 eq, .slice ea1 en1 ec1, .slice ea2 en2 ec2, .slice ea3 en3 ec3, .slice ea4 en4 ec4, .int .i64 el, .bool ed] _ rfl (putAll_lb [.pointer (some ⟨g3, 0, none⟩), .int .i64 eq, .slice ea1 en1 ec1, .slice ea2 en2 ec2, .slice ea3 en3 ec3, .slice ea4 en4 ec4, .int .i64 el, .bool ed] HL9.out rfl).range Try.underlying56 rfl (by kernel_rfl)) rfl ?_
    exact first_fin (r := [.pointer (some ⟨g3, 0, none⟩), .int .i64 eq, .slice ea1 en1 ec1, .slice ea2 en2 ec2, .slice ea3 en3 ec3, .slice ea4 en4 ec4, .int .i64 el, .bool ed]) HSB.out HL2.out.1 HF3.out.1 HF3.out.2 HB2.out.1 HB2.out.2 rfl
  · have t1 : (q < 16) = False := eq_false h1
    have t2 : (4194304 < q) = False := eq_false h2
    have hQ : 16 ≤ q ∧ q ≤ 4194304 := by omega
    clear h1 h2
    go_wp2_with fail
    refine (HLD.out _ hQ).mono ?_
    rintro e W3 ⟨g0, S0, M0, R0, K0, aq, aa1, an1, ac1, aa2, an2, ac2, aa3, an3, ac3, aa4, an4, ac4, al, ad, rfl, m3, k3, b3⟩
    obtain ⟨p4, hp4⟩ : ∃ p, p = W3.heap.size := ⟨_, rfl⟩
    obtain ⟨W4, hW4⟩ : ∃ W, W = W3.alloc (.cells #[.pointer (some ⟨g0, 0, none⟩), .int .i64 aq, .slice aa1 an1 ac1, .slice aa2 an2 ac2, .slice aa3 an3 ac3, .slice aa4 an4 ac4, .int .i64 al, .bool ad] 56) := ⟨_, rfl⟩
    have HF0 : Hid (FS B 1048576 K0 W4 p4 g0 S0 M0 R0 ⟨some ⟨g0, 0, none⟩, aq, aa1, an1, ac1, aa2, an2, ac2, aa3, an3, ac3, aa4, an4, ac4, al, ad⟩ ∧ Below B W2 W4) := by
      rw [hW4, hp4]
      exact ⟨⟨m3.kept (up0 _ _), rfl, lb_new W3 [.pointer (some ⟨g0, 0, none⟩), .int .i64 aq, .slice aa1 an1 ac1, .slice aa2 an2 ac2, .slice aa3 an3 ac3, .slice aa4 an4 ac4, .int .i64 al, .bool ad] 56, fun e => by have := (m3.dm.ft e).2; omega, fun e => by have := m3.lt _ e; omega, k3⟩, HBE.out (andThen b3 (up0 _ _))⟩
    have HPB : Hid (B ≤ p4) := by
      have := b3.size
      have := HSB.out
      show B ≤ p4
      omega
    have HW4 : Hid (W3.alloc (.cells #[.pointer (some ⟨g0, 0, none⟩), .int .i64 aq, .slice aa1 an1 ac1, .slice aa2 an2 ac2, .slice aa3 an3 ac3, .slice aa4 an4 ac4, .int .i64 al, .bool ad] 56) = W4 ∧ W3.heap.size = p4) := ⟨hW4.symm, hp4.symm⟩
    clear hW4 hp4 m3 k3 b3
    go_upto_region 4 with fail
    rw [HW4.out.1, HW4.out.2]
    have l0 := HF0.out.1.box
    have d0 := l0.cell 0 _ rfl
    have d1 := l0.cell 1 _ rfl
    have d2 := l0.cell 2 _ rfl
    have d3 := l0.cell 3 _ rfl
    have d4 := l0.cell 4 _ rfl
    have d5 := l0.cell 5 _ rfl
    have d6 := l0.cell 6 _ rfl
    have d7 := l0.cell 7 _ rfl
    clear l0
    have HS1 : Hid (Calls Try.prog 46 #[.agg #[.pointer (some ⟨g0, 0, none⟩), .int .i64 aq, .slice aa1 an1 ac1, .slice aa2 an2 ac2, .slice aa3 an3 ac3, .slice aa4 an4 ac4, .int .i64 al, .bool ad], .agg #[.int .i64 1, .bool false, .string ⟨#[122]⟩, .string ⟨#[]⟩, .int .i64 0, .slice none 0 0, .slice none 0 0, .slice none 0 0]] W4 fun e w' => ∃ g1 S1 M1 R1 K1 bq ba1 bn1 bc1 ba2 bn2 bc2 ba3 bn3 bc3 ba4 bn4 bc4 bl bd, e = .returned (.tuple #[.agg #[.pointer (some ⟨g1, 0, none⟩), .int .i64 bq, .slice ba1 bn1 bc1, .slice ba2 bn2 bc2, .slice ba3 bn3 bc3, .slice ba4 bn4 bc4, .int .i64 bl, .bool bd], .bool true]) ∧ LB w' p4 56 [.pointer (some ⟨g0, 0, none⟩), .int .i64 aq, .slice aa1 an1 ac1, .slice aa2 an2 ac2, .slice aa3 an3 ac3, .slice aa4 an4 ac4, .int .i64 al, .bool ad] ∧ FS B 1048577 K1 (putAll w' p4 0 [.pointer (some ⟨g1, 0, none⟩), .int .i64 bq, .slice ba1 bn1 bc1, .slice ba2 bn2 bc2, .slice ba3 bn3 bc3, .slice ba4 bn4 bc4, .int .i64 bl, .bool bd]) p4 g1 S1 M1 R1 ⟨some ⟨g1, 0, none⟩, bq, ba1, bn1, bc1, ba2, bn2, bc2, ba3, bn3, bc3, ba4, bn4, bc4, bl, bd⟩ ∧ Below B W2 (putAll w' p4 0 [.pointer (some ⟨g1, 0, none⟩), .int .i64 bq, .slice ba1 bn1 bc1, .slice ba2 bn2 bc2, .slice ba3 bn3 bc3, .slice ba4 bn4 bc4, .int .i64 bl, .bool bd])) := (fs_step ⟨1, false, ⟨#[122]⟩, ⟨#[]⟩, 0, none, 0, [], none, 0, [], none, 0, 0⟩ HF0.out.1 (Nat.le_trans HSB.out (HF0.out.2).size) (by omega) ⟨⟨⟨by decide, by decide⟩, Bs.nil _, cts_nil _, by decide⟩, by decide, by decide, [], fls_nil _, Nat.zero_le _, (fun x hx => by cases hx), Nat.zero_le _⟩ (fun h => absurd rfl h)).mono fun e w' ⟨g', S', M', R', K', bq, ba1, bn1, bc1, ba2, bn2, bc2, ba3, bn3, bc3, ba4, bn4, bc4, bl, bd, h1, h2⟩ => by
      obtain ⟨h3, h4⟩ := (HF0.out.1).step (y' := ⟨some ⟨g', 0, none⟩, bq, ba1, bn1, bc1, ba2, bn2, bc2, ba3, bn3, bc3, ba4, bn4, bc4, bl, bd⟩) rfl h2
      exact ⟨g', S', M', R', K', _, _, _, _, _, _, _, _, _, _, _, _, _, _, _, h1, h3, h4, putAll_bel (HF0.out.2.trans (h2.fr.below B (Nat.le_trans HSB.out (HF0.out.2).size) fun q hq => ((HF0.out.1).pm.dm.ft hq).1)) HPB.out _ _⟩
    go_wp2_with fail
    refine HS1.out.mono ?_
    rintro e w1 ⟨g1, S1, M1, R1, K1, bq, ba1, bn1, bc1, ba2, bn2, bc2, ba3, bn3, bc3, ba4, bn4, bc4, bl, bd, rfl, l1, f1, b1⟩
    clear d0 d1 d2 d3 d4 d5 d6 d7
    have d0 := l1.cell 0 _ rfl
    have d1 := l1.cell 1 _ rfl
    have d2 := l1.cell 2 _ rfl
    have d3 := l1.cell 3 _ rfl
    have d4 := l1.cell 4 _ rfl
    have d5 := l1.cell 5 _ rfl
    have d6 := l1.cell 6 _ rfl
    have d7 := l1.cell 7 _ rfl
    have u0 := l1.free 0
    have u1 := l1.free 1
    have u2 := l1.free 2
    have u3 := l1.free 3
    have u4 := l1.free 4
    have u5 := l1.free 5
    have u6 := l1.free 6
    have u7 := l1.free 7
    clear l1
    obtain ⟨W6, hWn⟩ : ∃ W, W = putAll w1 p4 0 [.pointer (some ⟨g1, 0, none⟩), .int .i64 bq, .slice ba1 bn1 bc1, .slice ba2 bn2 bc2, .slice ba3 bn3 bc3, .slice ba4 bn4 bc4, .int .i64 bl, .bool bd] := ⟨_, rfl⟩
    have HW1 : Hid (((((((((w1.setCell ⟨p4, 0, none⟩ (.pointer (some ⟨g1, 0, none⟩))).setCell ⟨p4, 1, none⟩ (.int .i64 bq)).setCell ⟨p4, 2, none⟩ (.slice ba1 bn1 bc1)).setCell ⟨p4, 3, none⟩ (.slice ba2 bn2 bc2)).setCell ⟨p4, 4, none⟩ (.slice ba3 bn3 bc3)).setCell ⟨p4, 5, none⟩ (.slice ba4 bn4 bc4)).setCell ⟨p4, 6, none⟩ (.int .i64 bl)).setCell ⟨p4, 7, none⟩ (.bool bd)) = W6) := hWn.symm
    have HF1 : Hid (FS B 1048577 K1 W6 p4 g1 S1 M1 R1 ⟨some ⟨g1, 0, none⟩, bq, ba1, bn1, bc1, ba2, bn2, bc2, ba3, bn3, bc3, ba4, bn4, bc4, bl, bd⟩ ∧ Below B W2 W6) := by
      rw [hWn]
      exact ⟨f1, b1⟩
    clear hWn f1 b1 HS1
    go_upto_region 7 with fail
    rw [HW1.out]
    clear d0 d1 d2 d3 d4 d5 d6 d7
    clear u0 u1 u2 u3 u4 u5 u6 u7
    have l1 := HF1.out.1.box
    have d0 := l1.cell 0 _ rfl
    have d1 := l1.cell 1 _ rfl
    have d2 := l1.cell 2 _ rfl
    have d3 := l1.cell 3 _ rfl
    have d4 := l1.cell 4 _ rfl
    have d5 := l1.cell 5 _ rfl
    have d6 := l1.cell 6 _ rfl
    have d7 := l1.cell 7 _ rfl
    clear l1
    have hb7 := up0 W6 (.cells #[.int .u8 1, .int .u8 2] 5)
    have HS2 : Hid (Calls Try.prog 46 #[.agg #[.pointer (some ⟨g1, 0, none⟩), .int .i64 bq, .slice ba1 bn1 bc1, .slice ba2 bn2 bc2, .slice ba3 bn3 bc3, .slice ba4 bn4 bc4, .int .i64 bl, .bool bd], .agg #[.int .i64 2, .bool false, .string ⟨#[122]⟩, .string ⟨#[]⟩, .int .i64 0, .slice (some ⟨W6.heap.size, 0, none⟩) 2 2, .slice none 0 0, .slice none 0 0]] (W6.alloc (.cells #[.int .u8 1, .int .u8 2] 5)) fun e w' => ∃ g2 S2 M2 R2 K2 cq ca1 cn1 cc1 ca2 cn2 cc2 ca3 cn3 cc3 ca4 cn4 cc4 cl cd, e = .returned (.tuple #[.agg #[.pointer (some ⟨g2, 0, none⟩), .int .i64 cq, .slice ca1 cn1 cc1, .slice ca2 cn2 cc2, .slice ca3 cn3 cc3, .slice ca4 cn4 cc4, .int .i64 cl, .bool cd], .bool true]) ∧ LB w' p4 56 [.pointer (some ⟨g1, 0, none⟩), .int .i64 bq, .slice ba1 bn1 bc1, .slice ba2 bn2 bc2, .slice ba3 bn3 bc3, .slice ba4 bn4 bc4, .int .i64 bl, .bool bd] ∧ FS B 1048578 K2 (putAll w' p4 0 [.pointer (some ⟨g2, 0, none⟩), .int .i64 cq, .slice ca1 cn1 cc1, .slice ca2 cn2 cc2, .slice ca3 cn3 cc3, .slice ca4 cn4 cc4, .int .i64 cl, .bool cd]) p4 g2 S2 M2 R2 ⟨some ⟨g2, 0, none⟩, cq, ca1, cn1, cc1, ca2, cn2, cc2, ca3, cn3, cc3, ca4, cn4, cc4, cl, cd⟩ ∧ Below B W2 (putAll w' p4 0 [.pointer (some ⟨g2, 0, none⟩), .int .i64 cq, .slice ca1 cn1 cc1, .slice ca2 cn2 cc2, .slice ca3 cn3 cc3, .slice ca4 cn4 cc4, .int .i64 cl, .bool cd])) := (fs_step ⟨2, false, ⟨#[122]⟩, ⟨#[]⟩, 0, some ⟨W6.heap.size, 0, none⟩, 2, [1, 2], none, 0, [], none, 0, 0⟩ (HF1.out.1.kept hb7) (Nat.le_trans HSB.out ((HF1.out.2.trans (hb7.mono (Nat.le_trans HSB.out HF1.out.2.size)))).size) (by omega) ⟨⟨⟨show (1 : Nat) ≤ maxLen by decide, show (0 : Nat) ≤ maxLen by decide⟩, bs_two W6, cts_nil _, show (0 : Int) ≤ 9223372036854775807 by decide⟩, show (2 : Nat) ≤ 1048576 by decide, show (0 : Nat) ≤ 1048576 by decide, [], fls_nil _, Nat.zero_le _, (fun x hx => by cases hx), Nat.zero_le _⟩ (fun _ q z e hq => by have h8 := (HF1.out.1.pm.dm.ft hq).2; simp only [Option.some.injEq, Addr.mk.injEq] at e; omega)).mono fun e w' ⟨g', S', M', R', K', cq, ca1, cn1, cc1, ca2, cn2, cc2, ca3, cn3, cc3, ca4, cn4, cc4, cl, cd, h1, h2⟩ => by
      obtain ⟨h3, h4⟩ := ((HF1.out.1.kept hb7)).step (y' := ⟨some ⟨g', 0, none⟩, cq, ca1, cn1, cc1, ca2, cn2, cc2, ca3, cn3, cc3, ca4, cn4, cc4, cl, cd⟩) rfl h2
      exact ⟨g', S', M', R', K', _, _, _, _, _, _, _, _, _, _, _, _, _, _, _, h1, h3, h4, putAll_bel ((HF1.out.2.trans (hb7.mono (Nat.le_trans HSB.out HF1.out.2.size))).trans (h2.fr.below B (Nat.le_trans HSB.out ((HF1.out.2.trans (hb7.mono (Nat.le_trans HSB.out HF1.out.2.size)))).size) fun q hq => (((HF1.out.1.kept hb7)).pm.dm.ft hq).1)) HPB.out _ _⟩
    clear hb7
    go_wp2_with fail
    refine HS2.out.mono ?_
    rintro e w2 ⟨g2, S2, M2, R2, K2, cq, ca1, cn1, cc1, ca2, cn2, cc2, ca3, cn3, cc3, ca4, cn4, cc4, cl, cd, rfl, l2, f2, b2⟩
    clear d0 d1 d2 d3 d4 d5 d6 d7
    have d0 := l2.cell 0 _ rfl
    have d1 := l2.cell 1 _ rfl
    have d2 := l2.cell 2 _ rfl
    have d3 := l2.cell 3 _ rfl
    have d4 := l2.cell 4 _ rfl
    have d5 := l2.cell 5 _ rfl
    have d6 := l2.cell 6 _ rfl
    have d7 := l2.cell 7 _ rfl
    have u0 := l2.free 0
    have u1 := l2.free 1
    have u2 := l2.free 2
    have u3 := l2.free 3
    have u4 := l2.free 4
    have u5 := l2.free 5
    have u6 := l2.free 6
    have u7 := l2.free 7
    clear l2
    obtain ⟨W8, hWn⟩ : ∃ W, W = putAll w2 p4 0 [.pointer (some ⟨g2, 0, none⟩), .int .i64 cq, .slice ca1 cn1 cc1, .slice ca2 cn2 cc2, .slice ca3 cn3 cc3, .slice ca4 cn4 cc4, .int .i64 cl, .bool cd] := ⟨_, rfl⟩
    have HW2 : Hid (((((((((w2.setCell ⟨p4, 0, none⟩ (.pointer (some ⟨g2, 0, none⟩))).setCell ⟨p4, 1, none⟩ (.int .i64 cq)).setCell ⟨p4, 2, none⟩ (.slice ca1 cn1 cc1)).setCell ⟨p4, 3, none⟩ (.slice ca2 cn2 cc2)).setCell ⟨p4, 4, none⟩ (.slice ca3 cn3 cc3)).setCell ⟨p4, 5, none⟩ (.slice ca4 cn4 cc4)).setCell ⟨p4, 6, none⟩ (.int .i64 cl)).setCell ⟨p4, 7, none⟩ (.bool cd)) = W8) := hWn.symm
    have HF2 : Hid (FS B 1048578 K2 W8 p4 g2 S2 M2 R2 ⟨some ⟨g2, 0, none⟩, cq, ca1, cn1, cc1, ca2, cn2, cc2, ca3, cn3, cc3, ca4, cn4, cc4, cl, cd⟩ ∧ Below B W2 W8) := by
      rw [hWn]
      exact ⟨f2, b2⟩
    clear hWn f2 b2 HS2
    go_upto_region 10 with fail
    rw [HW2.out]
    clear d0 d1 d2 d3 d4 d5 d6 d7
    clear u0 u1 u2 u3 u4 u5 u6 u7
    have l2 := HF2.out.1.box
    have d0 := l2.cell 0 _ rfl
    have d1 := l2.cell 1 _ rfl
    have d2 := l2.cell 2 _ rfl
    have d3 := l2.cell 3 _ rfl
    have d4 := l2.cell 4 _ rfl
    have d5 := l2.cell 5 _ rfl
    have d6 := l2.cell 6 _ rfl
    have d7 := l2.cell 7 _ rfl
    clear l2
    have HS3 : Hid (Calls Try.prog 46 #[.agg #[.pointer (some ⟨g2, 0, none⟩), .int .i64 cq, .slice ca1 cn1 cc1, .slice ca2 cn2 cc2, .slice ca3 cn3 cc3, .slice ca4 cn4 cc4, .int .i64 cl, .bool cd], .agg #[.int .i64 8, .bool false, .string ⟨#[122]⟩, .string ⟨#[]⟩, .int .i64 0, .slice none 0 0, .slice none 0 0, .slice none 0 0]] W8 fun e w' => ∃ g3 S3 M3 R3 K3 eq ea1 en1 ec1 ea2 en2 ec2 ea3 en3 ec3 ea4 en4 ec4 el ed, e = .returned (.tuple #[.agg #[.pointer (some ⟨g3, 0, none⟩), .int .i64 eq, .slice ea1 en1 ec1, .slice ea2 en2 ec2, .slice ea3 en3 ec3, .slice ea4 en4 ec4, .int .i64 el, .bool ed], .bool true]) ∧ LB w' p4 56 [.pointer (some ⟨g2, 0, none⟩), .int .i64 cq, .slice ca1 cn1 cc1, .slice ca2 cn2 cc2, .slice ca3 cn3 cc3, .slice ca4 cn4 cc4, .int .i64 cl, .bool cd] ∧ FS B 1048579 K3 (putAll w' p4 0 [.pointer (some ⟨g3, 0, none⟩), .int .i64 eq, .slice ea1 en1 ec1, .slice ea2 en2 ec2, .slice ea3 en3 ec3, .slice ea4 en4 ec4, .int .i64 el, .bool ed]) p4 g3 S3 M3 R3 ⟨some ⟨g3, 0, none⟩, eq, ea1, en1, ec1, ea2, en2, ec2, ea3, en3, ec3, ea4, en4, ec4, el, ed⟩ ∧ Below B W2 (putAll w' p4 0 [.pointer (some ⟨g3, 0, none⟩), .int .i64 eq, .slice ea1 en1 ec1, .slice ea2 en2 ec2, .slice ea3 en3 ec3, .slice ea4 en4 ec4, .int .i64 el, .bool ed])) := (fs_step ⟨8, false, ⟨#[122]⟩, ⟨#[]⟩, 0, none, 0, [], none, 0, [], none, 0, 0⟩ HF2.out.1 (Nat.le_trans HSB.out (HF2.out.2).size) (by omega) ⟨⟨⟨by decide, by decide⟩, Bs.nil _, cts_nil _, by decide⟩, by decide, by decide, [], fls_nil _, Nat.zero_le _, (fun x hx => by cases hx), Nat.zero_le _⟩ (fun h => absurd rfl h)).mono fun e w' ⟨g', S', M', R', K', eq, ea1, en1, ec1, ea2, en2, ec2, ea3, en3, ec3, ea4, en4, ec4, el, ed, h1, h2⟩ => by
      obtain ⟨h3, h4⟩ := (HF2.out.1).step (y' := ⟨some ⟨g', 0, none⟩, eq, ea1, en1, ec1, ea2, en2, ec2, ea3, en3, ec3, ea4, en4, ec4, el, ed⟩) rfl h2
      exact ⟨g', S', M', R', K', _, _, _, _, _, _, _, _, _, _, _, _, _, _, _, h1, h3, h4, putAll_bel (HF2.out.2.trans (h2.fr.below B (Nat.le_trans HSB.out (HF2.out.2).size) fun q hq => ((HF2.out.1).pm.dm.ft hq).1)) HPB.out _ _⟩
    go_wp2_with fail
    refine HS3.out.mono ?_
    rintro e w3 ⟨g3, S3, M3, R3, K3, eq, ea1, en1, ec1, ea2, en2, ec2, ea3, en3, ec3, ea4, en4, ec4, el, ed, rfl, l3, f3, b3⟩
    clear d0 d1 d2 d3 d4 d5 d6 d7
    have d0 := l3.cell 0 _ rfl
    have d1 := l3.cell 1 _ rfl
    have d2 := l3.cell 2 _ rfl
    have d3 := l3.cell 3 _ rfl
    have d4 := l3.cell 4 _ rfl
    have d5 := l3.cell 5 _ rfl
    have d6 := l3.cell 6 _ rfl
    have d7 := l3.cell 7 _ rfl
    have u0 := l3.free 0
    have u1 := l3.free 1
    have u2 := l3.free 2
    have u3 := l3.free 3
    have u4 := l3.free 4
    have u5 := l3.free 5
    have u6 := l3.free 6
    have u7 := l3.free 7
    clear l3
    obtain ⟨W10, hWn⟩ : ∃ W, W = putAll w3 p4 0 [.pointer (some ⟨g3, 0, none⟩), .int .i64 eq, .slice ea1 en1 ec1, .slice ea2 en2 ec2, .slice ea3 en3 ec3, .slice ea4 en4 ec4, .int .i64 el, .bool ed] := ⟨_, rfl⟩
    have HW3 : Hid (((((((((w3.setCell ⟨p4, 0, none⟩ (.pointer (some ⟨g3, 0, none⟩))).setCell ⟨p4, 1, none⟩ (.int .i64 eq)).setCell ⟨p4, 2, none⟩ (.slice ea1 en1 ec1)).setCell ⟨p4, 3, none⟩ (.slice ea2 en2 ec2)).setCell ⟨p4, 4, none⟩ (.slice ea3 en3 ec3)).setCell ⟨p4, 5, none⟩ (.slice ea4 en4 ec4)).setCell ⟨p4, 6, none⟩ (.int .i64 el)).setCell ⟨p4, 7, none⟩ (.bool ed)) = W10) := hWn.symm
    have HF3 : Hid (FS B 1048579 K3 W10 p4 g3 S3 M3 R3 ⟨some ⟨g3, 0, none⟩, eq, ea1, en1, ec1, ea2, en2, ec2, ea3, en3, ec3, ea4, en4, ec4, el, ed⟩ ∧ Below B W2 W10) := by
      rw [hWn]
      exact ⟨f3, b3⟩
    clear hWn f3 b3 HS3
    go_upto_region 13 with fail
    rw [HW3.out]
    clear d0 d1 d2 d3 d4 d5 d6 d7
    clear u0 u1 u2 u3 u4 u5 u6 u7
    have l3 := HF3.out.1.box
    have d0 := l3.cell 0 _ rfl
    have d1 := l3.cell 1 _ rfl
    have d2 := l3.cell 2 _ rfl
    have d3 := l3.cell 3 _ rfl
    have d4 := l3.cell 4 _ rfl
    have d5 := l3.cell 5 _ rfl
    have d6 := l3.cell 6 _ rfl
    have d7 := l3.cell 7 _ rfl
    clear l3
    have L2 : LB W10 p2 56 [.pointer none, .int .i64 0, .slice none 0 0, .slice none 0 0, .slice none 0 0, .slice none 0 0, .int .i64 0, .bool false] := lb_kept9 HL2.out.2 HF3.out.2 HL2.out.1
    have HL9 : Hid (LB W10 p2 56 [.pointer none, .int .i64 0, .slice none 0 0, .slice none 0 0, .slice none 0 0, .slice none 0 0, .int .i64 0, .bool false]) := L2
    have z0 := L2.cell 0 _ rfl
    have z1 := L2.cell 1 _ rfl
    have z2 := L2.cell 2 _ rfl
    have z3 := L2.cell 3 _ rfl
    have z4 := L2.cell 4 _ rfl
    have z5 := L2.cell 5 _ rfl
    have z6 := L2.cell 6 _ rfl
    have z7 := L2.cell 7 _ rfl
    have v0 := L2.free 0
    have v1 := L2.free 1
    have v2 := L2.free 2
    have v3 := L2.free 3
    have v4 := L2.free 4
    have v5 := L2.free 5
    have v6 := L2.free 6
    have v7 := L2.free 7
    clear L2
    go_wp2_with fail
    refine bodyPost_ret (results_cell_slot rfl _ _ p2 [.pointer (some ⟨g3, 0, none⟩), .int .i64 eq, .slice ea1 en1 ec1, .slice ea2 en2 ec2, .slice ea3 en3 ec3, .slice ea4 en4 ec4, .int .i64 el, .bool ed] _ rfl (putAll_lb [.pointer (some ⟨g3, 0, none⟩), .int .i64 eq, .slice ea1 en1 ec1, .slice ea2 en2 ec2, .slice ea3 en3 ec3, .slice ea4 en4 ec4, .int .i64 el, .bool ed] HL9.out rfl).range Try.underlying56 rfl (by kernel_rfl)) rfl ?_
    exact first_fin (r := [.pointer (some ⟨g3, 0, none⟩), .int .i64 eq, .slice ea1 en1 ec1, .slice ea2 en2 ec2, .slice ea3 en3 ec3, .slice ea4 en4 ec4, .int .i64 el, .bool ed]) HSB.out HL2.out.1 HF3.out.1 HF3.out.2 HB2.out.1 HB2.out.2 rfl
end Go.Proofs.Ytjepeeopjjnglab
