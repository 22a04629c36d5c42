import Derived.Test.YtceokpklcfmadaaQI2
/-
  Package index: the reader's offsets.
-/
namespace Go.Proofs.Ytceokpklcfmadaa
open Go Go.RowKit Go.ChangeShapes
open Wb

/-- what stands behind so many offsets -/
structure OS (w0 : World) (bv : Value) (gr g b base n : Nat) (kvs : Ix.Gm) (key : Nat) (W0 : World) (p : Nat) (acc : List Nat) (wr : World) : Prop where
  ri : RI w0 bv gr p wr
  mi : MI wr g b base (n + acc.length) (Ix.withK kvs key acc)
  fr : IFr W0 wr (fun q => q = gr ∨ q = b ∨ Mrow W0 b q)
  mr : ∀ q, Mrow wr b q → Mrow W0 b q ∨ W0.heap.size ≤ q
section
variable {w0 : World} {bv : Value} {gr g b base n : Nat} {kvs : Ix.Gm} {key : Nat} {W0 : World} {p : Nat} {acc : List Nat} {wr : World}
theorem OS.num (h : OS w0 bv gr g b base n kvs key W0 p acc wr) (h1 : gr ≠ g) (h2 : gr ≠ b) (h3 : gr < base) {p' : Nat} {W1 : World} (r : RI w0 bv gr p' W1) (hg : wr.grownBy W1 (some gr)) : OS w0 bv gr g b base n kvs key W0 p' acc W1 := by
  have hb : W1.heap[b]? = wr.heap[b]? := hg.block b h.mi.blt.2 fun e => h2 (Option.some.inj e).symm
  refine ⟨r, h.mi.frame hg (fun e => h2 (Option.some.inj e)) (fun e => h1 (Option.some.inj e)) fun k e hm => ?_, h.fr.trans (IFr.of (F := fun q => q = gr ∨ q = b ∨ Mrow W0 b q) hg fun k _ e => .inl (Option.some.inj e).symm) fun k _ e => e, fun q hq => h.mr q (hq.same hb)⟩
  have := (h.mi.row hm).1
  have := Option.some.inj e
  omega
theorem OS.add (h : OS w0 bv gr g b base n kvs key W0 p acc wr) (h2 : gr ≠ b) (h3 : gr < base) (h4 : w0.heap.size ≤ b) (hk : ∀ p ∈ kvs, p.1 < (key : Int)) {x : Nat} {W2 : World} (m : MI W2 g b base (n + acc.length + 1) (Ix.add (Ix.withK kvs key acc) (key : Int) (x : Int))) (f : IFr wr W2 (fun q => q = b ∨ Mrow wr b q)) (hq : ∀ q, Mrow W2 b q → Mrow wr b q ∨ wr.heap.size ≤ q) : OS w0 bv gr g b base n kvs key W0 p (acc ++ [x]) W2 := by
  refine ⟨h.ri.other f (fun e => ?_) (fun k e => ?_), ?_, h.fr.trans f fun k hlt e => ?_, fun q hm => ?_⟩
  · rcases e with e | e
    · exact h2 e
    · have := (h.mi.row e).1
      omega
  · rcases e with e | e
    · omega
    · have := (h.mi.row e).1
      have := h.mi.blt.1
      omega
  · rw [Ix.withK_add kvs key x acc hk] at m
    rw [List.length_append, List.length_singleton, ← Nat.add_assoc]
    exact m
  · rcases e with e | e
    · exact .inr (.inl e)
    · rcases h.mr k e with e | e
      · exact .inr (.inr e)
      · omega
  · rcases hq q hm with e | e
    · exact h.mr q e
    · exact .inr (Nat.le_trans h.fr.size e)
end
def OfPost (l : List Nat) (w0 : World) (bv : Value) (gr g b base n : Nat) (kvs : Ix.Gm) (key p : Nat) (W : World) (e : Ending) (W' : World) : Prop := e = .returned (.int .i64 ((Ix.offsP l p).1 : Int)) ∧ OS w0 bv gr g b base n kvs key W (Ix.offsP l p).2.1 (Ix.offsP l p).2.2 W'
set_option maxRecDepth 100000 in
set_option maxHeartbeats 4000000 in
theorem ixoffs_any (w0 : World) (bv : Value) (l : List Nat) (gr g b base n : Nat) (kvs : Ix.Gm) (key p : Nat) (W : World) (hb : Bs w0 bv l) (hl : l.length ≤ 10000000) (hp : p ≤ l.length) (hr : RI w0 bv gr p W) (hm : MI W g b base n kvs) (h1 : gr ≠ g) (h2 : gr ≠ b) (h3 : gr < base) (h4 : w0.heap.size ≤ b) (hk : ∀ p ∈ kvs, p.1 < (key : Int)) (hkl : key ≤ 9223372036854775807) (hn : n ≤ 10000000) :
    Calls Try.prog 55 #[.pointer (some ⟨gr, 0, none⟩), .pointer (some ⟨g, 0, none⟩), .int .i64 (key : Int)] W fun e W' => OfPost l w0 bv gr g b base n kvs key p W e W' := by
  have HNM : Hid (∀ (q : Nat) (W' : World), q ≤ l.length → RI w0 bv gr q W' → Calls Try.prog 53 #[.pointer (some ⟨gr, 0, none⟩)] W' fun e W'' => e = .returned (.tuple #[.int .u64 ((Ix.nm l q).1 : Int), .int .i64 ((Ix.nm l q).2.2 : Int)]) ∧ RI w0 bv gr (Ix.nm l q).2.1 W'' ∧ W'.grownBy W'' (some gr)) := fun q W' hq hR => (ixnum_any w0 bv l gr q W' hb (by omega) hq hR).mono fun e W'' ⟨v, p', er, e1, e2, e3, e4⟩ => by rw [e1]; exact ⟨e2, e3, e4⟩
  have HLT : Hid (∀ q, q ≤ l.length → (Ix.nm l q).1 < 18446744073709551616 ∧ q ≤ (Ix.nm l q).2.1 ∧ (Ix.nm l q).2.1 ≤ l.length ∧ ((Ix.nm l q).2.2 = 0 → q < (Ix.nm l q).2.1) ∧ ((Ix.nm l q).2.2 ≠ 0 → (Ix.nm l q).2.1 = q)) := fun q hq => ⟨Ix.nm_lt l hb.good q hq, (Ix.nm_le l q hq).1, (Ix.nm_le l q hq).2.1, (Ix.nm_le l q hq).2.2, fun h0 => by
    rcases Ix.nm_ru l q hq with ⟨er', -, -, e, -⟩ | ⟨v', q', -, -, e, -, -⟩
    · rw [e]
    · rw [e] at h0
      exact absurd rfl h0⟩
  have HC : Hid (gr ≠ g ∧ gr ≠ b ∧ gr < base ∧ w0.heap.size ≤ b ∧ (∀ p ∈ kvs, p.1 < (key : Int)) ∧ (Lit.int .i64 (key : Int)).wf = true ∧ n ≤ 10000000) := ⟨h1, h2, h3, h4, hk, WalkArith.wf_i64 (by omega), hn⟩
  have HO : Hid (OS w0 bv gr g b base n kvs key W p [] W) := ⟨hr, hm, IFr.refl _ _, fun q h => .inl h⟩
  obtain ⟨A, hA⟩ : ∃ A, Ix.offsP l p = A := ⟨_, rfl⟩
  unfold OfPost
  rw [hA]
  unfold Ix.offsP at hA
  clear hr hm h1 h2 h3 h4 hk hb hn
  have hlt0 := HLT.out p hp
  have HN0 : Hid (Calls Try.prog 53 #[.pointer (some ⟨gr, 0, none⟩)] W fun e W'' => e = .returned (.tuple #[.int .u64 ((Ix.nm l p).1 : Int), .int .i64 ((Ix.nm l p).2.2 : Int)]) ∧ RI w0 bv gr (Ix.nm l p).2.1 W'' ∧ W.grownBy W'' (some gr)) := HNM.out p W hp HO.out.ri
  obtain ⟨cnt, q0, er, hnm⟩ : ∃ v q er, Ix.nm l p = (v, q, er) := ⟨_, _, _, rfl⟩
  rw [hnm] at hA hlt0 HN0
  simp only at hA hlt0 HN0
  obtain ⟨hcl, hq1, hq2, hq3, hq4⟩ := hlt0
  have HQ : Hid (p ≤ q0 ∧ q0 ≤ l.length ∧ (er = 0 → p < q0) ∧ (er ≠ 0 → q0 = p)) := ⟨hq1, hq2, hq3, hq4⟩
  clear hnm hq1 hq2 hq3 hq4
  by_cases h0 : er ≠ 0
  · rw [if_pos h0] at hA
    have HA : Hid ((er, p, []) = A ∧ q0 = p) := ⟨hA, HQ.out.2.2.2 h0⟩
    have hd : ((er : Int) != 0) = true := by simp; exact h0
    clear h0 hA
    go_enter Try.func55, Try.ntmps55
    go_wp2_with fail
    refine HN0.out.mono ?_
    rintro e W1 ⟨rfl, r1, g1⟩
    have HR : Hid (OS w0 bv gr g b base n kvs key W q0 [] W1) := HO.out.num HC.out.1 HC.out.2.1 HC.out.2.2.1 r1 g1
    clear r1 g1 HN0
    go_wp2_with fail
    go_ret
    rw [← HA.out.1]
    refine ⟨rfl, ?_⟩
    have := HR.out
    rw [HA.out.2] at this
    exact this
  · obtain rfl : er = 0 := by omega
    rw [if_neg (by simp)] at hA
    by_cases hz : cnt = 0
    · rw [if_pos hz] at hA
      subst hA
      subst hz
      clear h0
      go_enter Try.func55, Try.ntmps55
      go_wp2_with fail
      refine HN0.out.mono ?_
      rintro e W1 ⟨rfl, r1, g1⟩
      have HR : Hid (OS w0 bv gr g b base n kvs key W q0 [] W1) := HO.out.num HC.out.1 HC.out.2.1 HC.out.2.2.1 r1 g1
      clear r1 g1 HN0
      go_wp2_with fail
      go_ret
      exact ⟨rfl, HR.out⟩
    · rw [if_neg hz] at hA
      have hzb : ((cnt : Int) == 0) = false := by simp; exact hz
      have HA : Hid (Ix.offP l cnt true q0 0 [] = A) := hA
      clear hA hz h0
      go_enter Try.func55, Try.ntmps55
      go_wp2_with fail
      refine HN0.out.mono ?_
      rintro e W1 ⟨rfl, r1, g1⟩
      have HR : Hid (OS w0 bv gr g b base n kvs key W q0 [] W1) := HO.out.num HC.out.1 HC.out.2.1 HC.out.2.2.1 r1 g1
      clear r1 g1 HN0 HO
      go_wp2_with fail
      go_loopw [24, 9] (fun iv ov wr => ∃ (i q off : Nat) (acc : List Nat), i ≤ cnt ∧ iv = .int .u64 (i : Int) ∧ ov = .int .i64 (off : Int) ∧ Ix.offP l (cnt - i) (decide (i = 0)) q off acc = A ∧ OS w0 bv gr g b base n kvs key W q acc wr ∧ q ≤ l.length ∧ off ≤ 9223372036854775807 ∧ acc.length ≤ q) (fun iv _ _ => cnt - (intOf iv).toNat)
      case atStart => exact ⟨0, q0, 0, [], Nat.zero_le _, rfl, rfl, HA.out, HR.out, HQ.out.2.1, by omega, Nat.zero_le _⟩
      case round =>
        clear HR HA
        obtain ⟨i, q, off, acc, hi, rfl, rfl, hA, hos, hq, hof, hal⟩ := hrel
        have HOS : Hid (OS w0 bv gr g b base n kvs key W q acc wr) := hos
        have HQQ : Hid (acc.length ≤ q ∧ q ≤ l.length) := ⟨hal, hq⟩
        by_cases hlt : i < cnt
        · have HN1 : Hid (Calls Try.prog 53 #[.pointer (some ⟨gr, 0, none⟩)] wr fun e W'' => e = .returned (.tuple #[.int .u64 ((Ix.nm l q).1 : Int), .int .i64 ((Ix.nm l q).2.2 : Int)]) ∧ RI w0 bv gr (Ix.nm l q).2.1 W'' ∧ wr.grownBy W'' (some gr)) := HNM.out q wr hq hos.ri
          have hlq := HLT.out q hq
          rw [show cnt - i = (cnt - (i + 1)) + 1 by omega, Ix.offP] at hA
          obtain ⟨v, q', er', hnm⟩ : ∃ v9 q9 er9, Ix.nm l q = (v9, q9, er9) := ⟨_, _, _, rfl⟩
          rw [hnm] at hA hlq HN1
          simp only at hA hlq HN1
          obtain ⟨hvl, -, hq2, hq3, hq4⟩ := hlq
          have HQ1 : Hid (q' ≤ l.length ∧ (er' = 0 → q < q') ∧ (er' ≠ 0 → q' = q)) := ⟨hq2, hq3, hq4⟩
          clear hnm hos hq2 hq3 hq4 hq hal HQ
          have hw1 : IntKind.i64.wrap (9223372036854775807 - (off : Int)) = 9223372036854775807 - (off : Int) := IntWalk.i64_in _ (by omega)
          have hw2 : IntKind.u64.wrap (9223372036854775807 - (off : Int)) = 9223372036854775807 - (off : Int) := IntWalk.u64_in _ (by omega)
          have hw5 : IntKind.u64.wrap ((i : Int) + 1) = (i : Int) + 1 := IntWalk.u64_in _ (by omega)
          by_cases h0 : er' ≠ 0
          · rw [if_pos h0] at hA
            have HA : Hid ((er', q, acc) = A ∧ q' = q) := ⟨hA, HQ1.out.2.2 h0⟩
            have hd : ((er' : Int) != 0) = true := by simp; exact h0
            clear h0 hA
            go_wp2_with fail
            refine HN1.out.mono ?_
            rintro e W2 ⟨rfl, r1, g1⟩
            have HR : Hid (OS w0 bv gr g b base n kvs key W q' acc W2) := HOS.out.num HC.out.1 HC.out.2.1 HC.out.2.2.1 r1 g1
            clear r1 g1 HN1
            go_wp2_with fail
            go_ret
            rw [← HA.out.1]
            refine ⟨rfl, ?_⟩
            have := HR.out
            rw [HA.out.2] at this
            exact this
          · obtain rfl : er' = 0 := by omega
            have HQ2 : Hid (q' ≤ l.length ∧ q < q') := ⟨HQ1.out.1, HQ1.out.2.1 rfl⟩
            clear HQ1
            rw [if_neg (by simp)] at hA
            by_cases hbad : (v = 0 ∧ decide (i = 0) = false) ∨ 9223372036854775807 - off < v
            · rw [if_pos hbad] at hA
              subst hA
              by_cases hv : v = 0
              · have hi0 : (0 < i) = True := by
                  simp only [eq_iff_iff, iff_true]
                  rcases hbad with h | h
                  · have := of_decide_eq_false h.2
                    omega
                  · omega
                have hvz : ((v : Int) == 0) = true := by rw [hv]; rfl
                clear h0 hbad hv
                go_wp2_with fail
                refine HN1.out.mono ?_
                rintro e W2 ⟨rfl, r1, g1⟩
                have HR : Hid (OS w0 bv gr g b base n kvs key W q' acc W2) := HOS.out.num HC.out.1 HC.out.2.1 HC.out.2.2.1 r1 g1
                clear r1 g1 HN1
                go_wp2_with fail
                go_ret
                exact ⟨rfl, HR.out⟩
              · have hvz : ((v : Int) == 0) = false := by simp; exact hv
                have hg : (9223372036854775807 - (off : Int) < (v : Int)) = True := by
                  simp only [eq_iff_iff, iff_true]
                  rcases hbad with h | h
                  · exact absurd h.1 hv
                  · omega
                clear h0 hbad
                go_wp2_with fail
                refine HN1.out.mono ?_
                rintro e W2 ⟨rfl, r1, g1⟩
                have HR : Hid (OS w0 bv gr g b base n kvs key W q' acc W2) := HOS.out.num HC.out.1 HC.out.2.1 HC.out.2.2.1 r1 g1
                clear r1 g1 HN1
                go_wp2_with fail
                go_ret
                exact ⟨rfl, HR.out⟩
            · rw [if_neg hbad] at hA
              have hvo : v ≤ 9223372036854775807 - off := by
                rcases Nat.lt_or_ge (9223372036854775807 - off) v with h | h
                · exact absurd (.inr h) hbad
                · exact h
              have hw3 : IntKind.i64.wrap (v : Int) = (v : Int) := IntWalk.i64_in _ (by omega)
              have hw4 : IntKind.i64.wrap ((off : Int) + (v : Int)) = (off : Int) + (v : Int) := IntWalk.i64_in _ (by omega)
              obtain ⟨off2, ho2⟩ : ∃ o, o = off + v := ⟨_, rfl⟩
              have hoe : (off : Int) + (v : Int) = (off2 : Int) := by omega
              rw [← ho2] at hA
              have HA : Hid (Ix.offP l (cnt - (i + 1)) (decide (i + 1 = 0)) q' off2 (acc ++ [off2]) = A) := by
                show _ = _
                rw [decide_eq_false (by omega)]
                exact hA
              have HO2 : Hid (off2 ≤ 9223372036854775807) := by show _ ≤ _; omega
              have HAD : Hid (∀ W2, OS w0 bv gr g b base n kvs key W q' acc W2 → Calls Try.prog 11 #[.pointer (some ⟨g, 0, none⟩), .int .i64 (key : Int), .int .i64 (off2 : Int)] W2 fun e w' => e = .returned (.tuple #[]) ∧ OS w0 bv gr g b base n kvs key W q' (acc ++ [off2]) w') := fun W2 h => (ixadd_any g b base (n + acc.length) _ (key : Int) (off2 : Int) W2 h.mi HC.out.2.2.2.2.2.1 (WalkArith.wf_i64 (by have := HO2.out; omega)) (by have := HC.out.2.2.2.2.2.2; have := HQQ.out; omega)).mono fun e w' ⟨e1, e2, e3, e4⟩ => ⟨e1, h.add HC.out.2.1 HC.out.2.2.1 HC.out.2.2.2.1 HC.out.2.2.2.2.1 e2 e3 e4⟩
              clear hA ho2
              by_cases hv : v = 0
              · have hi0 : (0 < i) = False := by
                  simp only [eq_iff_iff, iff_false]
                  intro h
                  exact hbad (.inl ⟨hv, decide_eq_false (by omega)⟩)
                have hg : (9223372036854775807 - (off : Int) < (v : Int)) = False := by simp only [eq_iff_iff, iff_false]; omega
                have hvz : ((v : Int) == 0) = true := by rw [hv]; rfl
                clear h0 hbad hv
                go_wp2_with fail
                refine HN1.out.mono ?_
                rintro e W2 ⟨rfl, r1, g1⟩
                have HR : Hid (OS w0 bv gr g b base n kvs key W q' acc W2) := HOS.out.num HC.out.1 HC.out.2.1 HC.out.2.2.1 r1 g1
                clear r1 g1 HN1
                go_wp2_with fail
                refine (HAD.out _ HR.out).mono ?_
                rintro e W3 ⟨rfl, s3⟩
                have HR3 : Hid (OS w0 bv gr g b base n kvs key W q' (acc ++ [off2]) W3) := s3
                clear s3 HR HAD
                go_wp2_with fail
                go_roundw
                case rel => exact ⟨i + 1, q', off2, acc ++ [off2], by omega, by go_num, rfl, HA.out, HR3.out, HQ2.out.1, HO2.out, by have h8 := HQ2.out.2; have h9 := HQQ.out.1; rw [List.length_append, List.length_singleton]; omega⟩
                case measure => simp [intOf]; omega
              · have hvz : ((v : Int) == 0) = false := by simp; exact hv
                have hg : (9223372036854775807 - (off : Int) < (v : Int)) = False := by simp only [eq_iff_iff, iff_false]; omega
                clear h0 hbad hv
                go_wp2_with fail
                refine HN1.out.mono ?_
                rintro e W2 ⟨rfl, r1, g1⟩
                have HR : Hid (OS w0 bv gr g b base n kvs key W q' acc W2) := HOS.out.num HC.out.1 HC.out.2.1 HC.out.2.2.1 r1 g1
                clear r1 g1 HN1
                go_wp2_with fail
                refine (HAD.out _ HR.out).mono ?_
                rintro e W3 ⟨rfl, s3⟩
                have HR3 : Hid (OS w0 bv gr g b base n kvs key W q' (acc ++ [off2]) W3) := s3
                clear s3 HR HAD
                go_wp2_with fail
                go_roundw
                case rel => exact ⟨i + 1, q', off2, acc ++ [off2], by omega, by go_num, rfl, HA.out, HR3.out, HQ2.out.1, HO2.out, by have h8 := HQ2.out.2; have h9 := HQQ.out.1; rw [List.length_append, List.length_singleton]; omega⟩
                case measure => simp [intOf]; omega
        · obtain rfl : cnt = i := by omega
          rw [Nat.sub_self, Ix.offP] at hA
          subst hA
          clear hos hq hal HQ
          go_wp2_with fail
          go_ret
          exact ⟨rfl, HOS.out⟩
end Go.Proofs.Ytceokpklcfmadaa
