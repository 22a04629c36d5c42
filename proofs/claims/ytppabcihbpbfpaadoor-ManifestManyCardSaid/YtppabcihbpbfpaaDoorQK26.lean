import Derived.Test.YtppabcihbpbfpaaDoorQK25
/-
  ManifestMany: swept, the walk.
-/
namespace Go.Proofs.YtppabcihbpbfpaaDoor
open Go Go.RowKit Go.ChangeShapes
open Wb
open Rd
theorem two_pairs {β : Type} {a b : List UInt8} : ∀ {l : List (List UInt8 × β)}, l.map (·.1) = [a, b] → ∃ d0 d1, l = [(a, d0), (b, d1)]
  | [], h => by simp at h
  | [_], h => by simp at h
  | [(a0, d0), (a1, d1)], h => by
    simp only [List.map_cons, List.map_nil, List.cons.injEq, and_true] at h
    obtain ⟨rfl, rfl⟩ := h
    exact ⟨d0, d1, rfl⟩
  | _ :: _ :: _ :: _, h => by simp at h
/-- what swept tells -/
def SwP (n k : Nat) (w : World) (e : Ending) (w' : World) : Prop := ∃ (a : Option Addr) (m c : Nat) (ns : List (List UInt8)), e = .returned (.tuple #[.slice a m c, .bool true]) ∧ m = ns.length ∧ NmR w.heap.size w' (.slice a m c) ns ∧ ns.length = n - 1 ∧ ns.Nodup ∧ (∀ s ∈ ns, ∃ i, 1 ≤ i ∧ i ≤ n ∧ i ≠ k ∧ s = Sw.sN i) ∧ Below w.heap.size w w'
set_option maxRecDepth 100000 in
set_option maxHeartbeats 16000000 in
theorem swept_any (n k : Nat) (w : World) (hT : NTab w) (hn : 1 ≤ n ∧ n ≤ 600) (hk : 1 ≤ k ∧ k ≤ n) :
    Calls Tryd.prog 4 #[.int .i64 (n : Int), .int .i64 (k : Int)] w (SwP n k w) := by
  have HTT : Hid (∀ W, Below w.heap.size w W → NTab W) := fun W hW => hT.kept hW
  have HMA : Hid (Calls Tryd.prog 7 #[.int .i64 (n : Int)] w fun e w' => ∃ v, e = .returned v ∧ Fls (w.heap.size ≤ ·) w' v (Sw.many n) ∧ Below w.heap.size w w') := many_any n w hn
  obtain ⟨hn1, hn2⟩ := hn
  obtain ⟨hk1, hk2⟩ := hk
  clear hT
  go_enter Tryd.func4, Tryd.ntmps4
  go_wp2_with fail
  refine HMA.out.mono ?_
  rintro e W1 ⟨v1, rfl, f1, b1⟩
  have HLD : Hid (Calls Tryd.prog 6 #[.int .i64 4194304, v1] W1 fun e w' => ∃ g S M, e = .returned (.tuple #[.pointer (some ⟨g, 0, none⟩), .int .i64 0]) ∧ DM W1.heap.size w' g S M ∧ Dk.WF S (n + 1) ∧ Rl S (rbgn 4194304 (Sw.many n)) ∧ Below W1.heap.size W1 w') := (dkload_rl 4194304 _ v1 (Sw.many n) W1 f1 (by rw [Sw.many_len]; omega) (fun x hx => by have := (Dk.isNm_len (Sw.many_nm (by omega) x hx)).2; unfold maxLen; omega)).mono fun e w' ⟨hb, h⟩ => by
    have h0 := Sw.many_ok (n := n) (by omega)
    rcases h with ⟨h1, -⟩ | ⟨-, g, S, M, h2, h3, h4, h5⟩
    · exact absurd h0 h1
    · rw [Sw.many_len] at h4
      exact ⟨g, S, M, h2, h3, h4, h5, hb⟩
  have HB1 : Hid (Below w.heap.size w W1) := b1
  clear f1 b1 HMA
  go_wp2_with fail
  refine HLD.out.mono ?_
  rintro e W2 ⟨g, S, M, rfl, hdm, hWF, hRl, b2⟩
  have H2 : Hid (DM W1.heap.size W2 g S M ∧ Dk.WF S (n + 1) ∧ Rl S (rbgn 4194304 (Sw.many n)) ∧ Below W1.heap.size W1 W2) := ⟨hdm, hWF, hRl, b2⟩
  have HRI : Hid (Dk.rising S.nm) := hdm.nm.1
  clear hdm hWF hRl b2 HLD
  obtain ⟨pS, hpS⟩ : ∃ p, p = W2.heap.size := ⟨_, rfl⟩
  obtain ⟨pM, hpM⟩ : ∃ p, p = W2.heap.size + 1 := ⟨_, rfl⟩
  have hbx := lb_new2 W2 [.int .i64 (k : Int), .int .i64 0, .int .i64 0] [.int .i64 1, .int .i64 3, .int .i64 ((n : Int) + 2), .int .i64 0, .slice (some ⟨W2.heap.size, 0, none⟩) 1 1] 35 38
  obtain ⟨W4, hW4⟩ : ∃ W, W = (W2.alloc (.cells #[.int .i64 (k : Int), .int .i64 0, .int .i64 0] 35)).alloc (.cells #[.int .i64 1, .int .i64 3, .int .i64 ((n : Int) + 2), .int .i64 0, .slice (some ⟨W2.heap.size, 0, none⟩) 1 1] 38) := ⟨_, rfl⟩
  have H4 : Hid (LB W4 pS 35 [.int .i64 (k : Int), .int .i64 0, .int .i64 0] ∧ LB W4 pM 38 [.int .i64 1, .int .i64 3, .int .i64 ((n : Int) + 2), .int .i64 0, .slice (some ⟨pS, 0, none⟩) 1 1] ∧ Below W2.heap.size W2 W4) := by
    rw [hW4, hpM, hpS]
    exact hbx
  have HW4 : Hid ((W2.alloc (.cells #[.int .i64 (k : Int), .int .i64 0, .int .i64 0] 35)).alloc (.cells #[.int .i64 1, .int .i64 3, .int .i64 ((n : Int) + 2), .int .i64 0, .slice (some ⟨W2.heap.size, 0, none⟩) 1 1] 38) = W4 ∧ W2.heap.size + 1 = pM ∧ W2.heap.size = pS) := ⟨hW4.symm, hpM.symm, hpS.symm⟩
  clear hbx hW4 hpM hpS
  go_upto_region 5 with fail
  rw [HW4.out.1, HW4.out.2.1, HW4.out.2.2]
  clear HW4
  have HSWR := Sw.many_swR (k := k) H2.out.2.2.1 H2.out.2.1 HRI.out hn2 ⟨hk1, hk2⟩
  obtain ⟨T, hTT⟩ : ∃ T, T = (Sw.swR S ⟨1, 3, ((n : Int) + 2), 0, [⟨(k : Int), 0, 0⟩]⟩).1 := ⟨_, rfl⟩
  have HML := Sw.many_left (k := k) H2.out.2.2.1 HRI.out (by omega) ⟨hk1, hk2⟩
  obtain ⟨ns, hns⟩ : ∃ ns, ns = Sw.gon S k := ⟨_, rfl⟩
  have HG : Hid (ns.length = n - 1 ∧ ns.Nodup ∧ (∀ s ∈ ns, ∃ i, 1 ≤ i ∧ i ≤ n ∧ i ≠ k ∧ s = Sw.sN i)) := by
    rw [hns]
    exact ⟨HML.2.1, (Dk.names_nd HRI.out).filter _, HML.2.2⟩
  have HT9 : Hid ((Dk.files T).map (·.1) = [Sw.foreignN, Sw.sN k] ∧ Dk.WF T (n + 1 + ns.length)) := by
    rw [hTT, hns]
    exact ⟨HSWR.2.2.1, HSWR.2.2.2⟩
  have HSW : Hid (Calls Tryd.prog 8 #[.pointer (some ⟨g, 0, none⟩), .agg #[.int .i64 1, .int .i64 3, .int .i64 ((n : Int) + 2), .int .i64 0, .slice (some ⟨pS, 0, none⟩) 1 1]] W4 fun e w' => ∃ (a : Option Addr) (m c : Nat), e = .returned (.tuple #[.slice a m c, .int .i64 0]) ∧ m = ns.length ∧ NmR W4.heap.size w' (.slice a m c) ns ∧ (∃ M', DM W1.heap.size w' g T M') ∧ Below W1.heap.size W4 w') := by
    have hsg : SgsAt W4 (.slice (some ⟨pS, 0, none⟩) 1 1) [⟨(k : Int), 0, 0⟩] := ⟨_, 1, rfl, Nat.le_refl _, by unfold maxLen; omega, fun j s hj => by
      cases j with
      | zero =>
        have e : s = ⟨(k : Int), 0, 0⟩ := by simpa using hj.symm
        rw [e]
        exact ⟨pS, 0, rfl, H4.out.1.range⟩
      | succ j => simp at hj⟩
    have h9 := sweep_any W1.heap.size g (n + 1) S M ⟨1, 3, ((n : Int) + 2), 0, [⟨(k : Int), 0, 0⟩]⟩ _ W4 (H2.out.1.kept H4.out.2.2) (Nat.le_trans H2.out.2.2.2.size H4.out.2.2.size) hsg (HTT.out W4 (andThen HB1.out (andThen H2.out.2.2.2 H4.out.2.2))) H2.out.2.1 (by omega) (fun s hs => by
      rw [List.mem_singleton.1 hs]
      exact ⟨⟨by show (-9223372036854775808 : Int) ≤ (k : Int); omega, by show (k : Int) ≤ 9223372036854775807; omega⟩, ⟨by show (-9223372036854775808 : Int) ≤ 0; decide, by show (0 : Int) ≤ 9223372036854775807; decide⟩, ⟨by show (-9223372036854775808 : Int) ≤ 0; decide, by show (0 : Int) ≤ 9223372036854775807; decide⟩⟩) (by simp)
    refine h9.mono fun e w' ⟨v', e1, e2, e3⟩ => ?_
    rw [HSWR.1] at e1
    rw [HSWR.2.1, ← hns] at e2
    rw [← hTT] at e3
    obtain ⟨a, c, e4, -⟩ := Mg.row_shape e2
    subst e4
    obtain ⟨M', d1, d2, d3⟩ := e3
    exact ⟨a, _, c, e1, rfl, e2, ⟨M', d1⟩, d2.below W1.heap.size (Nat.le_trans H2.out.2.2.2.size H4.out.2.2.size) fun q hq => (H2.out.1.ft hq).1⟩
  clear HSWR HML hTT hns HRI
  have y0 := H4.out.2.1.cell 0 _ rfl
  have y1 := H4.out.2.1.cell 1 _ rfl
  have y2 := H4.out.2.1.cell 2 _ rfl
  have y3 := H4.out.2.1.cell 3 _ rfl
  have y4 := H4.out.2.1.cell 4 _ rfl
  go_wp2_with fail
  refine HSW.out.mono ?_
  rintro e W5 ⟨na, m, nc, rfl, hm, hnr, hdm, b5⟩
  have HB4 : Hid (Below w.heap.size w W4) := andThen HB1.out (andThen H2.out.2.2.2 H4.out.2.2)
  have H5 : Hid (NmR w.heap.size W5 (.slice na m nc) ns ∧ Below w.heap.size w W5 ∧ m = ns.length) := ⟨row_low hnr HB4.out.size, HB4.out.trans (b5.mono HB1.out.size), hm⟩
  have HFI : Hid (Calls Tryd.prog 9 #[.pointer (some ⟨g, 0, none⟩)] W5 fun e w' => ∃ (b off c : Nat), e = .returned (.slice (some ⟨b, off, none⟩) 2 c) ∧ 2 ≤ c ∧ Below W5.heap.size W5 w' ∧ w'.cell? ⟨b, off, none⟩ = some (enS Sw.foreignN) ∧ w'.cell? ⟨b, off + 2, none⟩ = some (enS (Sw.sN k))) := by
    obtain ⟨M', d1⟩ := hdm
    refine (dkfiles_wf W1.heap.size g T M' (n + 1 + ns.length) W5 d1 HT9.out.2 (by have := HG.out.1; omega)).mono fun e w' ⟨v, e1, e2, e3⟩ => ?_
    obtain ⟨x0, x1, hx⟩ : ∃ d0 d1, Dk.files T = [(Sw.foreignN, d0), (Sw.sN k, d1)] := by
      have h9 := HT9.out.1
      exact two_pairs h9
    rw [hx] at e2
    obtain ⟨a, c, ev, k1, k2, k3⟩ := e2.sh
    obtain ⟨b, off, ea, -, hc⟩ := k3 (by simp)
    subst ea ev
    have c0 := (hc 0 (by simp)).1
    have c1 := (hc 1 (by simp)).1
    exact ⟨b, off, c, e1, k1, e3, c0, c1⟩
  clear y0 y1 y2 y3 y4 hnr hdm b5 HSW H4 H2 HT9
  have HM2 : Hid (m = n - 1) := by rw [hm, HG.out.1]; rfl
  clear hm
  go_wp2_with fail
  refine HFI.out.mono ?_
  rintro e W6 ⟨b, off, c, rfl, hc2, b6, c0, c1⟩
  have H6 : Hid (Below W5.heap.size W5 W6) := b6
  obtain ⟨s, hs⟩ : ∃ s, s = Sw.sN k := ⟨_, rfl⟩
  have HNM : Hid (∀ W, Calls Tryd.prog 10 #[.int .i64 (k : Int)] W fun e w' => e = .returned (.string ⟨s.toArray⟩) ∧ Below W.heap.size W w') := fun W => by
    rw [hs]
    exact r8name_any (k : Int) W
  rw [← hs] at c1
  unfold enS at c0 c1
  unfold Sw.foreignN at c0
  have HC : Hid (∀ W, Below W6.heap.size W6 W → W.cell? ⟨b, off, none⟩ = some (.string ⟨[102, 111, 114, 101, 105, 103, 110].toArray⟩) ∧ W.cell? ⟨b, off + 2, none⟩ = some (.string ⟨s.toArray⟩)) := fun W hW => ⟨(hW.cell (World.block_lt_of_cell? _ _ c0)).trans c0, (hW.cell (World.block_lt_of_cell? _ _ c1)).trans c1⟩
  have HD : Hid (Below W6.heap.size W6 W6.drew) := Below.drew (Below.refl _ _)
  have xl : ((m : Int) != IntKind.i64.wrap ((n : Int) - 1)) = false := by
    have h9 := HM2.out
    have h8 : IntKind.i64.wrap ((n : Int) - 1) = (n : Int) - 1 := IntWalk.i64_in _ ⟨by omega, by omega⟩
    rw [bne_eq_false_iff_eq, h8]
    omega
  clear hs b6 HFI
  go_upto_region 7 with fail
  go_region_held (fun w' => w'.cell? ⟨b, off, none⟩ = some (.string ⟨[102, 111, 114, 101, 105, 103, 110].toArray⟩) ∧ w'.cell? ⟨b, off + 2, none⟩ = some (.string ⟨s.toArray⟩)) (first | (exact HC.out _ HD.out) | (exact HC.out _ (andThen HD.out bn))) (first | (go_at_call 10; refine (HNM.out _).mono ?_; rintro e Wn ⟨rfl, bn⟩))
  have HN9 : Hid (Below W5.heap.size W5 Wn) := andThen H6.out (andThen HD.out bn)
  clear bn c0 c1 xl
  go_wp2_with fail
  go_returns
  exact ⟨na, m, nc, ns, rfl, H5.out.2.2, Mg.row_kept H5.out.1 HN9.out, HG.out.1, HG.out.2.1, HG.out.2.2, andThen H5.out.2.1 HN9.out⟩
end Go.Proofs.YtppabcihbpbfpaaDoor
