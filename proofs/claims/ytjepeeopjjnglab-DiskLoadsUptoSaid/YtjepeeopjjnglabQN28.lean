import Derived.Test.YtjepeeopjjnglabQN27
/-
  The laws' own functions: step.
-/
namespace Go.Proofs.Ytjepeeopjjnglab
open Go Go.RowKit Go.ChangeShapes
open Wb
open Rd
namespace Rd
section
variable {B N L : Nat} {K K' : Nat → Prop} {w w' w2 : World} {g g' : Nat} {S S' : Dk.DS} {M M' : Mm} {R R' : RS} {v v' : Value}
theorem PT.put (h : PT B N K w L g S M w' g' S' M' R' v' K') (hK : ∀ q, K q → q < w.heap.size) (hF : ∀ q, Ft g S M q → q < w.heap.size) {p : Nat} (h1 : w.heap.size ≤ p) (h2 : p < L) (r : List Value) (i : Nat) : PT B N K w L g S M (putAll w' p i r) g' S' M' R' v' K' := by
  refine ⟨⟨h.pm.dm.blk fun q hq => putAll_far ?_ r w' i, h.pm.rd.blk fun q hq _ => putAll_far ?_ r w' i, h.pm.sy, fun q hq => by rw [putAll_size]; exact h.pm.lt q hq, h.pm.ap⟩, putAll_ifr h.fr h1 r i, h.fl, h.up, h.kl, h.lo⟩
  · rcases h.fl q hq with e | e
    · have := hF q e
      omega
    · omega
  · rcases h.kl q hq with e | e
    · have := hK q e
      omega
    · omega
theorem PT.after (h : PT B N K w L g S M w' g' S' M' R' v' K') (hb : Below w'.heap.size w' w2) : PT B N K w L g S M w2 g' S' M' R' v' K' := ⟨h.pm.kept hb, h.fr.trans (IFr.kept hb) fun _k _ e => e, h.fl, h.up, h.kl, h.lo⟩
theorem PT.low (h : PT B N K w L g S M w' g' S' M' R' v' K') : PT B N K w w.heap.size g S M w' g' S' M' R' v' K' := by
  have hL := h.lo
  exact ⟨h.pm, h.fr, fun q hq => (h.fl q hq).imp id fun e => by omega, h.up, fun q hq => (h.kl q hq).imp id fun e => by omega, Nat.le_refl _⟩
theorem PT.same {N' : Nat} (h : PM B N K w g S M R v) (hN : N ≤ N') (hb : Below w.heap.size w w') (hL : w.heap.size ≤ L) : PT B N' K w L g S M w' g S M R v K := ⟨(h.kept hb).mono hN, IFr.kept hb, fun _q e => .inl e, fun _q e => e, fun _q e => .inl e, hL⟩
/-- a new disk and its value -/
theorem PT.ld {W : World} {n : Nat} {K2 : Nat → Prop} (h : PM B N K w g S M R v) (hW : Below w.heap.size w W) (hb : Below W.heap.size W w') (hL : w.heap.size ≤ L) (hL2 : L ≤ W.heap.size) (h2 : PM W.heap.size n K2 w' g' S' M' R' v') (hK2 : ∀ q, K2 q → W.heap.size ≤ q) (hB : B ≤ w.heap.size) : PT B n K w L g S M w' g' S' M' R' v' (fun q => K q ∨ K2 q) := by
  have hw := hW.size
  have hz := hb.size
  refine ⟨⟨DM.low h2.dm (by omega), h2.rd.mono fun q e => .inr e, h2.sy, fun q e => ?_, fun q e e2 => ?_⟩, IFr.kept (andThen hW hb), fun q e => .inr ?_, fun q e => .inl e, fun q e => e.imp id fun e2 => ?_, hL⟩
  · rcases e with e | e
    · have := h.lt q e
      omega
    · exact h2.lt q e
  · have h3 := (h2.dm.ft e2).1
    rcases e with e | e
    · have := h.lt q e
      omega
    · exact h2.ap q e e2
  · have := (h2.dm.ft e).1
    omega
  · have := hK2 q e2
    omega
theorem PT.mono {N' : Nat} (h : PT B N K w L g S M w' g' S' M' R' v' K') (hN : N ≤ N') : PT B N' K w L g S M w' g' S' M' R' v' K' := ⟨h.pm.mono hN, h.fr, h.fl, h.up, h.kl, h.lo⟩
/-- a call on the program's disk, and then one on the document's -/
theorem PT.do {W3 W4 W5 : World} (h : PM B N K w g S M R v) (hL : w.heap.size ≤ L) (h3 : Below w.heap.size w W3) (hL3 : L ≤ W3.heap.size) (hp : DPost B g S M W3 S' W4) (h5 : Below W4.heap.size W4 W5) (hr : RdM (fun q => K q ∨ W4.heap.size ≤ q) W5 R' v') (hs : Sy (N + 1) S' R') : ∃ M' K', PT B (N + 1) K w L g S M W5 g S' M' R' v' K' := by
  obtain ⟨M', d, f, n⟩ := hp
  have hw := h3.size
  have hf := f.size
  have h9 := h5.size
  refine ⟨M', fun q => (K q ∨ W4.heap.size ≤ q) ∧ q < W5.heap.size, ⟨d.kept h5, hr.lt, hs, fun q e => e.2, fun q e e2 => ?_⟩, ((IFr.kept h3).trans f fun k _ e => e).trans (IFr.kept h5) fun k _ e => e, fun q e => (n q e).imp id fun e2 => by omega, fun q e => ⟨.inl e, ?_⟩, fun q e => e.1.imp id fun e2 => by omega, hL⟩
  · rcases e.1 with e3 | e3
    · have h7 := h.lt q e3
      rcases n q e2 with e4 | e4
      · exact h.ap q e3 e4
      · omega
    · have := (d.ft e2).2
      omega
  · have := h.lt q e
    omega
theorem dk_arm_ids (S : Dk.DS) (n : Int) : (Dk.arm S n).ids = S.ids := by
  unfold Dk.arm
  split <;> rfl
theorem ft_ids {g : Nat} {S T : Dk.DS} {M : Mm} (e : T.ids = S.ids) : ∀ q, Ft g T M q → Ft g S M q := fun q hq => by
  unfold Ft at hq ⊢
  rw [e] at hq
  exact hq
end
end Rd
/-- what step hands back -/
def StQ (B N : Nat) (K : Nat → Prop) (w : World) (g : Nat) (S : Dk.DS) (M : Mm) (e : Ending) (w' : World) : Prop := ∃ y g' S' M' R' K', e = .returned (.tuple #[pvv y, .bool true]) ∧ y.pa = some ⟨g', 0, none⟩ ∧ PT B N K w w.heap.size g S M w' g' S' M' R' (pvw y) K'
/-- what loaded hands back within step -/
theorem LdQ.pt {B N N' L : Nat} {K : Nat → Prop} {w W w' : World} {g : Nat} {S : Dk.DS} {M : Mm} {R : RS} {x : PVal} {q : Int} {fs : List (List UInt8 × List Nat)} {e : Ending} (hx : x.pa = some ⟨g, 0, none⟩) (h : PM B N K w g S M R (pvw x)) (hW : Below w.heap.size w W) (hL : w.heap.size ≤ L) (hL2 : L ≤ W.heap.size) (hB : B ≤ w.heap.size) (hN : N ≤ N') (hf : fs.length ≤ N') (hl : LdQ q fs x W e w') : ∃ g5 S5 M5 R5 K5 yq ya1 yn1 yc1 ya2 yn2 yc2 ya3 yn3 yc3 ya4 yn4 yc4 yl yd, e = .returned (.tuple #[.agg #[.pointer (some ⟨g5, 0, none⟩), .int .i64 yq, .slice ya1 yn1 yc1, .slice ya2 yn2 yc2, .slice ya3 yn3 yc3, .slice ya4 yn4 yc4, .int .i64 yl, .bool yd], .bool true]) ∧ PT B N' K w L g S M w' g5 S5 M5 R5 (.agg #[.int .i64 yq, .slice ya1 yn1 yc1, .slice ya2 yn2 yc2, .slice ya3 yn3 yc3, .slice ya4 yn4 yc4, .int .i64 yl, .bool yd]) K5 ∧ Below W.heap.size W w' := by
  obtain ⟨hb, hl⟩ := hl
  rcases hl with ⟨-, rfl⟩ | ⟨-, g2, S2, M2, y, K2, rfl, hy, h2, h3⟩
  · obtain ⟨pa, xq, xa1, xn1, xc1, xa2, xn2, xc2, xa3, xn3, xc3, xa4, xn4, xc4, xl, xd⟩ := x
    have hpa : pa = some ⟨g, 0, none⟩ := hx
    subst hpa
    exact ⟨g, S, M, R, K, _, _, _, _, _, _, _, _, _, _, _, _, _, _, _, rfl, PT.same h hN (andThen hW hb) hL, hb⟩
  · obtain ⟨pa, xq, xa1, xn1, xc1, xa2, xn2, xc2, xa3, xn3, xc3, xa4, xn4, xc4, xl, xd⟩ := y
    have hpa : pa = some ⟨g2, 0, none⟩ := hy
    subst hpa
    exact ⟨g2, S2, M2, _, _, _, _, _, _, _, _, _, _, _, _, _, _, _, _, _, rfl, (PT.ld h hW hb hL hL2 h2 h3 hB).mono hf, hb⟩
/-- a value of a disk shows its cells -/
theorem Rd.RdM.shape {ok : Nat → Prop} {w : World} {R : RS} {v : Value} (h : RdM ok w R v) : Sev v := by
  obtain ⟨xs, tv, nv, lv, cv, rfl, hxs, hS⟩ := h
  obtain ⟨a1, c1, rfl⟩ := rw_slice hS.rt
  obtain ⟨a2, c2, rfl⟩ := rw_slice hS.rn
  obtain ⟨a3, c3, rfl⟩ := rw_slice hS.rl
  obtain ⟨a4, c4, rfl⟩ := rw_slice hS.rc
  exact ⟨_, _, _, _, _, _, _, _, _, _, _, _, _, _, _, rfl⟩
theorem fls_nil (w : World) : Fls (fun _ => True) w (.slice none 0 0) [] := ⟨none, 0, rfl, Nat.le_refl _, Nat.zero_le _, fun h => absurd rfl h⟩
set_option maxRecDepth 100000 in
set_option maxHeartbeats 64000000 in
theorem dlstep_any (B N : Nat) (K : Nat → Prop) (g : Nat) (S : Dk.DS) (M : Mm) (R : RS) (x : PVal) (o : Rop) (w : World) (h : PM B N K w g S M R (pvw x)) (hx : x.pa = some ⟨g, 0, none⟩) (hB : B ≤ w.heap.size) (hN : 1048576 ≤ N ∧ N ≤ 90000000) (hok : OpF w o) (hold : o.data ≠ [] → ∀ q y, o.da = some ⟨q, y, none⟩ → ¬ Ft g S M q) :
    Calls Try.prog 46 #[pvv x, opv o] w fun e w' => StQ B (N + 1) K w g S M e w' := by
  obtain ⟨pa, xq, xa1, xn1, xc1, xa2, xn2, xc2, xa3, xn3, xc3, xa4, xn4, xc4, xl, xd⟩ := x
  have hpa : pa = some ⟨g, 0, none⟩ := hx
  subst hpa
  obtain ⟨g1, g2, g3, g4⟩ := box3 w [.pointer (some ⟨g, 0, none⟩), .int .i64 xq, .slice xa1 xn1 xc1, .slice xa2 xn2 xc2, .slice xa3 xn3 xc3, .slice xa4 xn4 xc4, .int .i64 xl, .bool xd] (opc o) [.pointer none, .int .i64 0, .slice none 0 0, .slice none 0 0, .slice none 0 0, .slice none 0 0, .int .i64 0, .bool false] 56 37 56
  obtain ⟨W2, hW2⟩ : ∃ W, W = ((w.alloc (.cells #[.pointer (some ⟨g, 0, none⟩), .int .i64 xq, .slice xa1 xn1 xc1, .slice xa2 xn2 xc2, .slice xa3 xn3 xc3, .slice xa4 xn4 xc4, .int .i64 xl, .bool xd] 56)).alloc (.cells #[.int .i64 o.k, .bool o.two, .string o.a, .string o.b, .int .i64 o.n, .slice o.da o.data.length o.dc, .slice o.ca o.cs.length o.cc, .slice o.fa o.fn o.fc] 37)).alloc (.cells #[.pointer none, .int .i64 0, .slice none 0 0, .slice none 0 0, .slice none 0 0, .slice none 0 0, .int .i64 0, .bool false] 56) := ⟨_, rfl⟩
  obtain ⟨p2, hp2⟩ : ∃ p, p = w.heap.size := ⟨_, rfl⟩
  obtain ⟨p3, hp3⟩ : ∃ p, p = w.heap.size + 1 := ⟨_, rfl⟩
  obtain ⟨p4, hp4⟩ : ∃ p, p = w.heap.size + 1 + 1 := ⟨_, rfl⟩
  have HBX : Hid (LB W2 p2 56 [.pointer (some ⟨g, 0, none⟩), .int .i64 xq, .slice xa1 xn1 xc1, .slice xa2 xn2 xc2, .slice xa3 xn3 xc3, .slice xa4 xn4 xc4, .int .i64 xl, .bool xd] ∧ LB W2 p3 37 (opc o) ∧ LB W2 p4 56 [.pointer none, .int .i64 0, .slice none 0 0, .slice none 0 0, .slice none 0 0, .slice none 0 0, .int .i64 0, .bool false] ∧ Below w.heap.size w W2) := by
    rw [hW2, hp2, hp3, hp4]
    exact ⟨g1, g2, g3, g4⟩
  have HP : Hid (w.heap.size ≤ p2 ∧ w.heap.size ≤ p4 ∧ p2 < W2.heap.size ∧ p4 < W2.heap.size ∧ p2 ≠ p4 ∧ p3 ≠ p2 ∧ p3 ≠ p4 ∧ w.heap.size ≤ p3 ∧ p3 < W2.heap.size) := ⟨by omega, by omega, HBX.out.1.lt, HBX.out.2.2.1.lt, by omega, by omega, by omega, by omega, HBX.out.2.1.lt⟩
  have HW2 : Hid (((w.alloc (.cells #[.pointer (some ⟨g, 0, none⟩), .int .i64 xq, .slice xa1 xn1 xc1, .slice xa2 xn2 xc2, .slice xa3 xn3 xc3, .slice xa4 xn4 xc4, .int .i64 xl, .bool xd] 56)).alloc (.cells #[.int .i64 o.k, .bool o.two, .string o.a, .string o.b, .int .i64 o.n, .slice o.da o.data.length o.dc, .slice o.ca o.cs.length o.cc, .slice o.fa o.fn o.fc] 37)).alloc (.cells #[.pointer none, .int .i64 0, .slice none 0 0, .slice none 0 0, .slice none 0 0, .slice none 0 0, .int .i64 0, .bool false] 56) = W2 ∧ w.heap.size + 1 + 1 = p4 ∧ w.heap.size + 1 = p3 ∧ w.heap.size = p2) := ⟨hW2.symm, hp4.symm, hp3.symm, hp2.symm⟩
  have HPM0 : Hid (PM B N K w g S M R (.agg #[.int .i64 xq, .slice xa1 xn1 xc1, .slice xa2 xn2 xc2, .slice xa3 xn3 xc3, .slice xa4 xn4 xc4, .int .i64 xl, .bool xd]) ∧ B ≤ w.heap.size ∧ 1048576 ≤ N ∧ N ≤ 90000000) := ⟨h, hB, hN⟩
  have HPM : Hid (∀ W, Below W2.heap.size W2 W → PM B N K W g S M R (.agg #[.int .i64 xq, .slice xa1 xn1 xc1, .slice xa2 xn2 xc2, .slice xa3 xn3 xc3, .slice xa4 xn4 xc4, .int .i64 xl, .bool xd])) := fun W hW => h.kept (andThen HBX.out.2.2.2 hW)
  have HOK : Hid (OpF w o ∧ (o.data ≠ [] → ∀ q y, o.da = some ⟨q, y, none⟩ → ¬ Ft g S M q ∧ q < w.heap.size)) := ⟨hok, fun hne q y e => ⟨hold hne q y e, Bs.old hok.ok.2.1 hne q y e⟩⟩
  have HFK : Hid ((∀ q, K q → q < w.heap.size) ∧ ∀ q, Ft g S M q → q < w.heap.size) := ⟨h.lt, fun q hq => (h.dm.ft hq).2⟩
  clear g1 g2 g3 g4 hW2 hp2 hp3 hp4 h hx hB hN hok hold
  unfold pvv opv
  by_cases hk : 1 ≤ o.k ∧ o.k ≤ 7
  · have t1 : (1 ≤ o.k) = True := eq_true hk.1
    have t7 : (o.k ≤ 7) = True := eq_true hk.2
    have HKK : Hid (1 ≤ o.k ∧ o.k ≤ 7) := hk
    have HCO : Hid (Calls Try.prog 12 #[.slice o.da o.data.length o.dc] W2 fun e w' => ∃ ca cc, e = .returned (.slice ca o.data.length cc) ∧ Own W2.heap.size w' (.slice ca o.data.length cc) o.data ∧ Below W2.heap.size W2 w') := (dlcopied_any _ o.data W2 (HOK.out.1.ok.2.1.kept HBX.out.2.2.2) (by have := HOK.out.1.dl; omega)).mono fun e w' ⟨v', h1, h2, h3⟩ => by
      obtain ⟨a, k, rfl⟩ := own_slice h2
      exact ⟨_, _, h1, h2, h3⟩
    have L2 := HBX.out.1.kept (Below.refl _ _)
    have L3 := HBX.out.2.1.kept (Below.refl _ _)
    have d0 := L2.cell 0 _ rfl
    have d1 := L2.cell 1 _ rfl
    have d2 := L2.cell 2 _ rfl
    have d3 := L2.cell 3 _ rfl
    have d4 := L2.cell 4 _ rfl
    have d5 := L2.cell 5 _ rfl
    have d6 := L2.cell 6 _ rfl
    have d7 := L2.cell 7 _ rfl
    have q0 := L3.cell 0 _ rfl
    have q1 := L3.cell 1 _ rfl
    have q2 := L3.cell 2 _ rfl
    have q3 := L3.cell 3 _ rfl
    have q4 := L3.cell 4 _ rfl
    have q5 := L3.cell 5 _ rfl
    have q6 := L3.cell 6 _ rfl
    have q7 := L3.cell 7 _ rfl
    clear L2 L3
    clear hk
    go_enter Try.func46, Try.ntmps46
    go_upto_region 1 with fail
    rw [HW2.out.1]
    first | rw [HW2.out.2.1] | skip
    first | rw [HW2.out.2.2.1] | skip
    first | rw [HW2.out.2.2.2] | skip
    go_wp2_with fail
    refine HCO.out.mono ?_
    rintro e W3 ⟨ca, cc, rfl, o3, b3⟩
    have H3 : Hid (Own W2.heap.size W3 (.slice ca o.data.length cc) o.data ∧ Below W2.heap.size W2 W3) := ⟨o3, b3⟩
    obtain ⟨E, hE⟩ : ∃ E, E = Dk.doE S o := ⟨_, rfl⟩
    have HE : Hid (E = Dk.doE S o) := hE
    have HDO : Hid (Calls Try.prog 13 #[.pointer (some ⟨g, 0, none⟩), .agg #[.int .i64 o.k, .bool o.two, .string o.a, .string o.b, .int .i64 o.n, .slice o.da o.data.length o.dc, .slice o.ca o.cs.length o.cc, .slice o.fa o.fn o.fc]] W3 fun e w' => ∃ f, W3.heap.size ≤ f ∧ e = .returned (.int .i64 E) ∧ DPost B g S M W3 (Dk.doS S o f) w') := by
      have hp := HPM.out W3 H3.out.2
      have h9 := dldo_any0 B g S M N o W3 hp.dm (by have := HBX.out.2.2.2.size; have := H3.out.2.size; have := HPM0.out.2.1; omega) hp.sy.wf (by have := HPM0.out.2.2.2; omega) HOK.out.1.ok.1.1 HOK.out.1.ok.1.2 (HOK.out.1.ok.2.1.kept (andThen HBX.out.2.2.2 H3.out.2)) (fun hne q y e => (HOK.out.2 hne q y e).1)
      unfold opv at h9
      rw [← hE] at h9
      exact h9
    clear o3 b3 HCO hE
    clear d0 d1 d2 d3 d4 d5 d6 d7 q0 q1 q2 q3 q4 q5 q6 q7
    have L2 := HBX.out.1.kept H3.out.2
    have L3 := HBX.out.2.1.kept H3.out.2
    have d0 := L2.cell 0 _ rfl
    have d1 := L2.cell 1 _ rfl
    have d2 := L2.cell 2 _ rfl
    have d3 := L2.cell 3 _ rfl
    have d4 := L2.cell 4 _ rfl
    have d5 := L2.cell 5 _ rfl
    have d6 := L2.cell 6 _ rfl
    have d7 := L2.cell 7 _ rfl
    have q0 := L3.cell 0 _ rfl
    have q1 := L3.cell 1 _ rfl
    have q2 := L3.cell 2 _ rfl
    have q3 := L3.cell 3 _ rfl
    have q4 := L3.cell 4 _ rfl
    have q5 := L3.cell 5 _ rfl
    have q6 := L3.cell 6 _ rfl
    have q7 := L3.cell 7 _ rfl
    clear L2 L3
    go_wp2_with fail
    refine HDO.out.mono ?_
    rintro e W4 ⟨f9, hf9, rfl, hpo⟩
    have H4 : Hid (DPost B g S M W3 (Dk.doS S o f9) W4 ∧ f9 ∉ S.ids) := ⟨hpo, fun e => by
      have h8 := HFK.out.2 f9 (.inr (.inr (.inr (.inr ⟨f9, e, .inl rfl⟩))))
      have := HBX.out.2.2.2.size
      have := H3.out.2.size
      omega⟩
    have HSZ : Hid (w.heap.size ≤ W2.heap.size ∧ W2.heap.size ≤ W3.heap.size) := ⟨HBX.out.2.2.2.size, H3.out.2.size⟩
    have HBL : Hid (∀ p, p < W3.heap.size → (w.heap.size ≤ p ∨ ¬ Ft g S M p) → W4.heap[p]? = W3.heap[p]?) := fun p h1 h2 => by
      obtain ⟨M', d, f, n⟩ := hpo
      refine f.block p h1 fun e => ?_
      rcases h2 with h2 | h2
      · have := HFK.out.2 p e
        omega
      · exact h2 e
    have HO4 : Hid (Own W2.heap.size W4 (.slice ca o.data.length cc) o.data ∧ Bs W4 (.slice o.da o.data.length o.dc) o.data) := by
      refine ⟨own_blk H3.out.1 fun q e => HBL.out q (World.ownsRow.lt H3.out.1.row q e).2 (.inl (by have := (World.ownsRow.lt H3.out.1.row q e).1; have := HSZ.out; omega)), bs_blk0 (HOK.out.1.ok.2.1.kept (andThen HBX.out.2.2.2 H3.out.2)) fun hne q ⟨o2, n, c9, e9⟩ hlt => HBL.out q hlt (.inr ?_)⟩
      simp only [Value.slice.injEq] at e9
      exact (HOK.out.2 hne q o2 e9.1).1
    have HB4 : Hid (LB W4 p2 56 [.pointer (some ⟨g, 0, none⟩), .int .i64 xq, .slice xa1 xn1 xc1, .slice xa2 xn2 xc2, .slice xa3 xn3 xc3, .slice xa4 xn4 xc4, .int .i64 xl, .bool xd] ∧ LB W4 p3 37 (opc o) ∧ LB W4 p4 56 [.pointer none, .int .i64 0, .slice none 0 0, .slice none 0 0, .slice none 0 0, .slice none 0 0, .int .i64 0, .bool false]) := by
      have k := fun p (h1 : w.heap.size ≤ p) (h2 : p < W2.heap.size) => HBL.out p (Nat.lt_of_lt_of_le h2 HSZ.out.2) (.inl h1)
      exact ⟨(k p2 HP.out.1 HP.out.2.2.1).trans (HBX.out.1.kept H3.out.2), (k p3 HP.out.2.2.2.2.2.2.2.1 HP.out.2.2.2.2.2.2.2.2).trans (HBX.out.2.1.kept H3.out.2), (k p4 HP.out.2.1 HP.out.2.2.2.1).trans (HBX.out.2.2.1.kept H3.out.2)⟩
    have HRK : Hid (Calls Try.prog 61 #[.agg #[.int .i64 xq, .slice xa1 xn1 xc1, .slice xa2 xn2 xc2, .slice xa3 xn3 xc3, .slice xa4 xn4 xc4, .int .i64 xl, .bool xd], .agg #[.int .i64 o.k, .string o.a, .string o.b, .int .i64 o.n, .slice ca o.data.length cc]] W4 fun e w' => ∃ yq ya1 yn1 yc1 ya2 yn2 yc2 ya3 yn3 yc3 ya4 yn4 yc4 yl yd, e = .returned (.tuple #[.agg #[.int .i64 yq, .slice ya1 yn1 yc1, .slice ya2 yn2 yc2, .slice ya3 yn3 yc3, .slice ya4 yn4 yc4, .int .i64 yl, .bool yd], .int .i64 E]) ∧ RdM (fun q => K q ∨ W4.heap.size ≤ q) w' (rdo R o).1 (.agg #[.int .i64 yq, .slice ya1 yn1 yc1, .slice ya2 yn2 yc2, .slice ya3 yn3 yc3, .slice ya4 yn4 yc4, .int .i64 yl, .bool yd]) ∧ Below W4.heap.size W4 w') := by
      have hp := HPM.out W3 H3.out.2
      have hrd : RdM K W4 R (.agg #[.int .i64 xq, .slice xa1 xn1 xc1, .slice xa2 xn2 xc2, .slice xa3 xn3 xc3, .slice xa4 xn4 xc4, .int .i64 xl, .bool xd]) := hp.rd.blk fun q hq hl => HBL.out q hl (.inr (hp.ap q hq))
      have hbn := hp.sy.bn
      have hN := HPM0.out.2.2.2
      exact (rkdo_any K R _ o ca cc W4 hrd HKK.out HO4.out.1.bs HOK.out.1.ok.1.1 HOK.out.1.ok.1.2 ⟨by omega, by omega, by omega⟩ hp.sy.rl.okn (fun t ht => by have := (hp.sy.ln t ht).2; omega) hp.sy.q hp.sy.tk (by have := HOK.out.1.dl; omega) hp.sy.lf).mono fun e w' ⟨v', E', h1, h2, h3, h4⟩ => by
        obtain ⟨yq, ya1, yn1, yc1, ya2, yn2, yc2, ya3, yn3, yc3, ya4, yn4, yc4, yl, yd, rfl⟩ := h3.shape
        have h5 := (hp.sy.do o f9 H4.out.2 HKK.out).1
        rw [h2, ← HE.out] at h5
        subst h5
        exact ⟨_, _, _, _, _, _, _, _, _, _, _, _, _, _, _, h1, h3, h4⟩
    clear hpo hf9 HDO
    clear d0 d1 d2 d3 d4 d5 d6 d7 q0 q1 q2 q3 q4 q5 q6 q7
    have L2 := HB4.out.1
    have L3 := HB4.out.2.1
    have d0 := L2.cell 0 _ rfl
    have d1 := L2.cell 1 _ rfl
    have d2 := L2.cell 2 _ rfl
    have d3 := L2.cell 3 _ rfl
    have d4 := L2.cell 4 _ rfl
    have d5 := L2.cell 5 _ rfl
    have d6 := L2.cell 6 _ rfl
    have d7 := L2.cell 7 _ rfl
    have q0 := L3.cell 0 _ rfl
    have q1 := L3.cell 1 _ rfl
    have q2 := L3.cell 2 _ rfl
    have q3 := L3.cell 3 _ rfl
    have q4 := L3.cell 4 _ rfl
    have q5 := L3.cell 5 _ rfl
    have q6 := L3.cell 6 _ rfl
    have q7 := L3.cell 7 _ rfl
    clear L2 L3
    go_wp2_with fail
    refine HRK.out.mono ?_
    rintro e W5 ⟨yq, ya1, yn1, yc1, ya2, yn2, yc2, ya3, yn3, yc3, ya4, yn4, yc4, yl, yd, rfl, r5, b5⟩
    have H5 : Hid (∃ M5 K5, PT B (N + 1) K w W2.heap.size g S M W5 g (Dk.doS S o f9) M5 (rdo R o).1 (.agg #[.int .i64 yq, .slice ya1 yn1 yc1, .slice ya2 yn2 yc2, .slice ya3 yn3 yc3, .slice ya4 yn4 yc4, .int .i64 yl, .bool yd]) K5) := PT.do HPM0.out.1 HSZ.out.1 (andThen HBX.out.2.2.2 H3.out.2) HSZ.out.2 H4.out.1 b5 r5 (((HPM.out W2 (Below.refl _ _)).sy.do o f9 H4.out.2 HKK.out).2)
    have H5B : Hid (Below W4.heap.size W4 W5) := b5
    obtain ⟨p8, hp8⟩ : ∃ p, p = W5.heap.size := ⟨_, rfl⟩
    obtain ⟨W6, hW6⟩ : ∃ W, W = W5.alloc (.cells #[.int .i64 yq, .slice ya1 yn1 yc1, .slice ya2 yn2 yc2, .slice ya3 yn3 yc3, .slice ya4 yn4 yc4, .int .i64 yl, .bool yd] 54) := ⟨_, rfl⟩
    have H6 : Hid (LB W6 p8 54 [.int .i64 yq, .slice ya1 yn1 yc1, .slice ya2 yn2 yc2, .slice ya3 yn3 yc3, .slice ya4 yn4 yc4, .int .i64 yl, .bool yd] ∧ Below W5.heap.size W5 W6) := by
      rw [hW6, hp8]
      exact ⟨lb_new W5 [.int .i64 yq, .slice ya1 yn1 yc1, .slice ya2 yn2 yc2, .slice ya3 yn3 yc3, .slice ya4 yn4 yc4, .int .i64 yl, .bool yd] 54, up0 _ _⟩
    have HW6 : Hid (W5.alloc (.cells #[.int .i64 yq, .slice ya1 yn1 yc1, .slice ya2 yn2 yc2, .slice ya3 yn3 yc3, .slice ya4 yn4 yc4, .int .i64 yl, .bool yd] 54) = W6 ∧ W5.heap.size = p8) := ⟨hW6.symm, hp8.symm⟩
    clear hW6 hp8 r5 b5 HRK
    clear d0 d1 d2 d3 d4 d5 d6 d7 q0 q1 q2 q3 q4 q5 q6 q7
    go_upto_region 5 with fail
    rw [HW6.out.1, HW6.out.2]
    have H46 : Hid (Below W4.heap.size W4 W6) := andThen H5B.out H6.out.2
    have L2 := HB4.out.1.kept H46.out
    have d0 := L2.cell 0 _ rfl
    have d1 := L2.cell 1 _ rfl
    have d2 := L2.cell 2 _ rfl
    have d3 := L2.cell 3 _ rfl
    have d4 := L2.cell 4 _ rfl
    have d5 := L2.cell 5 _ rfl
    have d6 := L2.cell 6 _ rfl
    have d7 := L2.cell 7 _ rfl
    have u0 := L2.free 0
    have u1 := L2.free 1
    have u2 := L2.free 2
    have u3 := L2.free 3
    have u4 := L2.free 4
    have u5 := L2.free 5
    have u6 := L2.free 6
    have u7 := L2.free 7
    have L8 := H6.out.1
    have e0 := L8.cell 0 _ rfl
    have e1 := L8.cell 1 _ rfl
    have e2 := L8.cell 2 _ rfl
    have e3 := L8.cell 3 _ rfl
    have e4 := L8.cell 4 _ rfl
    have e5 := L8.cell 5 _ rfl
    have e6 := L8.cell 6 _ rfl
    clear L8
    obtain ⟨W7, hW7⟩ : ∃ W, W = putAll W6 p2 1 [.int .i64 yq, .slice ya1 yn1 yc1, .slice ya2 yn2 yc2, .slice ya3 yn3 yc3, .slice ya4 yn4 yc4, .int .i64 yl, .bool yd] := ⟨_, rfl⟩
    have H7 : Hid (LB W7 p2 56 [.pointer (some ⟨g, 0, none⟩), .int .i64 yq, .slice ya1 yn1 yc1, .slice ya2 yn2 yc2, .slice ya3 yn3 yc3, .slice ya4 yn4 yc4, .int .i64 yl, .bool yd] ∧ LB W7 p3 37 (opc o) ∧ LB W7 p4 56 [.pointer none, .int .i64 0, .slice none 0 0, .slice none 0 0, .slice none 0 0, .slice none 0 0, .int .i64 0, .bool false] ∧ Own W2.heap.size W7 (.slice ca o.data.length cc) o.data ∧ Bs W7 (.slice o.da o.data.length o.dc) o.data ∧ ∃ M5 K5, PT B (N + 1) K w W2.heap.size g S M W7 g (Dk.doS S o f9) M5 (rdo R o).1 (.agg #[.int .i64 yq, .slice ya1 yn1 yc1, .slice ya2 yn2 yc2, .slice ya3 yn3 yc3, .slice ya4 yn4 yc4, .int .i64 yl, .bool yd]) K5) := by
      have far : ∀ q, q ≠ p2 → W7.heap[q]? = W6.heap[q]? := fun q hq => by
        rw [hW7]
        exact putAll_far hq _ _ _
      refine ⟨by rw [hW7]; exact putAll_at [.int .i64 yq, .slice ya1 yn1 yc1, .slice ya2 yn2 yc2, .slice ya3 yn3 yc3, .slice ya4 yn4 yc4, .int .i64 yl, .bool yd] [.int .i64 xq, .slice xa1 xn1 xc1, .slice xa2 xn2 xc2, .slice xa3 xn3 xc3, .slice xa4 xn4 xc4, .int .i64 xl, .bool xd] [.pointer (some ⟨g, 0, none⟩)] W6 rfl L2, (far p3 HP.out.2.2.2.2.2.1).trans (HB4.out.2.1.kept H46.out), (far p4 (Ne.symm HP.out.2.2.2.2.1)).trans (HB4.out.2.2.kept H46.out), own_blk (HO4.out.1.kept H46.out) fun q e => far q ?_, bs_blk0 (HO4.out.2.kept H46.out) fun hne q ⟨o2, n, c9, e9⟩ hlt => far q ?_, ?_⟩
      · have := (World.ownsRow.lt (HO4.out.1.kept H46.out).row q e).1
        have := HP.out.2.2.1
        omega
      · simp only [Value.slice.injEq] at e9
        have h8 := (HOK.out.2 hne q o2 e9.1).2
        have := HP.out.1
        omega
      · obtain ⟨M5, K5, hpt⟩ := H5.out
        rw [hW7]
        exact ⟨M5, K5, (hpt.after H6.out.2).put HFK.out.1 HFK.out.2 HP.out.1 HP.out.2.2.1 _ _⟩
    have HW7 : Hid ((((((((W6.setCell ⟨p2, 1, none⟩ (.int .i64 yq)).setCell ⟨p2, 2, none⟩ (.slice ya1 yn1 yc1)).setCell ⟨p2, 3, none⟩ (.slice ya2 yn2 yc2)).setCell ⟨p2, 4, none⟩ (.slice ya3 yn3 yc3)).setCell ⟨p2, 5, none⟩ (.slice ya4 yn4 yc4)).setCell ⟨p2, 6, none⟩ (.int .i64 yl)).setCell ⟨p2, 7, none⟩ (.bool yd)) = W7) := hW7.symm
    clear hW7 L2
    go_upto_region 6 with fail
    rw [HW7.out]
    clear d0 u0 d1 u1 d2 u2 d3 u3 d4 u4 d5 u5 d6 u6 d7 u7 e0 e1 e2 e3 e4 e5 e6
    have HAL : Hid (∀ W, Below W7.heap.size W7 W → Calls Try.prog 14 #[.slice ca o.data.length cc, .slice o.da o.data.length o.dc] W fun e w' => e = .returned (.bool true) ∧ Below W7.heap.size W7 w') := fun W hW => (dlalike_yes _ _ o.data W (H7.out.2.2.2.1.kept hW).bs (H7.out.2.2.2.2.1.kept hW)).mono fun e w' ⟨h1, h2⟩ => ⟨h1, andThen hW h2⟩
    have HCK : Hid (∀ W, Below W7.heap.size W7 W → W.cell? ⟨p2, 0, none⟩ = some (.pointer (some ⟨g, 0, none⟩)) ∧ W.cell? ⟨p2, 1, none⟩ = some (.int .i64 yq) ∧ W.cell? ⟨p2, 2, none⟩ = some (.slice ya1 yn1 yc1) ∧ W.cell? ⟨p2, 3, none⟩ = some (.slice ya2 yn2 yc2) ∧ W.cell? ⟨p2, 4, none⟩ = some (.slice ya3 yn3 yc3) ∧ W.cell? ⟨p2, 5, none⟩ = some (.slice ya4 yn4 yc4) ∧ W.cell? ⟨p2, 6, none⟩ = some (.int .i64 yl) ∧ W.cell? ⟨p2, 7, none⟩ = some (.bool yd) ∧ W.cell? ⟨p3, 5, none⟩ = some (.slice o.da o.data.length o.dc)) := fun W hW => by
      have l2 := H7.out.1.kept hW
      exact ⟨l2.cell 0 _ rfl, l2.cell 1 _ rfl, l2.cell 2 _ rfl, l2.cell 3 _ rfl, l2.cell 4 _ rfl, l2.cell 5 _ rfl, l2.cell 6 _ rfl, l2.cell 7 _ rfl, (H7.out.2.1.kept hW).cell 5 _ rfl⟩
    obtain ⟨d0, d1, d2, d3, d4, d5, d6, d7, q5⟩ := HCK.out W7 (Below.refl _ _)
    have n24 : (p2 = p4) = False := eq_false HP.out.2.2.2.2.1
    have n42 : (p4 = p2) = False := eq_false (Ne.symm HP.out.2.2.2.2.1)
    have n34 : (p3 = p4) = False := eq_false HP.out.2.2.2.2.2.2.1
    have n43 : (p4 = p3) = False := eq_false (Ne.symm HP.out.2.2.2.2.2.2.1)
    have xEE : (E == E) = true := beq_self_eq_true _
    go_region_held3 (fun w' => w'.cell? ⟨p2, 0, none⟩ = some (.pointer (some ⟨g, 0, none⟩)) ∧ w'.cell? ⟨p2, 1, none⟩ = some (.int .i64 yq) ∧ w'.cell? ⟨p2, 2, none⟩ = some (.slice ya1 yn1 yc1) ∧ w'.cell? ⟨p2, 3, none⟩ = some (.slice ya2 yn2 yc2) ∧ w'.cell? ⟨p2, 4, none⟩ = some (.slice ya3 yn3 yc3) ∧ w'.cell? ⟨p2, 5, none⟩ = some (.slice ya4 yn4 yc4) ∧ w'.cell? ⟨p2, 6, none⟩ = some (.int .i64 yl) ∧ w'.cell? ⟨p2, 7, none⟩ = some (.bool yd) ∧ w'.cell? ⟨p3, 5, none⟩ = some (.slice o.da o.data.length o.dc)) (first | go_keep | (exact HCK.out _ hbZ))
      (first | (go_at_call 14; refine (HAL.out _ ?_).mono ?_; (exact Below.drew (Below.refl _ _)); rintro e w' ⟨rfl, hbZ⟩; have HL4 : Hid (LB w' p4 56 [.pointer none, .int .i64 0, .slice none 0 0, .slice none 0 0, .slice none 0 0, .slice none 0 0, .int .i64 0, .bool false]) := H7.out.2.2.1.kept hbZ; have z0 := HL4.out.cell 0 _ rfl; have z1 := HL4.out.cell 1 _ rfl; have z2 := HL4.out.cell 2 _ rfl; have z3 := HL4.out.cell 3 _ rfl; have z4 := HL4.out.cell 4 _ rfl; have z5 := HL4.out.cell 5 _ rfl; have z6 := HL4.out.cell 6 _ rfl; have z7 := HL4.out.cell 7 _ rfl; have v0 := HL4.out.free 0; have v1 := HL4.out.free 1; have v2 := HL4.out.free 2; have v3 := HL4.out.free 3; have v4 := HL4.out.free 4; have v5 := HL4.out.free 5; have v6 := HL4.out.free 6; have v7 := HL4.out.free 7))
    have H9 : Hid (Below W7.heap.size W7 w') := hbZ
    clear hbZ d0 d1 d2 d3 d4 d5 d6 d7 q5 z0 v0 z1 v1 z2 v2 z3 v3 z4 v4 z5 v5 z6 v6 z7 v7
    go_wp2_with fail
    refine bodyPost_ret (results_cell_slot rfl _ _ p4 [.pointer (some ⟨g, 0, none⟩), .int .i64 yq, .slice ya1 yn1 yc1, .slice ya2 yn2 yc2, .slice ya3 yn3 yc3, .slice ya4 yn4 yc4, .int .i64 yl, .bool yd] _ rfl (putAll_lb [.pointer (some ⟨g, 0, none⟩), .int .i64 yq, .slice ya1 yn1 yc1, .slice ya2 yn2 yc2, .slice ya3 yn3 yc3, .slice ya4 yn4 yc4, .int .i64 yl, .bool yd] HL4.out rfl).range Try.underlying56 rfl (by kernel_rfl)) rfl ?_
    obtain ⟨M5, K5, hpt⟩ := H7.out.2.2.2.2.2
    exact ⟨⟨some ⟨g, 0, none⟩, yq, ya1, yn1, yc1, ya2, yn2, yc2, ya3, yn3, yc3, ya4, yn4, yc4, yl, yd⟩, g, _, M5, _, K5, rfl, rfl, ((hpt.after H9.out).put HFK.out.1 HFK.out.2 HP.out.2.1 HP.out.2.2.2.1 [.pointer (some ⟨g, 0, none⟩), .int .i64 yq, .slice ya1 yn1 yc1, .slice ya2 yn2 yc2, .slice ya3 yn3 yc3, .slice ya4 yn4 yc4, .int .i64 yl, .bool yd] 0).low⟩
  by_cases k12 : o.k = 12
  · have HK9 : Hid (o.k = 12) := k12
    clear k12 hk
    have HAR : Hid (Calls Try.prog 62 #[.pointer (some ⟨g, 0, none⟩), .int .i64 o.n] W2 fun e w' => e = .returned (.tuple #[]) ∧ DM B w' g (Dk.arm S o.n) M ∧ IFr W2 w' (· = g)) := dkarm_any B g S M o.n W2 (HPM.out W2 (Below.refl _ _)).dm
    have L2 := HBX.out.1.kept (Below.refl _ _)
    have L3 := HBX.out.2.1.kept (Below.refl _ _)
    have d0 := L2.cell 0 _ rfl
    have d1 := L2.cell 1 _ rfl
    have d2 := L2.cell 2 _ rfl
    have d3 := L2.cell 3 _ rfl
    have d4 := L2.cell 4 _ rfl
    have d5 := L2.cell 5 _ rfl
    have d6 := L2.cell 6 _ rfl
    have d7 := L2.cell 7 _ rfl
    have q0 := L3.cell 0 _ rfl
    have q1 := L3.cell 1 _ rfl
    have q2 := L3.cell 2 _ rfl
    have q3 := L3.cell 3 _ rfl
    have q4 := L3.cell 4 _ rfl
    have q5 := L3.cell 5 _ rfl
    have q6 := L3.cell 6 _ rfl
    have q7 := L3.cell 7 _ rfl
    clear L2 L3
    rw [HK9.out] at q0
    go_enter Try.func46, Try.ntmps46
    go_upto_region 1 with fail
    rw [HW2.out.1]
    first | rw [HW2.out.2.1] | skip
    first | rw [HW2.out.2.2.1] | skip
    first | rw [HW2.out.2.2.2] | skip
    go_wp2_with fail
    refine HAR.out.mono ?_
    rintro e W3 ⟨rfl, d3, f3⟩
    have H3 : Hid (DPost B g S M W2 (Dk.arm S o.n) W3) := DPost.of d3 f3 (ft_ids (dk_arm_ids S o.n))
    have HSZ : Hid (w.heap.size ≤ W2.heap.size ∧ W2.heap.size ≤ W3.heap.size ∧ g < w.heap.size) := ⟨HBX.out.2.2.2.size, f3.size, HFK.out.2 g (.inl rfl)⟩
    have HBL : Hid (∀ p, p < W2.heap.size → p ≠ g → W3.heap[p]? = W2.heap[p]?) := fun p h1 h2 => f3.block p h1 h2
    have HB4 : Hid (LB W3 p2 56 [.pointer (some ⟨g, 0, none⟩), .int .i64 xq, .slice xa1 xn1 xc1, .slice xa2 xn2 xc2, .slice xa3 xn3 xc3, .slice xa4 xn4 xc4, .int .i64 xl, .bool xd] ∧ LB W3 p3 37 (opc o) ∧ LB W3 p4 56 [.pointer none, .int .i64 0, .slice none 0 0, .slice none 0 0, .slice none 0 0, .slice none 0 0, .int .i64 0, .bool false]) := by
      have k := fun p (h1 : w.heap.size ≤ p) (h2 : p < W2.heap.size) => HBL.out p h2 (by have := HSZ.out.2.2; omega)
      exact ⟨(k p2 HP.out.1 HP.out.2.2.1).trans HBX.out.1, (k p3 HP.out.2.2.2.2.2.2.2.1 HP.out.2.2.2.2.2.2.2.2).trans HBX.out.2.1, (k p4 HP.out.2.1 HP.out.2.2.2.1).trans HBX.out.2.2.1⟩
    have HRK : Hid (Calls Try.prog 63 #[.agg #[.int .i64 xq, .slice xa1 xn1 xc1, .slice xa2 xn2 xc2, .slice xa3 xn3 xc3, .slice xa4 xn4 xc4, .int .i64 xl, .bool xd], .int .i64 o.n] W3 fun e w' => ∃ yq ya1 yn1 yc1 ya2 yn2 yc2 ya3 yn3 yc3 ya4 yn4 yc4 yl yd, e = .returned (.agg #[.int .i64 yq, .slice ya1 yn1 yc1, .slice ya2 yn2 yc2, .slice ya3 yn3 yc3, .slice ya4 yn4 yc4, .int .i64 yl, .bool yd]) ∧ RdM (fun q => K q ∨ W3.heap.size ≤ q) w' (rarm R o.n) (.agg #[.int .i64 yq, .slice ya1 yn1 yc1, .slice ya2 yn2 yc2, .slice ya3 yn3 yc3, .slice ya4 yn4 yc4, .int .i64 yl, .bool yd]) ∧ Below W3.heap.size W3 w') := by
      have hp := HPM.out W2 (Below.refl _ _)
      have hrd : RdM K W3 R (.agg #[.int .i64 xq, .slice xa1 xn1 xc1, .slice xa2 xn2 xc2, .slice xa3 xn3 xc3, .slice xa4 xn4 xc4, .int .i64 xl, .bool xd]) := hp.rd.blk fun q hq hl => HBL.out q hl fun e => hp.ap q hq (.inl e)
      exact (rkarm_any K R _ o.n W3 hrd).mono fun e w' ⟨v', h1, h3, h4⟩ => by
        obtain ⟨yq, ya1, yn1, yc1, ya2, yn2, yc2, ya3, yn3, yc3, ya4, yn4, yc4, yl, yd, rfl⟩ := h3.shape
        exact ⟨_, _, _, _, _, _, _, _, _, _, _, _, _, _, _, h1, h3, h4⟩
    clear d3 f3 HAR
    clear d0 d1 d2 d3 d4 d5 d6 d7 q0 q1 q2 q3 q4 q5 q6 q7
    have L2 := HB4.out.1
    have L3 := HB4.out.2.1
    have d0 := L2.cell 0 _ rfl
    have d1 := L2.cell 1 _ rfl
    have d2 := L2.cell 2 _ rfl
    have d3 := L2.cell 3 _ rfl
    have d4 := L2.cell 4 _ rfl
    have d5 := L2.cell 5 _ rfl
    have d6 := L2.cell 6 _ rfl
    have d7 := L2.cell 7 _ rfl
    have q0 := L3.cell 0 _ rfl
    have q1 := L3.cell 1 _ rfl
    have q2 := L3.cell 2 _ rfl
    have q3 := L3.cell 3 _ rfl
    have q4 := L3.cell 4 _ rfl
    have q5 := L3.cell 5 _ rfl
    have q6 := L3.cell 6 _ rfl
    have q7 := L3.cell 7 _ rfl
    clear L2 L3
    go_wp2_with fail
    refine HRK.out.mono ?_
    rintro e W6 ⟨yq, ya1, yn1, yc1, ya2, yn2, yc2, ya3, yn3, yc3, ya4, yn4, yc4, yl, yd, rfl, r5, b5⟩
    have H5 : Hid (∃ M5 K5, PT B (N + 1) K w W2.heap.size g S M W6 g (Dk.arm S o.n) M5 (rarm R o.n) (.agg #[.int .i64 yq, .slice ya1 yn1 yc1, .slice ya2 yn2 yc2, .slice ya3 yn3 yc3, .slice ya4 yn4 yc4, .int .i64 yl, .bool yd]) K5) := PT.do HPM0.out.1 HSZ.out.1 HBX.out.2.2.2 (Nat.le_refl _) H3.out b5 r5 (((HPM.out W2 (Below.refl _ _)).sy.arm o.n HOK.out.1.ok.2.2.2).mono (Nat.le_succ _))
    have H46 : Hid (Below W3.heap.size W3 W6) := b5
    clear r5 b5 HRK
    clear d0 d1 d2 d3 d4 d5 d6 d7 q0 q1 q2 q3 q4 q5 q6 q7
    have L2 := HB4.out.1.kept H46.out
    have d0 := L2.cell 0 _ rfl
    have d1 := L2.cell 1 _ rfl
    have d2 := L2.cell 2 _ rfl
    have d3 := L2.cell 3 _ rfl
    have d4 := L2.cell 4 _ rfl
    have d5 := L2.cell 5 _ rfl
    have d6 := L2.cell 6 _ rfl
    have d7 := L2.cell 7 _ rfl
    have u0 := L2.free 0
    have u1 := L2.free 1
    have u2 := L2.free 2
    have u3 := L2.free 3
    have u4 := L2.free 4
    have u5 := L2.free 5
    have u6 := L2.free 6
    have u7 := L2.free 7
    obtain ⟨W7, hW7⟩ : ∃ W, W = putAll W6 p2 1 [.int .i64 yq, .slice ya1 yn1 yc1, .slice ya2 yn2 yc2, .slice ya3 yn3 yc3, .slice ya4 yn4 yc4, .int .i64 yl, .bool yd] := ⟨_, rfl⟩
    have H7 : Hid (LB W7 p2 56 [.pointer (some ⟨g, 0, none⟩), .int .i64 yq, .slice ya1 yn1 yc1, .slice ya2 yn2 yc2, .slice ya3 yn3 yc3, .slice ya4 yn4 yc4, .int .i64 yl, .bool yd] ∧ LB W7 p4 56 [.pointer none, .int .i64 0, .slice none 0 0, .slice none 0 0, .slice none 0 0, .slice none 0 0, .int .i64 0, .bool false] ∧ ∃ M5 K5, PT B (N + 1) K w W2.heap.size g S M W7 g (Dk.arm S o.n) M5 (rarm R o.n) (.agg #[.int .i64 yq, .slice ya1 yn1 yc1, .slice ya2 yn2 yc2, .slice ya3 yn3 yc3, .slice ya4 yn4 yc4, .int .i64 yl, .bool yd]) K5) := by
      have far : ∀ q, q ≠ p2 → W7.heap[q]? = W6.heap[q]? := fun q hq => by
        rw [hW7]
        exact putAll_far hq _ _ _
      refine ⟨by rw [hW7]; exact putAll_at [.int .i64 yq, .slice ya1 yn1 yc1, .slice ya2 yn2 yc2, .slice ya3 yn3 yc3, .slice ya4 yn4 yc4, .int .i64 yl, .bool yd] [.int .i64 xq, .slice xa1 xn1 xc1, .slice xa2 xn2 xc2, .slice xa3 xn3 xc3, .slice xa4 xn4 xc4, .int .i64 xl, .bool xd] [.pointer (some ⟨g, 0, none⟩)] W6 rfl L2, (far p4 (Ne.symm HP.out.2.2.2.2.1)).trans (HB4.out.2.2.kept H46.out), ?_⟩
      obtain ⟨M5, K5, hpt⟩ := H5.out
      rw [hW7]
      exact ⟨M5, K5, hpt.put HFK.out.1 HFK.out.2 HP.out.1 HP.out.2.2.1 _ _⟩
    have HW7 : Hid ((((((((W6.setCell ⟨p2, 1, none⟩ (.int .i64 yq)).setCell ⟨p2, 2, none⟩ (.slice ya1 yn1 yc1)).setCell ⟨p2, 3, none⟩ (.slice ya2 yn2 yc2)).setCell ⟨p2, 4, none⟩ (.slice ya3 yn3 yc3)).setCell ⟨p2, 5, none⟩ (.slice ya4 yn4 yc4)).setCell ⟨p2, 6, none⟩ (.int .i64 yl)).setCell ⟨p2, 7, none⟩ (.bool yd)) = W7) := hW7.symm
    clear hW7 L2
    go_upto_region 10 with fail
    rw [HW7.out]
    clear d0 u0 d1 u1 d2 u2 d3 u3 d4 u4 d5 u5 d6 u6 d7 u7
    have L2 := H7.out.1
    have L4 := H7.out.2.1
    have d0 := L2.cell 0 _ rfl
    have d1 := L2.cell 1 _ rfl
    have d2 := L2.cell 2 _ rfl
    have d3 := L2.cell 3 _ rfl
    have d4 := L2.cell 4 _ rfl
    have d5 := L2.cell 5 _ rfl
    have d6 := L2.cell 6 _ rfl
    have d7 := L2.cell 7 _ rfl
    have z0 := L4.cell 0 _ rfl
    have z1 := L4.cell 1 _ rfl
    have z2 := L4.cell 2 _ rfl
    have z3 := L4.cell 3 _ rfl
    have z4 := L4.cell 4 _ rfl
    have z5 := L4.cell 5 _ rfl
    have z6 := L4.cell 6 _ rfl
    have z7 := L4.cell 7 _ rfl
    have v0 := L4.free 0
    have v1 := L4.free 1
    have v2 := L4.free 2
    have v3 := L4.free 3
    have v4 := L4.free 4
    have v5 := L4.free 5
    have v6 := L4.free 6
    have v7 := L4.free 7
    clear L2 L4
    go_wp2_with fail
    refine bodyPost_ret (results_cell_slot rfl _ _ p4 [.pointer (some ⟨g, 0, none⟩), .int .i64 yq, .slice ya1 yn1 yc1, .slice ya2 yn2 yc2, .slice ya3 yn3 yc3, .slice ya4 yn4 yc4, .int .i64 yl, .bool yd] _ rfl (putAll_lb [.pointer (some ⟨g, 0, none⟩), .int .i64 yq, .slice ya1 yn1 yc1, .slice ya2 yn2 yc2, .slice ya3 yn3 yc3, .slice ya4 yn4 yc4, .int .i64 yl, .bool yd] H7.out.2.1 rfl).range Try.underlying56 rfl (by kernel_rfl)) rfl ?_
    obtain ⟨M5, K5, hpt⟩ := H7.out.2.2
    exact ⟨⟨some ⟨g, 0, none⟩, yq, ya1, yn1, yc1, ya2, yn2, yc2, ya3, yn3, yc3, ya4, yn4, yc4, yl, yd⟩, g, _, M5, _, K5, rfl, rfl, (hpt.put HFK.out.1 HFK.out.2 HP.out.2.1 HP.out.2.2.2.1 [.pointer (some ⟨g, 0, none⟩), .int .i64 yq, .slice ya1 yn1 yc1, .slice ya2 yn2 yc2, .slice ya3 yn3 yc3, .slice ya4 yn4 yc4, .int .i64 yl, .bool yd] 0).low⟩
  by_cases k15 : o.k = 15
  · have HK9 : Hid (o.k = 15) := k15
    clear k15 hk k12
    obtain ⟨L, hL⟩ : ∃ L, L = rcrash R o.n o.cs := ⟨_, rfl⟩
    have HLB : Hid (L.length ≤ N ∧ (∀ x ∈ L, x.1.length ≤ maxLen) ∧ Dk.flen L ≤ 4194304) := by
      have hp := HPM.out W2 (Below.refl _ _)
      obtain ⟨h1, h2, h3⟩ := hp.sy.crash o.n o.cs
      rw [hL, hp.sy.rl.crash]
      exact ⟨h1, fun x hx => by have := (h2 x hx).1; unfold maxLen; omega, h3⟩
    have H1 : Hid (Calls Try.prog 64 #[.agg #[.int .i64 xq, .slice xa1 xn1 xc1, .slice xa2 xn2 xc2, .slice xa3 xn3 xc3, .slice xa4 xn4 xc4, .int .i64 xl, .bool xd], .int .i64 o.n, .slice o.ca o.cs.length o.cc] W2 fun e w' => ∃ x y z, e = .returned (.slice x y z) ∧ Fls (fun _ => True) w' (.slice x y z) L ∧ Below W2.heap.size W2 w') := by
      have hp := HPM.out W2 (Below.refl _ _)
      have hbn := hp.sy.bn
      have hN := HPM0.out.2.2.2
      exact (rkcrash_any K R _ o.n _ o.cs W2 hp.rd (HOK.out.1.ok.2.2.1.kept HBX.out.2.2.2) (by omega) hp.sy.rl.chg (fun t ht => by have := hp.sy.ln t ht; omega)).mono fun e w' ⟨v, h1, h2, h3⟩ => by
        rw [← hL] at h2
        obtain ⟨a, k, rfl⟩ := fls_slice h2
        exact ⟨_, _, _, h1, h2.mono fun _ _ => trivial, h3⟩
    have H2 : Hid (∀ W, Below W2.heap.size W2 W → Calls Try.prog 25 #[.pointer (some ⟨g, 0, none⟩), .int .i64 o.n, .slice o.ca o.cs.length o.cc] W fun e w' => ∃ x y z, e = .returned (.slice x y z) ∧ Fls (fun _ => True) w' (.slice x y z) L ∧ Below W.heap.size W w') := fun W hW => by
      have hp := HPM.out W hW
      have hN := HPM0.out.2.2.2
      rw [hL, hp.sy.rl.crash]
      exact (dkcrash_wf B g S M N o.n _ o.cs W hp.dm (HOK.out.1.ok.2.2.1.kept (andThen HBX.out.2.2.2 hW)) hp.sy.wf (by omega)).mono fun e w' ⟨v, h1, h2, h3⟩ => by
        obtain ⟨a, k, rfl⟩ := fls_slice h2
        exact ⟨_, _, _, h1, h2.mono fun _ _ => trivial, h3⟩
    clear hL
    have L2 := HBX.out.1.kept (Below.refl _ _)
    have L3 := HBX.out.2.1.kept (Below.refl _ _)
    have d0 := L2.cell 0 _ rfl
    have d1 := L2.cell 1 _ rfl
    have d2 := L2.cell 2 _ rfl
    have d3 := L2.cell 3 _ rfl
    have d4 := L2.cell 4 _ rfl
    have d5 := L2.cell 5 _ rfl
    have d6 := L2.cell 6 _ rfl
    have d7 := L2.cell 7 _ rfl
    have q0 := L3.cell 0 _ rfl
    have q1 := L3.cell 1 _ rfl
    have q2 := L3.cell 2 _ rfl
    have q3 := L3.cell 3 _ rfl
    have q4 := L3.cell 4 _ rfl
    have q5 := L3.cell 5 _ rfl
    have q6 := L3.cell 6 _ rfl
    have q7 := L3.cell 7 _ rfl
    clear L2 L3
    rw [HK9.out] at q0
    go_enter Try.func46, Try.ntmps46
    go_upto_region 1 with fail
    rw [HW2.out.1]
    first | rw [HW2.out.2.1] | skip
    first | rw [HW2.out.2.2.1] | skip
    first | rw [HW2.out.2.2.2] | skip
    go_wp2_with fail
    refine H1.out.mono ?_
    rintro e W3 ⟨ra, rn, rc, rfl, f3, b3⟩
    have H3 : Hid (Fls (fun _ => True) W3 (.slice ra rn rc) L ∧ Below W2.heap.size W2 W3) := ⟨f3, b3⟩
    clear f3 b3 H1
    clear d0 d1 d2 d3 d4 d5 d6 d7 q0 q1 q2 q3 q4 q5 q6 q7
    have L2 := HBX.out.1.kept H3.out.2
    have L3 := HBX.out.2.1.kept H3.out.2
    have d0 := L2.cell 0 _ rfl
    have d1 := L2.cell 1 _ rfl
    have d2 := L2.cell 2 _ rfl
    have d3 := L2.cell 3 _ rfl
    have d4 := L2.cell 4 _ rfl
    have d5 := L2.cell 5 _ rfl
    have d6 := L2.cell 6 _ rfl
    have d7 := L2.cell 7 _ rfl
    have q0 := L3.cell 0 _ rfl
    have q1 := L3.cell 1 _ rfl
    have q2 := L3.cell 2 _ rfl
    have q3 := L3.cell 3 _ rfl
    have q4 := L3.cell 4 _ rfl
    have q5 := L3.cell 5 _ rfl
    have q6 := L3.cell 6 _ rfl
    have q7 := L3.cell 7 _ rfl
    clear L2 L3
    go_wp2_with fail
    refine (H2.out W3 H3.out.2).mono ?_
    rintro e W4 ⟨ma, mn, mc, rfl, f4, b4⟩
    have H4 : Hid (Fls (fun _ => True) W4 (.slice ma mn mc) L ∧ Below W2.heap.size W2 W4 ∧ Fls (fun _ => True) W4 (.slice ra rn rc) L) := ⟨f4, andThen H3.out.2 b4, H3.out.1.kept b4⟩
    clear f4 b4 H2
    have HFA : Hid (Calls Try.prog 17 #[.slice ma mn mc, .slice ra rn rc] W4 fun e w' => e = .returned (.bool true) ∧ Below W4.heap.size W4 w') := dlfalike_yes _ _ _ _ L W4 H4.out.1 H4.out.2.2
    clear d0 d1 d2 d3 d4 d5 d6 d7 q0 q1 q2 q3 q4 q5 q6 q7
    go_wp2_with fail
    refine HFA.out.mono ?_
    rintro e W5 ⟨rfl, b5⟩
    have H5 : Hid (Fls (fun _ => True) W5 (.slice ma mn mc) L ∧ Below W2.heap.size W2 W5) := ⟨H4.out.1.kept b5, andThen H4.out.2.1 b5⟩
    clear b5 HFA
    have L2 := HBX.out.1.kept H5.out.2
    have L3 := HBX.out.2.1.kept H5.out.2
    have d0 := L2.cell 0 _ rfl
    have d1 := L2.cell 1 _ rfl
    have d2 := L2.cell 2 _ rfl
    have d3 := L2.cell 3 _ rfl
    have d4 := L2.cell 4 _ rfl
    have d5 := L2.cell 5 _ rfl
    have d6 := L2.cell 6 _ rfl
    have d7 := L2.cell 7 _ rfl
    have q0 := L3.cell 0 _ rfl
    have q1 := L3.cell 1 _ rfl
    have q2 := L3.cell 2 _ rfl
    have q3 := L3.cell 3 _ rfl
    have q4 := L3.cell 4 _ rfl
    have q5 := L3.cell 5 _ rfl
    have q6 := L3.cell 6 _ rfl
    have q7 := L3.cell 7 _ rfl
    clear L2 L3
    have HLD : Hid (Calls Try.prog 23 #[.agg #[.pointer (some ⟨g, 0, none⟩), .int .i64 xq, .slice xa1 xn1 xc1, .slice xa2 xn2 xc2, .slice xa3 xn3 xc3, .slice xa4 xn4 xc4, .int .i64 xl, .bool xd], .int .i64 (xq), .slice ma mn mc, .bool false] W5 fun e w' => ∃ g5 S5 M5 R5 K5 yq ya1 yn1 yc1 ya2 yn2 yc2 ya3 yn3 yc3 ya4 yn4 yc4 yl yd, e = .returned (.tuple #[.agg #[.pointer (some ⟨g5, 0, none⟩), .int .i64 yq, .slice ya1 yn1 yc1, .slice ya2 yn2 yc2, .slice ya3 yn3 yc3, .slice ya4 yn4 yc4, .int .i64 yl, .bool yd], .bool true]) ∧ PT B (N + 1) K w W2.heap.size g S M w' g5 S5 M5 R5 (.agg #[.int .i64 yq, .slice ya1 yn1 yc1, .slice ya2 yn2 yc2, .slice ya3 yn3 yc3, .slice ya4 yn4 yc4, .int .i64 yl, .bool yd]) K5 ∧ Below (W5).heap.size W5 w') := (dlloaded_any (fun _ => True) ⟨some ⟨g, 0, none⟩, xq, xa1, xn1, xc1, xa2, xn2, xc2, xa3, xn3, xc3, xa4, xn4, xc4, xl, xd⟩ xq _ L false W5 H5.out.1 (fun e => by cases e) (by have := HLB.out.1; have := HPM0.out.2.2.2; omega) HLB.out.2.1 (by have := HLB.out.2.2; omega)).mono fun e w' hl => LdQ.pt (x := ⟨some ⟨g, 0, none⟩, xq, xa1, xn1, xc1, xa2, xn2, xc2, xa3, xn3, xc3, xa4, xn4, xc4, xl, xd⟩) rfl HPM0.out.1 (andThen HBX.out.2.2.2 H5.out.2) HBX.out.2.2.2.size (H5.out.2).size HPM0.out.2.1 (Nat.le_succ _) (by have := HLB.out.1; omega) hl
    go_wp2_with fail
    refine HLD.out.mono ?_
    rintro e W9 ⟨g5, S5, M5, R5, K5, yq, ya1, yn1, yc1, ya2, yn2, yc2, ya3, yn3, yc3, ya4, yn4, yc4, yl, yd, rfl, hpt, b9⟩
    clear HLD
    clear d0 d1 d2 d3 d4 d5 d6 d7 q0 q1 q2 q3 q4 q5 q6 q7
    have L4 := HBX.out.2.2.1.kept (andThen H5.out.2 b9)
    have HL4 : Hid (LB W9 p4 56 [.pointer none, .int .i64 0, .slice none 0 0, .slice none 0 0, .slice none 0 0, .slice none 0 0, .int .i64 0, .bool false]) := L4
    have z0 := L4.cell 0 _ rfl
    have z1 := L4.cell 1 _ rfl
    have z2 := L4.cell 2 _ rfl
    have z3 := L4.cell 3 _ rfl
    have z4 := L4.cell 4 _ rfl
    have z5 := L4.cell 5 _ rfl
    have z6 := L4.cell 6 _ rfl
    have z7 := L4.cell 7 _ rfl
    have u0 := L4.free 0
    have u1 := L4.free 1
    have u2 := L4.free 2
    have u3 := L4.free 3
    have u4 := L4.free 4
    have u5 := L4.free 5
    have u6 := L4.free 6
    have u7 := L4.free 7
    clear L4
    have HPT : Hid (PT B (N + 1) K w W2.heap.size g S M W9 g5 S5 M5 R5 (.agg #[.int .i64 yq, .slice ya1 yn1 yc1, .slice ya2 yn2 yc2, .slice ya3 yn3 yc3, .slice ya4 yn4 yc4, .int .i64 yl, .bool yd]) K5) := hpt
    clear hpt b9
    go_wp2_with fail
    refine bodyPost_ret (results_cell_slot rfl _ _ p4 [.pointer (some ⟨g5, 0, none⟩), .int .i64 yq, .slice ya1 yn1 yc1, .slice ya2 yn2 yc2, .slice ya3 yn3 yc3, .slice ya4 yn4 yc4, .int .i64 yl, .bool yd] _ rfl (putAll_lb [.pointer (some ⟨g5, 0, none⟩), .int .i64 yq, .slice ya1 yn1 yc1, .slice ya2 yn2 yc2, .slice ya3 yn3 yc3, .slice ya4 yn4 yc4, .int .i64 yl, .bool yd] HL4.out rfl).range Try.underlying56 rfl (by kernel_rfl)) rfl ?_
    exact ⟨⟨some ⟨g5, 0, none⟩, yq, ya1, yn1, yc1, ya2, yn2, yc2, ya3, yn3, yc3, ya4, yn4, yc4, yl, yd⟩, g5, S5, M5, R5, K5, rfl, rfl, (HPT.out.put HFK.out.1 HFK.out.2 HP.out.2.1 HP.out.2.2.2.1 [.pointer (some ⟨g5, 0, none⟩), .int .i64 yq, .slice ya1 yn1 yc1, .slice ya2 yn2 yc2, .slice ya3 yn3 yc3, .slice ya4 yn4 yc4, .int .i64 yl, .bool yd] 0).low⟩
  by_cases k16 : o.k = 16
  · have HK9 : Hid (o.k = 16) := k16
    clear k16 hk k12 k15
    have L2 := HBX.out.1.kept (Below.refl _ _)
    have L3 := HBX.out.2.1.kept (Below.refl _ _)
    have d0 := L2.cell 0 _ rfl
    have d1 := L2.cell 1 _ rfl
    have d2 := L2.cell 2 _ rfl
    have d3 := L2.cell 3 _ rfl
    have d4 := L2.cell 4 _ rfl
    have d5 := L2.cell 5 _ rfl
    have d6 := L2.cell 6 _ rfl
    have d7 := L2.cell 7 _ rfl
    have q0 := L3.cell 0 _ rfl
    have q1 := L3.cell 1 _ rfl
    have q2 := L3.cell 2 _ rfl
    have q3 := L3.cell 3 _ rfl
    have q4 := L3.cell 4 _ rfl
    have q5 := L3.cell 5 _ rfl
    have q6 := L3.cell 6 _ rfl
    have q7 := L3.cell 7 _ rfl
    clear L2 L3
    rw [HK9.out] at q0
    have HLD : Hid (Calls Try.prog 23 #[.agg #[.pointer (some ⟨g, 0, none⟩), .int .i64 xq, .slice xa1 xn1 xc1, .slice xa2 xn2 xc2, .slice xa3 xn3 xc3, .slice xa4 xn4 xc4, .int .i64 xl, .bool xd], .int .i64 (o.n), .slice none 0 0, .bool true] W2 fun e w' => ∃ g5 S5 M5 R5 K5 yq ya1 yn1 yc1 ya2 yn2 yc2 ya3 yn3 yc3 ya4 yn4 yc4 yl yd, e = .returned (.tuple #[.agg #[.pointer (some ⟨g5, 0, none⟩), .int .i64 yq, .slice ya1 yn1 yc1, .slice ya2 yn2 yc2, .slice ya3 yn3 yc3, .slice ya4 yn4 yc4, .int .i64 yl, .bool yd], .bool true]) ∧ PT B (N + 1) K w W2.heap.size g S M w' g5 S5 M5 R5 (.agg #[.int .i64 yq, .slice ya1 yn1 yc1, .slice ya2 yn2 yc2, .slice ya3 yn3 yc3, .slice ya4 yn4 yc4, .int .i64 yl, .bool yd]) K5 ∧ Below (W2).heap.size W2 w') := (dlloaded_any (fun _ => True) ⟨some ⟨g, 0, none⟩, xq, xa1, xn1, xc1, xa2, xn2, xc2, xa3, xn3, xc3, xa4, xn4, xc4, xl, xd⟩ o.n _ [] true W2 (fls_nil W2) (fun _ => rfl) (Nat.zero_le _) (fun x hx => by cases hx) (Nat.zero_le _)).mono fun e w' hl => LdQ.pt (x := ⟨some ⟨g, 0, none⟩, xq, xa1, xn1, xc1, xa2, xn2, xc2, xa3, xn3, xc3, xa4, xn4, xc4, xl, xd⟩) rfl HPM0.out.1 (andThen HBX.out.2.2.2 (Below.refl W2.heap.size W2)) HBX.out.2.2.2.size ((Below.refl W2.heap.size W2)).size HPM0.out.2.1 (Nat.le_succ _) (Nat.zero_le _) hl
    go_enter Try.func46, Try.ntmps46
    go_upto_region 1 with fail
    rw [HW2.out.1]
    first | rw [HW2.out.2.1] | skip
    first | rw [HW2.out.2.2.1] | skip
    first | rw [HW2.out.2.2.2] | skip
    go_wp2_with fail
    refine HLD.out.mono ?_
    rintro e W9 ⟨g5, S5, M5, R5, K5, yq, ya1, yn1, yc1, ya2, yn2, yc2, ya3, yn3, yc3, ya4, yn4, yc4, yl, yd, rfl, hpt, b9⟩
    clear HLD
    clear d0 d1 d2 d3 d4 d5 d6 d7 q0 q1 q2 q3 q4 q5 q6 q7
    have L4 := HBX.out.2.2.1.kept (andThen (Below.refl W2.heap.size W2) b9)
    have HL4 : Hid (LB W9 p4 56 [.pointer none, .int .i64 0, .slice none 0 0, .slice none 0 0, .slice none 0 0, .slice none 0 0, .int .i64 0, .bool false]) := L4
    have z0 := L4.cell 0 _ rfl
    have z1 := L4.cell 1 _ rfl
    have z2 := L4.cell 2 _ rfl
    have z3 := L4.cell 3 _ rfl
    have z4 := L4.cell 4 _ rfl
    have z5 := L4.cell 5 _ rfl
    have z6 := L4.cell 6 _ rfl
    have z7 := L4.cell 7 _ rfl
    have u0 := L4.free 0
    have u1 := L4.free 1
    have u2 := L4.free 2
    have u3 := L4.free 3
    have u4 := L4.free 4
    have u5 := L4.free 5
    have u6 := L4.free 6
    have u7 := L4.free 7
    clear L4
    have HPT : Hid (PT B (N + 1) K w W2.heap.size g S M W9 g5 S5 M5 R5 (.agg #[.int .i64 yq, .slice ya1 yn1 yc1, .slice ya2 yn2 yc2, .slice ya3 yn3 yc3, .slice ya4 yn4 yc4, .int .i64 yl, .bool yd]) K5) := hpt
    clear hpt b9
    go_wp2_with fail
    refine bodyPost_ret (results_cell_slot rfl _ _ p4 [.pointer (some ⟨g5, 0, none⟩), .int .i64 yq, .slice ya1 yn1 yc1, .slice ya2 yn2 yc2, .slice ya3 yn3 yc3, .slice ya4 yn4 yc4, .int .i64 yl, .bool yd] _ rfl (putAll_lb [.pointer (some ⟨g5, 0, none⟩), .int .i64 yq, .slice ya1 yn1 yc1, .slice ya2 yn2 yc2, .slice ya3 yn3 yc3, .slice ya4 yn4 yc4, .int .i64 yl, .bool yd] HL4.out rfl).range Try.underlying56 rfl (by kernel_rfl)) rfl ?_
    exact ⟨⟨some ⟨g5, 0, none⟩, yq, ya1, yn1, yc1, ya2, yn2, yc2, ya3, yn3, yc3, ya4, yn4, yc4, yl, yd⟩, g5, S5, M5, R5, K5, rfl, rfl, (HPT.out.put HFK.out.1 HFK.out.2 HP.out.2.1 HP.out.2.2.2.1 [.pointer (some ⟨g5, 0, none⟩), .int .i64 yq, .slice ya1 yn1 yc1, .slice ya2 yn2 yc2, .slice ya3 yn3 yc3, .slice ya4 yn4 yc4, .int .i64 yl, .bool yd] 0).low⟩
  by_cases k17 : o.k = 17
  · have HK9 : Hid (o.k = 17) := k17
    clear k17 hk k12 k15 k16
    have L2 := HBX.out.1.kept (Below.refl _ _)
    have L3 := HBX.out.2.1.kept (Below.refl _ _)
    have d0 := L2.cell 0 _ rfl
    have d1 := L2.cell 1 _ rfl
    have d2 := L2.cell 2 _ rfl
    have d3 := L2.cell 3 _ rfl
    have d4 := L2.cell 4 _ rfl
    have d5 := L2.cell 5 _ rfl
    have d6 := L2.cell 6 _ rfl
    have d7 := L2.cell 7 _ rfl
    have q0 := L3.cell 0 _ rfl
    have q1 := L3.cell 1 _ rfl
    have q2 := L3.cell 2 _ rfl
    have q3 := L3.cell 3 _ rfl
    have q4 := L3.cell 4 _ rfl
    have q5 := L3.cell 5 _ rfl
    have q6 := L3.cell 6 _ rfl
    have q7 := L3.cell 7 _ rfl
    clear L2 L3
    rw [HK9.out] at q0
    obtain ⟨lfs, hlf, hl1, hl2, hl3⟩ := HOK.out.1.fs
    have HLD : Hid (Calls Try.prog 23 #[.agg #[.pointer (some ⟨g, 0, none⟩), .int .i64 xq, .slice xa1 xn1 xc1, .slice xa2 xn2 xc2, .slice xa3 xn3 xc3, .slice xa4 xn4 xc4, .int .i64 xl, .bool xd], .int .i64 (o.n), .slice o.fa o.fn o.fc, .bool false] W2 fun e w' => ∃ g5 S5 M5 R5 K5 yq ya1 yn1 yc1 ya2 yn2 yc2 ya3 yn3 yc3 ya4 yn4 yc4 yl yd, e = .returned (.tuple #[.agg #[.pointer (some ⟨g5, 0, none⟩), .int .i64 yq, .slice ya1 yn1 yc1, .slice ya2 yn2 yc2, .slice ya3 yn3 yc3, .slice ya4 yn4 yc4, .int .i64 yl, .bool yd], .bool true]) ∧ PT B (N + 1) K w W2.heap.size g S M w' g5 S5 M5 R5 (.agg #[.int .i64 yq, .slice ya1 yn1 yc1, .slice ya2 yn2 yc2, .slice ya3 yn3 yc3, .slice ya4 yn4 yc4, .int .i64 yl, .bool yd]) K5 ∧ Below (W2).heap.size W2 w') := (dlloaded_any (fun _ => True) ⟨some ⟨g, 0, none⟩, xq, xa1, xn1, xc1, xa2, xn2, xc2, xa3, xn3, xc3, xa4, xn4, xc4, xl, xd⟩ o.n _ lfs false W2 (hlf.kept HBX.out.2.2.2) (fun e => by cases e) (by omega) hl2 (by omega)).mono fun e w' hl => LdQ.pt (x := ⟨some ⟨g, 0, none⟩, xq, xa1, xn1, xc1, xa2, xn2, xc2, xa3, xn3, xc3, xa4, xn4, xc4, xl, xd⟩) rfl HPM0.out.1 (andThen HBX.out.2.2.2 (Below.refl W2.heap.size W2)) HBX.out.2.2.2.size ((Below.refl W2.heap.size W2)).size HPM0.out.2.1 (Nat.le_succ _) (by have := HPM0.out.2.2.1; omega) hl
    clear hlf hl1 hl2 hl3
    go_enter Try.func46, Try.ntmps46
    go_upto_region 1 with fail
    rw [HW2.out.1]
    first | rw [HW2.out.2.1] | skip
    first | rw [HW2.out.2.2.1] | skip
    first | rw [HW2.out.2.2.2] | skip
    go_wp2_with fail
    refine HLD.out.mono ?_
    rintro e W9 ⟨g5, S5, M5, R5, K5, yq, ya1, yn1, yc1, ya2, yn2, yc2, ya3, yn3, yc3, ya4, yn4, yc4, yl, yd, rfl, hpt, b9⟩
    clear HLD
    clear d0 d1 d2 d3 d4 d5 d6 d7 q0 q1 q2 q3 q4 q5 q6 q7
    have L4 := HBX.out.2.2.1.kept (andThen (Below.refl W2.heap.size W2) b9)
    have HL4 : Hid (LB W9 p4 56 [.pointer none, .int .i64 0, .slice none 0 0, .slice none 0 0, .slice none 0 0, .slice none 0 0, .int .i64 0, .bool false]) := L4
    have z0 := L4.cell 0 _ rfl
    have z1 := L4.cell 1 _ rfl
    have z2 := L4.cell 2 _ rfl
    have z3 := L4.cell 3 _ rfl
    have z4 := L4.cell 4 _ rfl
    have z5 := L4.cell 5 _ rfl
    have z6 := L4.cell 6 _ rfl
    have z7 := L4.cell 7 _ rfl
    have u0 := L4.free 0
    have u1 := L4.free 1
    have u2 := L4.free 2
    have u3 := L4.free 3
    have u4 := L4.free 4
    have u5 := L4.free 5
    have u6 := L4.free 6
    have u7 := L4.free 7
    clear L4
    have HPT : Hid (PT B (N + 1) K w W2.heap.size g S M W9 g5 S5 M5 R5 (.agg #[.int .i64 yq, .slice ya1 yn1 yc1, .slice ya2 yn2 yc2, .slice ya3 yn3 yc3, .slice ya4 yn4 yc4, .int .i64 yl, .bool yd]) K5) := hpt
    clear hpt b9
    go_wp2_with fail
    refine bodyPost_ret (results_cell_slot rfl _ _ p4 [.pointer (some ⟨g5, 0, none⟩), .int .i64 yq, .slice ya1 yn1 yc1, .slice ya2 yn2 yc2, .slice ya3 yn3 yc3, .slice ya4 yn4 yc4, .int .i64 yl, .bool yd] _ rfl (putAll_lb [.pointer (some ⟨g5, 0, none⟩), .int .i64 yq, .slice ya1 yn1 yc1, .slice ya2 yn2 yc2, .slice ya3 yn3 yc3, .slice ya4 yn4 yc4, .int .i64 yl, .bool yd] HL4.out rfl).range Try.underlying56 rfl (by kernel_rfl)) rfl ?_
    exact ⟨⟨some ⟨g5, 0, none⟩, yq, ya1, yn1, yc1, ya2, yn2, yc2, ya3, yn3, yc3, ya4, yn4, yc4, yl, yd⟩, g5, S5, M5, R5, K5, rfl, rfl, (HPT.out.put HFK.out.1 HFK.out.2 HP.out.2.1 HP.out.2.2.2.1 [.pointer (some ⟨g5, 0, none⟩), .int .i64 yq, .slice ya1 yn1 yc1, .slice ya2 yn2 yc2, .slice ya3 yn3 yc3, .slice ya4 yn4 yc4, .int .i64 yl, .bool yd] 0).low⟩
  have x12 : (o.k == 12) = false := beq_eq_false_iff_ne.2 k12
  have x15 : (o.k == 15) = false := beq_eq_false_iff_ne.2 k15
  have x16 : (o.k == 16) = false := beq_eq_false_iff_ne.2 k16
  have x17 : (o.k == 17) = false := beq_eq_false_iff_ne.2 k17
  by_cases h1 : 1 ≤ o.k
  · have t1 : (1 ≤ o.k) = True := eq_true h1
    have t7 : (o.k ≤ 7) = False := eq_false fun e => hk ⟨h1, e⟩
    clear h1 hk k12 k15 k16 k17
    have HTO : Hid (Calls Try.prog 65 #[.pointer (some ⟨g, 0, none⟩), .agg #[.int .i64 xq, .slice xa1 xn1 xc1, .slice xa2 xn2 xc2, .slice xa3 xn3 xc3, .slice xa4 xn4 xc4, .int .i64 xl, .bool xd], .agg #[.int .i64 o.k, .bool o.two, .string o.a, .string o.b, .int .i64 o.n, .slice o.da o.data.length o.dc, .slice o.ca o.cs.length o.cc, .slice o.fa o.fn o.fc]] W2 fun e w' => e = .returned (.bool true) ∧ Below W2.heap.size W2 w') := by
      have h9 := dltold_any B N K g S M R _ o W2 (HPM.out W2 (Below.refl _ _)) (by have := HPM0.out.2.2.2; omega) (HOK.out.1.kept HBX.out.2.2.2)
      unfold opv at h9
      exact h9
    have L2 := HBX.out.1.kept (Below.refl _ _)
    have L3 := HBX.out.2.1.kept (Below.refl _ _)
    have d0 := L2.cell 0 _ rfl
    have d1 := L2.cell 1 _ rfl
    have d2 := L2.cell 2 _ rfl
    have d3 := L2.cell 3 _ rfl
    have d4 := L2.cell 4 _ rfl
    have d5 := L2.cell 5 _ rfl
    have d6 := L2.cell 6 _ rfl
    have d7 := L2.cell 7 _ rfl
    have q0 := L3.cell 0 _ rfl
    have q1 := L3.cell 1 _ rfl
    have q2 := L3.cell 2 _ rfl
    have q3 := L3.cell 3 _ rfl
    have q4 := L3.cell 4 _ rfl
    have q5 := L3.cell 5 _ rfl
    have q6 := L3.cell 6 _ rfl
    have q7 := L3.cell 7 _ rfl
    clear L2 L3
    go_enter Try.func46, Try.ntmps46
    go_upto_region 1 with fail
    rw [HW2.out.1]
    first | rw [HW2.out.2.1] | skip
    first | rw [HW2.out.2.2.1] | skip
    first | rw [HW2.out.2.2.2] | skip
    go_wp2_with fail
    refine HTO.out.mono ?_
    rintro e W3 ⟨rfl, b3⟩
    have H3 : Hid (Below W2.heap.size W2 W3) := b3
    clear b3 HTO
    clear d0 d1 d2 d3 d4 d5 d6 d7 q0 q1 q2 q3 q4 q5 q6 q7
    have L2 := HBX.out.1.kept H3.out
    have L4 := HBX.out.2.2.1.kept H3.out
    have HL4 : Hid (LB W3 p4 56 [.pointer none, .int .i64 0, .slice none 0 0, .slice none 0 0, .slice none 0 0, .slice none 0 0, .int .i64 0, .bool false]) := L4
    have d0 := L2.cell 0 _ rfl
    have d1 := L2.cell 1 _ rfl
    have d2 := L2.cell 2 _ rfl
    have d3 := L2.cell 3 _ rfl
    have d4 := L2.cell 4 _ rfl
    have d5 := L2.cell 5 _ rfl
    have d6 := L2.cell 6 _ rfl
    have d7 := L2.cell 7 _ rfl
    have z0 := L4.cell 0 _ rfl
    have z1 := L4.cell 1 _ rfl
    have z2 := L4.cell 2 _ rfl
    have z3 := L4.cell 3 _ rfl
    have z4 := L4.cell 4 _ rfl
    have z5 := L4.cell 5 _ rfl
    have z6 := L4.cell 6 _ rfl
    have z7 := L4.cell 7 _ rfl
    have v0 := L4.free 0
    have v1 := L4.free 1
    have v2 := L4.free 2
    have v3 := L4.free 3
    have v4 := L4.free 4
    have v5 := L4.free 5
    have v6 := L4.free 6
    have v7 := L4.free 7
    clear L2 L4
    go_wp2_with fail
    refine bodyPost_ret (results_cell_slot rfl _ _ p4 [.pointer (some ⟨g, 0, none⟩), .int .i64 xq, .slice xa1 xn1 xc1, .slice xa2 xn2 xc2, .slice xa3 xn3 xc3, .slice xa4 xn4 xc4, .int .i64 xl, .bool xd] _ rfl (putAll_lb [.pointer (some ⟨g, 0, none⟩), .int .i64 xq, .slice xa1 xn1 xc1, .slice xa2 xn2 xc2, .slice xa3 xn3 xc3, .slice xa4 xn4 xc4, .int .i64 xl, .bool xd] HL4.out rfl).range Try.underlying56 rfl (by kernel_rfl)) rfl ?_
    exact ⟨⟨some ⟨g, 0, none⟩, xq, xa1, xn1, xc1, xa2, xn2, xc2, xa3, xn3, xc3, xa4, xn4, xc4, xl, xd⟩, g, S, M, R, K, rfl, rfl, ((PT.same (L := W2.heap.size) HPM0.out.1 (Nat.le_succ _) (andThen HBX.out.2.2.2 H3.out) HBX.out.2.2.2.size).put HFK.out.1 HFK.out.2 HP.out.2.1 HP.out.2.2.2.1 [.pointer (some ⟨g, 0, none⟩), .int .i64 xq, .slice xa1 xn1 xc1, .slice xa2 xn2 xc2, .slice xa3 xn3 xc3, .slice xa4 xn4 xc4, .int .i64 xl, .bool xd] 0).low⟩
  · have t1 : (1 ≤ o.k) = False := eq_false h1
    clear h1 hk k12 k15 k16 k17
    have HTO : Hid (Calls Try.prog 65 #[.pointer (some ⟨g, 0, none⟩), .agg #[.int .i64 xq, .slice xa1 xn1 xc1, .slice xa2 xn2 xc2, .slice xa3 xn3 xc3, .slice xa4 xn4 xc4, .int .i64 xl, .bool xd], .agg #[.int .i64 o.k, .bool o.two, .string o.a, .string o.b, .int .i64 o.n, .slice o.da o.data.length o.dc, .slice o.ca o.cs.length o.cc, .slice o.fa o.fn o.fc]] W2 fun e w' => e = .returned (.bool true) ∧ Below W2.heap.size W2 w') := by
      have h9 := dltold_any B N K g S M R _ o W2 (HPM.out W2 (Below.refl _ _)) (by have := HPM0.out.2.2.2; omega) (HOK.out.1.kept HBX.out.2.2.2)
      unfold opv at h9
      exact h9
    have L2 := HBX.out.1.kept (Below.refl _ _)
    have L3 := HBX.out.2.1.kept (Below.refl _ _)
    have d0 := L2.cell 0 _ rfl
    have d1 := L2.cell 1 _ rfl
    have d2 := L2.cell 2 _ rfl
    have d3 := L2.cell 3 _ rfl
    have d4 := L2.cell 4 _ rfl
    have d5 := L2.cell 5 _ rfl
    have d6 := L2.cell 6 _ rfl
    have d7 := L2.cell 7 _ rfl
    have q0 := L3.cell 0 _ rfl
    have q1 := L3.cell 1 _ rfl
    have q2 := L3.cell 2 _ rfl
    have q3 := L3.cell 3 _ rfl
    have q4 := L3.cell 4 _ rfl
    have q5 := L3.cell 5 _ rfl
    have q6 := L3.cell 6 _ rfl
    have q7 := L3.cell 7 _ rfl
    clear L2 L3
    go_enter Try.func46, Try.ntmps46
    go_upto_region 1 with fail
    rw [HW2.out.1]
    first | rw [HW2.out.2.1] | skip
    first | rw [HW2.out.2.2.1] | skip
    first | rw [HW2.out.2.2.2] | skip
    go_wp2_with fail
    refine HTO.out.mono ?_
    rintro e W3 ⟨rfl, b3⟩
    have H3 : Hid (Below W2.heap.size W2 W3) := b3
    clear b3 HTO
    clear d0 d1 d2 d3 d4 d5 d6 d7 q0 q1 q2 q3 q4 q5 q6 q7
    have L2 := HBX.out.1.kept H3.out
    have L4 := HBX.out.2.2.1.kept H3.out
    have HL4 : Hid (LB W3 p4 56 [.pointer none, .int .i64 0, .slice none 0 0, .slice none 0 0, .slice none 0 0, .slice none 0 0, .int .i64 0, .bool false]) := L4
    have d0 := L2.cell 0 _ rfl
    have d1 := L2.cell 1 _ rfl
    have d2 := L2.cell 2 _ rfl
    have d3 := L2.cell 3 _ rfl
    have d4 := L2.cell 4 _ rfl
    have d5 := L2.cell 5 _ rfl
    have d6 := L2.cell 6 _ rfl
    have d7 := L2.cell 7 _ rfl
    have z0 := L4.cell 0 _ rfl
    have z1 := L4.cell 1 _ rfl
    have z2 := L4.cell 2 _ rfl
    have z3 := L4.cell 3 _ rfl
    have z4 := L4.cell 4 _ rfl
    have z5 := L4.cell 5 _ rfl
    have z6 := L4.cell 6 _ rfl
    have z7 := L4.cell 7 _ rfl
    have v0 := L4.free 0
    have v1 := L4.free 1
    have v2 := L4.free 2
    have v3 := L4.free 3
    have v4 := L4.free 4
    have v5 := L4.free 5
    have v6 := L4.free 6
    have v7 := L4.free 7
    clear L2 L4
    go_wp2_with fail
    refine bodyPost_ret (results_cell_slot rfl _ _ p4 [.pointer (some ⟨g, 0, none⟩), .int .i64 xq, .slice xa1 xn1 xc1, .slice xa2 xn2 xc2, .slice xa3 xn3 xc3, .slice xa4 xn4 xc4, .int .i64 xl, .bool xd] _ rfl (putAll_lb [.pointer (some ⟨g, 0, none⟩), .int .i64 xq, .slice xa1 xn1 xc1, .slice xa2 xn2 xc2, .slice xa3 xn3 xc3, .slice xa4 xn4 xc4, .int .i64 xl, .bool xd] HL4.out rfl).range Try.underlying56 rfl (by kernel_rfl)) rfl ?_
    exact ⟨⟨some ⟨g, 0, none⟩, xq, xa1, xn1, xc1, xa2, xn2, xc2, xa3, xn3, xc3, xa4, xn4, xc4, xl, xd⟩, g, S, M, R, K, rfl, rfl, ((PT.same (L := W2.heap.size) HPM0.out.1 (Nat.le_succ _) (andThen HBX.out.2.2.2 H3.out) HBX.out.2.2.2.size).put HFK.out.1 HFK.out.2 HP.out.2.1 HP.out.2.2.2.1 [.pointer (some ⟨g, 0, none⟩), .int .i64 xq, .slice xa1 xn1 xc1, .slice xa2 xn2 xc2, .slice xa3 xn3 xc3, .slice xa4 xn4 xc4, .int .i64 xl, .bool xd] 0).low⟩
end Go.Proofs.Ytjepeeopjjnglab
