import Derived.Test.YtjepeeopjjnglabQN26
/-
  The laws' own functions: loaded.
-/
namespace Go.Proofs.Ytjepeeopjjnglab
open Go Go.RowKit Go.ChangeShapes
open Wb
open Rd
/-- cells are written one behind the other -/
def putAll (W : World) (p : Nat) : Nat → List Value → World
  | _, [] => W
  | i, v :: r => putAll (W.setCell ⟨p, i, none⟩ v) p (i + 1) r
theorem putAll_far {p q : Nat} (h : q ≠ p) : ∀ (r : List Value) (W : World) (i : Nat), (putAll W p i r).heap[q]? = W.heap[q]?
  | [], _, _ => rfl
  | _v :: r, _W, _i => (putAll_far h r _ _).trans (set_other _ _ _ _ h)
theorem putAll_size {p : Nat} : ∀ (r : List Value) (W : World) (i : Nat), (putAll W p i r).heap.size = W.heap.size
  | [], _, _ => rfl
  | _v :: r, _W, _i => (putAll_size r _ _).trans (size_set1 _ _ _)
theorem putAll_os {p : Nat} : ∀ (r : List Value) (W : World) (i : Nat), (putAll W p i r).os = W.os ∧ (putAll W p i r).tape = W.tape ∧ (putAll W p i r).output = W.output
  | [], _, _ => ⟨rfl, rfl, rfl⟩
  | v :: r, W, i => putAll_os r (W.setCell ⟨p, i, none⟩ v) (i + 1)
theorem putAll_bel {n p : Nat} {w W : World} (h : Below n w W) (hp : n ≤ p) (r : List Value) (i : Nat) : Below n w (putAll W p i r) := by
  obtain ⟨e1, e2, e3⟩ := putAll_os (p := p) r W i
  exact ⟨e1.trans h.os, e2.trans h.tape, e3.trans h.output, by rw [putAll_size]; exact h.size, fun q hq => (putAll_far (by omega) r W i).trans (h.block q hq)⟩
theorem putAll_ifr {p : Nat} {F : Nat → Prop} {w W : World} (h : IFr w W F) (hp : w.heap.size ≤ p) (r : List Value) (i : Nat) : IFr w (putAll W p i r) F := by
  obtain ⟨e1, e2, e3⟩ := putAll_os (p := p) r W i
  exact ⟨e1.trans h.os, e2.trans h.tape, e3.trans h.output, by rw [putAll_size]; exact h.size, fun q hq hn => (putAll_far (by omega) r W i).trans (h.block q hq hn)⟩
theorem putAll_at {p : Nat} {t : TypeId} : ∀ (r r0 pre : List Value) (W : World), r0.length = r.length → LB W p t (pre ++ r0) → LB (putAll W p pre.length r) p t (pre ++ r)
  | [], r0, pre, W, e, h => by
    have e2 : r0 = [] := List.eq_nil_of_length_eq_zero e
    subst e2
    exact h
  | v :: r, [], pre, W, e, h => by cases e
  | v :: r, x :: r0, pre, W, e, h => by
    have h2 := h.set pre.length v
    have e2 : (pre ++ x :: r0).set pre.length v = (pre ++ [v]) ++ r0 := by
      rw [List.set_append_right _ _ (Nat.le_refl _), Nat.sub_self, List.set_cons_zero, List.append_assoc]
      rfl
    rw [e2] at h2
    have h3 := putAll_at r r0 (pre ++ [v]) _ (by simpa using e) h2
    rw [List.length_append, List.length_singleton, List.append_assoc] at h3
    exact h3
theorem putAll_lb {p : Nat} {t : TypeId} {W : World} {r0 : List Value} (r : List Value) (h : LB W p t r0) (e : r0.length = r.length) : LB (putAll W p 0 r) p t r := putAll_at r r0 [] W e h
/-- a pair's value -/
structure PVal where
  pa : Option Addr
  q : Int
  a1 : Option Addr
  n1 : Nat
  c1 : Nat
  a2 : Option Addr
  n2 : Nat
  c2 : Nat
  a3 : Option Addr
  n3 : Nat
  c3 : Nat
  a4 : Option Addr
  n4 : Nat
  c4 : Nat
  l : Int
  d : Bool
def pvc (x : PVal) : List Value := [.pointer x.pa, .int .i64 x.q, .slice x.a1 x.n1 x.c1, .slice x.a2 x.n2 x.c2, .slice x.a3 x.n3 x.c3, .slice x.a4 x.n4 x.c4, .int .i64 x.l, .bool x.d]
def pvv (x : PVal) : Value := .agg #[.pointer x.pa, .int .i64 x.q, .slice x.a1 x.n1 x.c1, .slice x.a2 x.n2 x.c2, .slice x.a3 x.n3 x.c3, .slice x.a4 x.n4 x.c4, .int .i64 x.l, .bool x.d]
def pvw (x : PVal) : Value := .agg #[.int .i64 x.q, .slice x.a1 x.n1 x.c1, .slice x.a2 x.n2 x.c2, .slice x.a3 x.n3 x.c3, .slice x.a4 x.n4 x.c4, .int .i64 x.l, .bool x.d]
/-- what loaded hands back -/
def LdQ (q : Int) (fs : List (List UInt8 × List Nat)) (x : PVal) (w : World) (e : Ending) (w' : World) : Prop := Below w.heap.size w w' ∧ ((rldE q fs ≠ 0 ∧ e = .returned (.tuple #[pvv x, .bool true])) ∨ (rldE q fs = 0 ∧ ∃ g S M y K, e = .returned (.tuple #[pvv y, .bool true]) ∧ y.pa = some ⟨g, 0, none⟩ ∧ PM w.heap.size fs.length K w' g S M (rbgn q fs) (pvw y) ∧ ∀ q, K q → w.heap.size ≤ q))
/-- what Load and New hand back -/
def LoP (q : Int) (fs : List (List UInt8 × List Nat)) (w : World) (e : Ending) (w' : World) : Prop := ∃ pv E, e = .returned (.tuple #[pv, .int .i64 E]) ∧ E = rldE q fs ∧ Below w.heap.size w w' ∧ ((E ≠ 0 ∧ pv = .pointer none) ∨ (E = 0 ∧ ∃ g S M, pv = .pointer (some ⟨g, 0, none⟩) ∧ DM w.heap.size w' g S M ∧ Dk.WF S fs.length ∧ Rl S (rbgn q fs)))
theorem lo_new (q : Int) (w : World) : Calls Try.prog 21 #[.int .i64 q] w fun e w' => LoP q [] w e w' := (dknew_any q w).mono fun e w' h => by
  rcases h with ⟨h1, rfl, rfl⟩ | ⟨h1, rfl, h2, h3⟩
  · refine ⟨_, _, rfl, ?_, Below.refl _ _, .inl ⟨by decide, rfl⟩⟩
    unfold rldE
    rw [if_pos (by omega)]
  · refine ⟨_, _, rfl, ?_, h3, .inr ⟨rfl, _, _, _, rfl, h2, Dk.WF.new q h1.1 h1.2, rl_new q []⟩⟩
    unfold rldE
    rw [if_neg (by omega)]
    show (0 : Int) = if (0 : Int) ≠ 0 then 0 else if ((0 : Nat) : Int) > q then 64 else 0
    rw [if_neg (by omega), if_neg (by omega)]
theorem lo_load (q : Int) (ok1 : Nat → Prop) (v : Value) (fs : List (List UInt8 × List Nat)) (w : World) (hfs : Fls ok1 w v fs) (hn : fs.length ≤ 400000000) (hnm : ∀ x ∈ fs, x.1.length ≤ maxLen) : Calls Try.prog 47 #[.int .i64 q, v] w fun e w' => LoP q fs w e w' := (dkload_rl q ok1 v fs w hfs hn hnm).mono fun e w' ⟨bel, h⟩ => by
  rcases h with ⟨h1, rfl⟩ | ⟨h1, g, S, M, rfl, h2, h3, h4⟩
  · exact ⟨_, _, rfl, rfl, bel, .inl ⟨h1, rfl⟩⟩
  · exact ⟨_, _, rfl, h1.symm, bel, .inr ⟨rfl, g, S, M, rfl, h2, h3, h4⟩⟩
theorem flen_mem {fs : List (List UInt8 × List Nat)} : ∀ x ∈ fs, x.2.length ≤ Dk.flen fs := fun x hx => by
  unfold Dk.flen
  induction fs with
  | nil => cases hx
  | cons y r ih =>
    rw [List.map_cons, List.sum_cons]
    rcases List.mem_cons.1 hx with e | e
    · rw [e]
      omega
    · have := ih e
      omega
/-- the pair that loaded makes -/
theorem ld_pm {q : Int} {fs : List (List UInt8 × List Nat)} {w W3 W4 W5 W7 Wz : World} {g : Nat} {S : Dk.DS} {M : Mm} {v : Value} {p8 : Nat} (b3 : Below w.heap.size w W3) (d : DM W3.heap.size W4 g S M) (b5 : Below W4.heap.size W4 W5) (r : RdM (W4.heap.size ≤ ·) W5 (rbgn q fs) v) (b7 : Below W5.heap.size W5 W7) (far : ∀ q, q ≠ p8 → Wz.heap[q]? = W7.heap[q]?) (_hz : Wz.heap.size = W7.heap.size) (h8 : p8 < W3.heap.size) (h34 : W3.heap.size ≤ W4.heap.size) (hW : Dk.WF S fs.length) (hr : Rl S (rbgn q fs)) : ∃ K, PM w.heap.size fs.length K Wz g S M (rbgn q fs) v ∧ ∀ q, K q → w.heap.size ≤ q := by
  have hb : Below W4.heap.size W4 W7 := andThen b5 b7
  refine ⟨fun q => W4.heap.size ≤ q ∧ q < Wz.heap.size, ⟨(DM.low (d.kept hb) b3.size).blk fun q hq => far q ?_, ?_, Sy.load hW hr, fun q hq => hq.2, fun q hq e => ?_⟩, fun q hq => Nat.le_trans (Nat.le_trans b3.size h34) hq.1⟩
  · have := (d.ft hq).1
    omega
  · have h1 := ((r.kept b7).blk fun q hq _ => far q (show q ≠ p8 by omega)).lt
    exact h1
  · have := (d.ft e).2
    omega
set_option maxRecDepth 100000 in
set_option maxHeartbeats 32000000 in
theorem dlloaded_any (ok1 : Nat → Prop) (x : PVal) (q : Int) (v : Value) (fs : List (List UInt8 × List Nat)) (bare : Bool) (w : World) (hfs : Fls ok1 w v fs) (hb : bare = true → fs = []) (hn : fs.length ≤ 100000000) (hnm : ∀ x ∈ fs, x.1.length ≤ maxLen) (hsum : Dk.flen fs ≤ 1000000000) :
    Calls Try.prog 23 #[pvv x, .int .i64 q, v, .bool bare] w fun e w' => LdQ q fs x w e w' := by
  obtain ⟨va, vc, rfl⟩ := fls_slice hfs
  obtain ⟨vn, hvn⟩ : ∃ n, n = fs.length := ⟨_, rfl⟩
  rw [← hvn] at hfs ⊢
  obtain ⟨pa, xq, xa1, xn1, xc1, xa2, xn2, xc2, xa3, xn3, xc3, xa4, xn4, xc4, xl, xd⟩ := x
  have hbx := lb_new2 w [.pointer pa, .int .i64 xq, .slice xa1 xn1 xc1, .slice xa2 xn2 xc2, .slice xa3 xn3 xc3, .slice xa4 xn4 xc4, .int .i64 xl, .bool xd] [.pointer none, .int .i64 0, .slice none 0 0, .slice none 0 0, .slice none 0 0, .slice none 0 0, .int .i64 0, .bool false] 56 56
  obtain ⟨W2, hW2⟩ : ∃ W, W = (w.alloc (.cells #[.pointer pa, .int .i64 xq, .slice xa1 xn1 xc1, .slice xa2 xn2 xc2, .slice xa3 xn3 xc3, .slice xa4 xn4 xc4, .int .i64 xl, .bool xd] 56)).alloc (.cells #[.pointer none, .int .i64 0, .slice none 0 0, .slice none 0 0, .slice none 0 0, .slice none 0 0, .int .i64 0, .bool false] 56) := ⟨_, rfl⟩
  obtain ⟨p4, hp4⟩ : ∃ p, p = w.heap.size := ⟨_, rfl⟩
  obtain ⟨p8, hp8⟩ : ∃ p, p = w.heap.size + 1 := ⟨_, rfl⟩
  have HBX : Hid (LB W2 p4 56 [.pointer pa, .int .i64 xq, .slice xa1 xn1 xc1, .slice xa2 xn2 xc2, .slice xa3 xn3 xc3, .slice xa4 xn4 xc4, .int .i64 xl, .bool xd] ∧ LB W2 p8 56 [.pointer none, .int .i64 0, .slice none 0 0, .slice none 0 0, .slice none 0 0, .slice none 0 0, .int .i64 0, .bool false] ∧ Below w.heap.size w W2 ∧ w.heap.size ≤ p8 ∧ p8 < W2.heap.size) := by
    have h2 : LB W2 p8 56 [.pointer none, .int .i64 0, .slice none 0 0, .slice none 0 0, .slice none 0 0, .slice none 0 0, .int .i64 0, .bool false] := by
      rw [hW2, hp8]
      exact hbx.2.1
    refine ⟨?_, h2, ?_, by omega, h2.lt⟩
    · rw [hW2, hp4]
      exact hbx.1
    · rw [hW2]
      exact hbx.2.2
  have HW2 : Hid ((w.alloc (.cells #[.pointer pa, .int .i64 xq, .slice xa1 xn1 xc1, .slice xa2 xn2 xc2, .slice xa3 xn3 xc3, .slice xa4 xn4 xc4, .int .i64 xl, .bool xd] 56)).alloc (.cells #[.pointer none, .int .i64 0, .slice none 0 0, .slice none 0 0, .slice none 0 0, .slice none 0 0, .int .i64 0, .bool false] 56) = W2 ∧ w.heap.size + 1 = p8 ∧ w.heap.size = p4) := ⟨hW2.symm, hp8.symm, hp4.symm⟩
  have HV : Hid (∀ W, Below W2.heap.size W2 W → Fls ok1 W (.slice va vn vc) fs) := fun W hW => hfs.kept (andThen HBX.out.2.2.1 hW)
  have HLL : Hid (fs.length ≤ 100000000 ∧ (∀ x ∈ fs, x.1.length ≤ maxLen) ∧ Dk.flen fs ≤ 1000000000) := ⟨hn, hnm, hsum⟩
  have HCP : Hid (Calls Try.prog 15 #[.slice va vn vc] W2 fun e w' => ∃ wa wn wc, e = .returned (.slice wa wn wc) ∧ Fls (fun _ => True) w' (.slice wa wn wc) fs ∧ Below W2.heap.size W2 w') := (dlcopies_any ok1 _ fs W2 (HV.out W2 (Below.refl _ _)) (by omega) (fun x hx => by have := flen_mem x hx; omega)).mono fun e w' ⟨v', ys, h1, h2, h3, h4⟩ => by
    have h5 := h2.fls
    rw [h3] at h5
    obtain ⟨a, k, rfl⟩ := fls_slice h5
    exact ⟨_, _, _, h1, h5.mono fun _ _ => trivial, h4⟩
  clear hbx hW2 hp4 hp8 hfs hn hnm hsum hvn
  unfold pvv
  go_enter Try.func23, Try.ntmps23
  go_upto_region 1 with fail
  rw [HW2.out.1]
  first | rw [HW2.out.2.1] | skip
  first | rw [HW2.out.2.2] | skip
  go_wp2_with fail
  refine HCP.out.mono ?_
  rintro e W3 ⟨wa, wn, wc, rfl, f3, b3⟩
  have H3 : Hid (Fls (fun _ => True) W3 (.slice wa wn wc) fs ∧ Below W2.heap.size W2 W3) := ⟨f3, b3⟩
  clear f3 b3 HCP
  cases bare with
  | true =>
    have hnil := hb rfl
    have HLO : Hid (Calls Try.prog 21 #[.int .i64 q] W3 fun e w' => LoP q fs W3 e w') := by
      rw [hnil]
      exact lo_new q W3
    clear hnil hb
    go_wp2_with fail
    refine HLO.out.mono ?_
    rintro e W4 ⟨pv, E, rfl, hE, b4, hcase⟩
    have H4 : Hid (E = rldE q fs ∧ Below W3.heap.size W3 W4 ∧ True) := ⟨hE, b4, trivial⟩
    clear hE b4
    rcases hcase with ⟨e0, rfl⟩ | ⟨e0, g, S, M, rfl, hdm, hWF, hRl⟩
    · have HRK : Hid (Calls Try.prog 48 #[.int .i64 q, .slice wa wn wc] W4 fun e w' => ∃ yq ya1 yn1 yc1 ya2 yn2 yc2 ya3 yn3 yc3 ya4 yn4 yc4 yl yd, e = .returned (.tuple #[.agg #[.int .i64 yq, .slice ya1 yn1 yc1, .slice ya2 yn2 yc2, .slice ya3 yn3 yc3, .slice ya4 yn4 yc4, .int .i64 yl, .bool yd], .int .i64 E]) ∧ (E = 0 → RdM (W4.heap.size ≤ ·) w' (rbgn q fs) (.agg #[.int .i64 yq, .slice ya1 yn1 yc1, .slice ya2 yn2 yc2, .slice ya3 yn3 yc3, .slice ya4 yn4 yc4, .int .i64 yl, .bool yd])) ∧ Below W4.heap.size W4 w') := (rkload_any _ q _ fs W4 (H3.out.1.kept H4.out.2.1) (by have := HLL.out.1; omega) (fun x hx => by have := flen_mem x hx; have := HLL.out.2.2; omega) HLL.out.2.1 (by have := HLL.out.2.2; omega)).mono fun e w' ⟨v', E', h1, ⟨yq, ya1, yn1, yc1, ya2, yn2, yc2, ya3, yn3, yc3, ya4, yn4, yc4, yl, yd, hv⟩, h2, h3, h4⟩ => by
        rw [← H4.out.1] at h2
        subst h2 hv
        exact ⟨_, _, _, _, _, _, _, _, _, _, _, _, _, _, _, h1, h3, h4⟩
      go_wp2_with fail
      refine HRK.out.mono ?_
      rintro e W5 ⟨yq, ya1, yn1, yc1, ya2, yn2, yc2, ya3, yn3, yc3, ya4, yn4, yc4, yl, yd, rfl, hrd, b5⟩
      have H5 : Hid ((E = 0 → RdM (W4.heap.size ≤ ·) W5 (rbgn q fs) (.agg #[.int .i64 yq, .slice ya1 yn1 yc1, .slice ya2 yn2 yc2, .slice ya3 yn3 yc3, .slice ya4 yn4 yc4, .int .i64 yl, .bool yd])) ∧ Below W4.heap.size W4 W5) := ⟨hrd, b5⟩
      clear hrd b5 HRK
      obtain ⟨p13, hp13⟩ : ∃ p, p = W5.heap.size := ⟨_, rfl⟩
      obtain ⟨W6, hW6⟩ : ∃ W, W = W5.alloc (.cells #[.int .i64 yq, .slice ya1 yn1 yc1, .slice ya2 yn2 yc2, .slice ya3 yn3 yc3, .slice ya4 yn4 yc4, .int .i64 yl, .bool yd] 54) := ⟨_, rfl⟩
      have H6 : Hid (LB W6 p13 54 [.int .i64 yq, .slice ya1 yn1 yc1, .slice ya2 yn2 yc2, .slice ya3 yn3 yc3, .slice ya4 yn4 yc4, .int .i64 yl, .bool yd] ∧ Below W5.heap.size W5 W6) := by
        rw [hW6, hp13]
        exact ⟨lb_new W5 [.int .i64 yq, .slice ya1 yn1 yc1, .slice ya2 yn2 yc2, .slice ya3 yn3 yc3, .slice ya4 yn4 yc4, .int .i64 yl, .bool yd] 54, up0 _ _⟩
      have HW6 : Hid (W5.alloc (.cells #[.int .i64 yq, .slice ya1 yn1 yc1, .slice ya2 yn2 yc2, .slice ya3 yn3 yc3, .slice ya4 yn4 yc4, .int .i64 yl, .bool yd] 54) = W6 ∧ W5.heap.size = p13) := ⟨hW6.symm, hp13.symm⟩
      clear hW6 hp13
      go_upto_region 8 with fail
      rw [HW6.out.1, HW6.out.2]
      have HBZ : Hid (Below W2.heap.size W2 W6) := andThen (andThen (andThen H3.out.2 H4.out.2.1) H5.out.2) H6.out.2
      have HNU : Hid (Calls Try.prog 22 #[.int .i64 E] W6 fun e w' => e = .returned (.int .i64 E) ∧ W6 = w') := (dlnum_any E W6).mono fun e w' ⟨h1, h2⟩ => ⟨h1, h2.symm⟩
      have HFA : Hid (Calls Try.prog 17 #[.slice va vn vc, .slice wa wn wc] W6 fun e w' => e = .returned (.bool true) ∧ Below W6.heap.size W6 w') := dlfalike_yes _ _ _ _ fs W6 (HV.out W6 HBZ.out) (H3.out.1.kept (andThen (andThen H4.out.2.1 H5.out.2) H6.out.2))
      have xE : (E != E) = false := by simp
      have x0 : (E != 0) = true := by rw [bne_iff_ne]; exact e0
      clear e0
      go_wp2_with fail
      refine HNU.out.mono ?_
      rintro e Wn ⟨rfl, rfl⟩
      go_wp2_with fail
      refine HFA.out.mono ?_
      rintro e W7 ⟨rfl, b7⟩
      have H7 : Hid (Below W6.heap.size W6 W7) := b7
      clear b7 HNU HFA
      have L4 := HBX.out.1.kept (andThen HBZ.out H7.out)
      have L8 := HBX.out.2.1.kept (andThen HBZ.out H7.out)
      have y0 := L4.cell 0 _ rfl
      have y1 := L4.cell 1 _ rfl
      have y2 := L4.cell 2 _ rfl
      have y3 := L4.cell 3 _ rfl
      have y4 := L4.cell 4 _ rfl
      have y5 := L4.cell 5 _ rfl
      have y6 := L4.cell 6 _ rfl
      have y7 := L4.cell 7 _ rfl
      have HL8 : Hid (LB W7 p8 56 [.pointer none, .int .i64 0, .slice none 0 0, .slice none 0 0, .slice none 0 0, .slice none 0 0, .int .i64 0, .bool false]) := L8
      have z0 := L8.cell 0 _ rfl
      have z1 := L8.cell 1 _ rfl
      have z2 := L8.cell 2 _ rfl
      have z3 := L8.cell 3 _ rfl
      have z4 := L8.cell 4 _ rfl
      have z5 := L8.cell 5 _ rfl
      have z6 := L8.cell 6 _ rfl
      have z7 := L8.cell 7 _ rfl
      have u0 := L8.free 0
      have u1 := L8.free 1
      have u2 := L8.free 2
      have u3 := L8.free 3
      have u4 := L8.free 4
      have u5 := L8.free 5
      have u6 := L8.free 6
      have u7 := L8.free 7
      clear L4 L8
      go_wp2_with fail
      refine bodyPost_ret (results_cell_slot rfl _ _ p8 [.pointer pa, .int .i64 xq, .slice xa1 xn1 xc1, .slice xa2 xn2 xc2, .slice xa3 xn3 xc3, .slice xa4 xn4 xc4, .int .i64 xl, .bool xd] _ rfl (putAll_lb [.pointer pa, .int .i64 xq, .slice xa1 xn1 xc1, .slice xa2 xn2 xc2, .slice xa3 xn3 xc3, .slice xa4 xn4 xc4, .int .i64 xl, .bool xd] HL8.out rfl).range Try.underlying56 rfl (by kernel_rfl)) rfl ?_
      exact ⟨putAll_bel (r := [.pointer pa, .int .i64 xq, .slice xa1 xn1 xc1, .slice xa2 xn2 xc2, .slice xa3 xn3 xc3, .slice xa4 xn4 xc4, .int .i64 xl, .bool xd]) (i := 0) (andThen HBX.out.2.2.1 (andThen HBZ.out H7.out)) HBX.out.2.2.2.1, .inl ⟨fun h => absurd (H4.out.1.trans h) (by rw [bne_iff_ne] at x0; exact x0), rfl⟩⟩
    · have hdm0 : Hid (DM W3.heap.size W4 g S M) := hdm
      have hWF0 : Hid (Dk.WF S fs.length) := hWF
      have hRl0 : Hid (Rl S (rbgn q fs)) := hRl
      clear hdm hWF hRl
      subst e0
      have HRK : Hid (Calls Try.prog 48 #[.int .i64 q, .slice wa wn wc] W4 fun e w' => ∃ yq ya1 yn1 yc1 ya2 yn2 yc2 ya3 yn3 yc3 ya4 yn4 yc4 yl yd, e = .returned (.tuple #[.agg #[.int .i64 yq, .slice ya1 yn1 yc1, .slice ya2 yn2 yc2, .slice ya3 yn3 yc3, .slice ya4 yn4 yc4, .int .i64 yl, .bool yd], .int .i64 0]) ∧ (RdM (W4.heap.size ≤ ·) w' (rbgn q fs) (.agg #[.int .i64 yq, .slice ya1 yn1 yc1, .slice ya2 yn2 yc2, .slice ya3 yn3 yc3, .slice ya4 yn4 yc4, .int .i64 yl, .bool yd])) ∧ Below W4.heap.size W4 w') := (rkload_any _ q _ fs W4 (H3.out.1.kept H4.out.2.1) (by have := HLL.out.1; omega) (fun x hx => by have := flen_mem x hx; have := HLL.out.2.2; omega) HLL.out.2.1 (by have := HLL.out.2.2; omega)).mono fun e w' ⟨v', E', h1, ⟨yq, ya1, yn1, yc1, ya2, yn2, yc2, ya3, yn3, yc3, ya4, yn4, yc4, yl, yd, hv⟩, h2, h3, h4⟩ => by
        rw [← H4.out.1] at h2
        subst h2 hv
        exact ⟨_, _, _, _, _, _, _, _, _, _, _, _, _, _, _, h1, h3 rfl, h4⟩
      go_wp2_with fail
      refine HRK.out.mono ?_
      rintro e W5 ⟨yq, ya1, yn1, yc1, ya2, yn2, yc2, ya3, yn3, yc3, ya4, yn4, yc4, yl, yd, rfl, hrd, b5⟩
      have H5 : Hid ((RdM (W4.heap.size ≤ ·) W5 (rbgn q fs) (.agg #[.int .i64 yq, .slice ya1 yn1 yc1, .slice ya2 yn2 yc2, .slice ya3 yn3 yc3, .slice ya4 yn4 yc4, .int .i64 yl, .bool yd])) ∧ Below W4.heap.size W4 W5) := ⟨hrd, b5⟩
      clear hrd b5 HRK
      obtain ⟨p13, hp13⟩ : ∃ p, p = W5.heap.size := ⟨_, rfl⟩
      obtain ⟨W6, hW6⟩ : ∃ W, W = W5.alloc (.cells #[.int .i64 yq, .slice ya1 yn1 yc1, .slice ya2 yn2 yc2, .slice ya3 yn3 yc3, .slice ya4 yn4 yc4, .int .i64 yl, .bool yd] 54) := ⟨_, rfl⟩
      have H6 : Hid (LB W6 p13 54 [.int .i64 yq, .slice ya1 yn1 yc1, .slice ya2 yn2 yc2, .slice ya3 yn3 yc3, .slice ya4 yn4 yc4, .int .i64 yl, .bool yd] ∧ Below W5.heap.size W5 W6) := by
        rw [hW6, hp13]
        exact ⟨lb_new W5 [.int .i64 yq, .slice ya1 yn1 yc1, .slice ya2 yn2 yc2, .slice ya3 yn3 yc3, .slice ya4 yn4 yc4, .int .i64 yl, .bool yd] 54, up0 _ _⟩
      have HW6 : Hid (W5.alloc (.cells #[.int .i64 yq, .slice ya1 yn1 yc1, .slice ya2 yn2 yc2, .slice ya3 yn3 yc3, .slice ya4 yn4 yc4, .int .i64 yl, .bool yd] 54) = W6 ∧ W5.heap.size = p13) := ⟨hW6.symm, hp13.symm⟩
      clear hW6 hp13
      go_upto_region 8 with fail
      rw [HW6.out.1, HW6.out.2]
      have HBZ : Hid (Below W2.heap.size W2 W6) := andThen (andThen (andThen H3.out.2 H4.out.2.1) H5.out.2) H6.out.2
      have HNU : Hid (Calls Try.prog 22 #[.int .i64 0] W6 fun e w' => e = .returned (.int .i64 0) ∧ W6 = w') := (dlnum_any 0 W6).mono fun e w' ⟨h1, h2⟩ => ⟨h1, h2.symm⟩
      have HFA : Hid (Calls Try.prog 17 #[.slice va vn vc, .slice wa wn wc] W6 fun e w' => e = .returned (.bool true) ∧ Below W6.heap.size W6 w') := dlfalike_yes _ _ _ _ fs W6 (HV.out W6 HBZ.out) (H3.out.1.kept (andThen (andThen H4.out.2.1 H5.out.2) H6.out.2))
      have xE : ((0 : Int) != 0) = false := rfl
      go_wp2_with fail
      refine HNU.out.mono ?_
      rintro e Wn ⟨rfl, rfl⟩
      go_wp2_with fail
      refine HFA.out.mono ?_
      rintro e W7 ⟨rfl, b7⟩
      have H7 : Hid (Below W6.heap.size W6 W7) := b7
      clear b7 HNU HFA
      have L13 := H6.out.1.kept H7.out
      have L8 := HBX.out.2.1.kept (andThen HBZ.out H7.out)
      have y0 := L13.cell 0 _ rfl
      have y1 := L13.cell 1 _ rfl
      have y2 := L13.cell 2 _ rfl
      have y3 := L13.cell 3 _ rfl
      have y4 := L13.cell 4 _ rfl
      have y5 := L13.cell 5 _ rfl
      have y6 := L13.cell 6 _ rfl
      have HL8 : Hid (LB W7 p8 56 [.pointer none, .int .i64 0, .slice none 0 0, .slice none 0 0, .slice none 0 0, .slice none 0 0, .int .i64 0, .bool false]) := L8
      have z0 := L8.cell 0 _ rfl
      have z1 := L8.cell 1 _ rfl
      have z2 := L8.cell 2 _ rfl
      have z3 := L8.cell 3 _ rfl
      have z4 := L8.cell 4 _ rfl
      have z5 := L8.cell 5 _ rfl
      have z6 := L8.cell 6 _ rfl
      have z7 := L8.cell 7 _ rfl
      have u0 := L8.free 0
      have u1 := L8.free 1
      have u2 := L8.free 2
      have u3 := L8.free 3
      have u4 := L8.free 4
      have u5 := L8.free 5
      have u6 := L8.free 6
      have u7 := L8.free 7
      clear L13 L8
      go_wp2_with fail
      refine bodyPost_ret (results_cell_slot rfl _ _ p8 [.pointer (some ⟨g, 0, none⟩), .int .i64 yq, .slice ya1 yn1 yc1, .slice ya2 yn2 yc2, .slice ya3 yn3 yc3, .slice ya4 yn4 yc4, .int .i64 yl, .bool yd] _ rfl (putAll_lb [.pointer (some ⟨g, 0, none⟩), .int .i64 yq, .slice ya1 yn1 yc1, .slice ya2 yn2 yc2, .slice ya3 yn3 yc3, .slice ya4 yn4 yc4, .int .i64 yl, .bool yd] HL8.out rfl).range Try.underlying56 rfl (by kernel_rfl)) rfl ?_
      obtain ⟨K, hK, hK2⟩ := ld_pm (p8 := p8) (andThen HBX.out.2.2.1 H3.out.2) hdm0.out H5.out.2 H5.out.1 (andThen H6.out.2 H7.out) (fun q hq => putAll_far hq [.pointer (some ⟨g, 0, none⟩), .int .i64 yq, .slice ya1 yn1 yc1, .slice ya2 yn2 yc2, .slice ya3 yn3 yc3, .slice ya4 yn4 yc4, .int .i64 yl, .bool yd] W7 0) (putAll_size [.pointer (some ⟨g, 0, none⟩), .int .i64 yq, .slice ya1 yn1 yc1, .slice ya2 yn2 yc2, .slice ya3 yn3 yc3, .slice ya4 yn4 yc4, .int .i64 yl, .bool yd] W7 0) (Nat.lt_of_lt_of_le HBX.out.2.2.2.2 H3.out.2.size) H4.out.2.1.size hWF0.out hRl0.out
      exact ⟨putAll_bel (r := [.pointer (some ⟨g, 0, none⟩), .int .i64 yq, .slice ya1 yn1 yc1, .slice ya2 yn2 yc2, .slice ya3 yn3 yc3, .slice ya4 yn4 yc4, .int .i64 yl, .bool yd]) (i := 0) (andThen HBX.out.2.2.1 (andThen HBZ.out H7.out)) HBX.out.2.2.2.1, .inr ⟨H4.out.1.symm, g, S, M, ⟨some ⟨g, 0, none⟩, yq, ya1, yn1, yc1, ya2, yn2, yc2, ya3, yn3, yc3, ya4, yn4, yc4, yl, yd⟩, K, rfl, rfl, hK, hK2⟩⟩
  | false =>
    have HLO : Hid (Calls Try.prog 47 #[.int .i64 q, .slice va vn vc] W3 fun e w' => LoP q fs W3 e w') := lo_load q ok1 _ fs W3 (HV.out W3 H3.out.2) (by have := HLL.out.1; omega) HLL.out.2.1
    clear hb
    go_wp2_with fail
    refine HLO.out.mono ?_
    rintro e W4 ⟨pv, E, rfl, hE, b4, hcase⟩
    have H4 : Hid (E = rldE q fs ∧ Below W3.heap.size W3 W4 ∧ True) := ⟨hE, b4, trivial⟩
    clear hE b4
    rcases hcase with ⟨e0, rfl⟩ | ⟨e0, g, S, M, rfl, hdm, hWF, hRl⟩
    · have HRK : Hid (Calls Try.prog 48 #[.int .i64 q, .slice wa wn wc] W4 fun e w' => ∃ yq ya1 yn1 yc1 ya2 yn2 yc2 ya3 yn3 yc3 ya4 yn4 yc4 yl yd, e = .returned (.tuple #[.agg #[.int .i64 yq, .slice ya1 yn1 yc1, .slice ya2 yn2 yc2, .slice ya3 yn3 yc3, .slice ya4 yn4 yc4, .int .i64 yl, .bool yd], .int .i64 E]) ∧ (E = 0 → RdM (W4.heap.size ≤ ·) w' (rbgn q fs) (.agg #[.int .i64 yq, .slice ya1 yn1 yc1, .slice ya2 yn2 yc2, .slice ya3 yn3 yc3, .slice ya4 yn4 yc4, .int .i64 yl, .bool yd])) ∧ Below W4.heap.size W4 w') := (rkload_any _ q _ fs W4 (H3.out.1.kept H4.out.2.1) (by have := HLL.out.1; omega) (fun x hx => by have := flen_mem x hx; have := HLL.out.2.2; omega) HLL.out.2.1 (by have := HLL.out.2.2; omega)).mono fun e w' ⟨v', E', h1, ⟨yq, ya1, yn1, yc1, ya2, yn2, yc2, ya3, yn3, yc3, ya4, yn4, yc4, yl, yd, hv⟩, h2, h3, h4⟩ => by
        rw [← H4.out.1] at h2
        subst h2 hv
        exact ⟨_, _, _, _, _, _, _, _, _, _, _, _, _, _, _, h1, h3, h4⟩
      go_wp2_with fail
      refine HRK.out.mono ?_
      rintro e W5 ⟨yq, ya1, yn1, yc1, ya2, yn2, yc2, ya3, yn3, yc3, ya4, yn4, yc4, yl, yd, rfl, hrd, b5⟩
      have H5 : Hid ((E = 0 → RdM (W4.heap.size ≤ ·) W5 (rbgn q fs) (.agg #[.int .i64 yq, .slice ya1 yn1 yc1, .slice ya2 yn2 yc2, .slice ya3 yn3 yc3, .slice ya4 yn4 yc4, .int .i64 yl, .bool yd])) ∧ Below W4.heap.size W4 W5) := ⟨hrd, b5⟩
      clear hrd b5 HRK
      obtain ⟨p13, hp13⟩ : ∃ p, p = W5.heap.size := ⟨_, rfl⟩
      obtain ⟨W6, hW6⟩ : ∃ W, W = W5.alloc (.cells #[.int .i64 yq, .slice ya1 yn1 yc1, .slice ya2 yn2 yc2, .slice ya3 yn3 yc3, .slice ya4 yn4 yc4, .int .i64 yl, .bool yd] 54) := ⟨_, rfl⟩
      have H6 : Hid (LB W6 p13 54 [.int .i64 yq, .slice ya1 yn1 yc1, .slice ya2 yn2 yc2, .slice ya3 yn3 yc3, .slice ya4 yn4 yc4, .int .i64 yl, .bool yd] ∧ Below W5.heap.size W5 W6) := by
        rw [hW6, hp13]
        exact ⟨lb_new W5 [.int .i64 yq, .slice ya1 yn1 yc1, .slice ya2 yn2 yc2, .slice ya3 yn3 yc3, .slice ya4 yn4 yc4, .int .i64 yl, .bool yd] 54, up0 _ _⟩
      have HW6 : Hid (W5.alloc (.cells #[.int .i64 yq, .slice ya1 yn1 yc1, .slice ya2 yn2 yc2, .slice ya3 yn3 yc3, .slice ya4 yn4 yc4, .int .i64 yl, .bool yd] 54) = W6 ∧ W5.heap.size = p13) := ⟨hW6.symm, hp13.symm⟩
      clear hW6 hp13
      go_upto_region 8 with fail
      rw [HW6.out.1, HW6.out.2]
      have HBZ : Hid (Below W2.heap.size W2 W6) := andThen (andThen (andThen H3.out.2 H4.out.2.1) H5.out.2) H6.out.2
      have HNU : Hid (Calls Try.prog 22 #[.int .i64 E] W6 fun e w' => e = .returned (.int .i64 E) ∧ W6 = w') := (dlnum_any E W6).mono fun e w' ⟨h1, h2⟩ => ⟨h1, h2.symm⟩
      have HFA : Hid (Calls Try.prog 17 #[.slice va vn vc, .slice wa wn wc] W6 fun e w' => e = .returned (.bool true) ∧ Below W6.heap.size W6 w') := dlfalike_yes _ _ _ _ fs W6 (HV.out W6 HBZ.out) (H3.out.1.kept (andThen (andThen H4.out.2.1 H5.out.2) H6.out.2))
      have xE : (E != E) = false := by simp
      have x0 : (E != 0) = true := by rw [bne_iff_ne]; exact e0
      clear e0
      go_wp2_with fail
      refine HNU.out.mono ?_
      rintro e Wn ⟨rfl, rfl⟩
      go_wp2_with fail
      refine HFA.out.mono ?_
      rintro e W7 ⟨rfl, b7⟩
      have H7 : Hid (Below W6.heap.size W6 W7) := b7
      clear b7 HNU HFA
      have L4 := HBX.out.1.kept (andThen HBZ.out H7.out)
      have L8 := HBX.out.2.1.kept (andThen HBZ.out H7.out)
      have y0 := L4.cell 0 _ rfl
      have y1 := L4.cell 1 _ rfl
      have y2 := L4.cell 2 _ rfl
      have y3 := L4.cell 3 _ rfl
      have y4 := L4.cell 4 _ rfl
      have y5 := L4.cell 5 _ rfl
      have y6 := L4.cell 6 _ rfl
      have y7 := L4.cell 7 _ rfl
      have HL8 : Hid (LB W7 p8 56 [.pointer none, .int .i64 0, .slice none 0 0, .slice none 0 0, .slice none 0 0, .slice none 0 0, .int .i64 0, .bool false]) := L8
      have z0 := L8.cell 0 _ rfl
      have z1 := L8.cell 1 _ rfl
      have z2 := L8.cell 2 _ rfl
      have z3 := L8.cell 3 _ rfl
      have z4 := L8.cell 4 _ rfl
      have z5 := L8.cell 5 _ rfl
      have z6 := L8.cell 6 _ rfl
      have z7 := L8.cell 7 _ rfl
      have u0 := L8.free 0
      have u1 := L8.free 1
      have u2 := L8.free 2
      have u3 := L8.free 3
      have u4 := L8.free 4
      have u5 := L8.free 5
      have u6 := L8.free 6
      have u7 := L8.free 7
      clear L4 L8
      go_wp2_with fail
      refine bodyPost_ret (results_cell_slot rfl _ _ p8 [.pointer pa, .int .i64 xq, .slice xa1 xn1 xc1, .slice xa2 xn2 xc2, .slice xa3 xn3 xc3, .slice xa4 xn4 xc4, .int .i64 xl, .bool xd] _ rfl (putAll_lb [.pointer pa, .int .i64 xq, .slice xa1 xn1 xc1, .slice xa2 xn2 xc2, .slice xa3 xn3 xc3, .slice xa4 xn4 xc4, .int .i64 xl, .bool xd] HL8.out rfl).range Try.underlying56 rfl (by kernel_rfl)) rfl ?_
      exact ⟨putAll_bel (r := [.pointer pa, .int .i64 xq, .slice xa1 xn1 xc1, .slice xa2 xn2 xc2, .slice xa3 xn3 xc3, .slice xa4 xn4 xc4, .int .i64 xl, .bool xd]) (i := 0) (andThen HBX.out.2.2.1 (andThen HBZ.out H7.out)) HBX.out.2.2.2.1, .inl ⟨fun h => absurd (H4.out.1.trans h) (by rw [bne_iff_ne] at x0; exact x0), rfl⟩⟩
    · have hdm0 : Hid (DM W3.heap.size W4 g S M) := hdm
      have hWF0 : Hid (Dk.WF S fs.length) := hWF
      have hRl0 : Hid (Rl S (rbgn q fs)) := hRl
      clear hdm hWF hRl
      subst e0
      have HRK : Hid (Calls Try.prog 48 #[.int .i64 q, .slice wa wn wc] W4 fun e w' => ∃ yq ya1 yn1 yc1 ya2 yn2 yc2 ya3 yn3 yc3 ya4 yn4 yc4 yl yd, e = .returned (.tuple #[.agg #[.int .i64 yq, .slice ya1 yn1 yc1, .slice ya2 yn2 yc2, .slice ya3 yn3 yc3, .slice ya4 yn4 yc4, .int .i64 yl, .bool yd], .int .i64 0]) ∧ (RdM (W4.heap.size ≤ ·) w' (rbgn q fs) (.agg #[.int .i64 yq, .slice ya1 yn1 yc1, .slice ya2 yn2 yc2, .slice ya3 yn3 yc3, .slice ya4 yn4 yc4, .int .i64 yl, .bool yd])) ∧ Below W4.heap.size W4 w') := (rkload_any _ q _ fs W4 (H3.out.1.kept H4.out.2.1) (by have := HLL.out.1; omega) (fun x hx => by have := flen_mem x hx; have := HLL.out.2.2; omega) HLL.out.2.1 (by have := HLL.out.2.2; omega)).mono fun e w' ⟨v', E', h1, ⟨yq, ya1, yn1, yc1, ya2, yn2, yc2, ya3, yn3, yc3, ya4, yn4, yc4, yl, yd, hv⟩, h2, h3, h4⟩ => by
        rw [← H4.out.1] at h2
        subst h2 hv
        exact ⟨_, _, _, _, _, _, _, _, _, _, _, _, _, _, _, h1, h3 rfl, h4⟩
      go_wp2_with fail
      refine HRK.out.mono ?_
      rintro e W5 ⟨yq, ya1, yn1, yc1, ya2, yn2, yc2, ya3, yn3, yc3, ya4, yn4, yc4, yl, yd, rfl, hrd, b5⟩
      have H5 : Hid ((RdM (W4.heap.size ≤ ·) W5 (rbgn q fs) (.agg #[.int .i64 yq, .slice ya1 yn1 yc1, .slice ya2 yn2 yc2, .slice ya3 yn3 yc3, .slice ya4 yn4 yc4, .int .i64 yl, .bool yd])) ∧ Below W4.heap.size W4 W5) := ⟨hrd, b5⟩
      clear hrd b5 HRK
      obtain ⟨p13, hp13⟩ : ∃ p, p = W5.heap.size := ⟨_, rfl⟩
      obtain ⟨W6, hW6⟩ : ∃ W, W = W5.alloc (.cells #[.int .i64 yq, .slice ya1 yn1 yc1, .slice ya2 yn2 yc2, .slice ya3 yn3 yc3, .slice ya4 yn4 yc4, .int .i64 yl, .bool yd] 54) := ⟨_, rfl⟩
      have H6 : Hid (LB W6 p13 54 [.int .i64 yq, .slice ya1 yn1 yc1, .slice ya2 yn2 yc2, .slice ya3 yn3 yc3, .slice ya4 yn4 yc4, .int .i64 yl, .bool yd] ∧ Below W5.heap.size W5 W6) := by
        rw [hW6, hp13]
        exact ⟨lb_new W5 [.int .i64 yq, .slice ya1 yn1 yc1, .slice ya2 yn2 yc2, .slice ya3 yn3 yc3, .slice ya4 yn4 yc4, .int .i64 yl, .bool yd] 54, up0 _ _⟩
      have HW6 : Hid (W5.alloc (.cells #[.int .i64 yq, .slice ya1 yn1 yc1, .slice ya2 yn2 yc2, .slice ya3 yn3 yc3, .slice ya4 yn4 yc4, .int .i64 yl, .bool yd] 54) = W6 ∧ W5.heap.size = p13) := ⟨hW6.symm, hp13.symm⟩
      clear hW6 hp13
      go_upto_region 8 with fail
      rw [HW6.out.1, HW6.out.2]
      have HBZ : Hid (Below W2.heap.size W2 W6) := andThen (andThen (andThen H3.out.2 H4.out.2.1) H5.out.2) H6.out.2
      have HNU : Hid (Calls Try.prog 22 #[.int .i64 0] W6 fun e w' => e = .returned (.int .i64 0) ∧ W6 = w') := (dlnum_any 0 W6).mono fun e w' ⟨h1, h2⟩ => ⟨h1, h2.symm⟩
      have HFA : Hid (Calls Try.prog 17 #[.slice va vn vc, .slice wa wn wc] W6 fun e w' => e = .returned (.bool true) ∧ Below W6.heap.size W6 w') := dlfalike_yes _ _ _ _ fs W6 (HV.out W6 HBZ.out) (H3.out.1.kept (andThen (andThen H4.out.2.1 H5.out.2) H6.out.2))
      have xE : ((0 : Int) != 0) = false := rfl
      go_wp2_with fail
      refine HNU.out.mono ?_
      rintro e Wn ⟨rfl, rfl⟩
      go_wp2_with fail
      refine HFA.out.mono ?_
      rintro e W7 ⟨rfl, b7⟩
      have H7 : Hid (Below W6.heap.size W6 W7) := b7
      clear b7 HNU HFA
      have L13 := H6.out.1.kept H7.out
      have L8 := HBX.out.2.1.kept (andThen HBZ.out H7.out)
      have y0 := L13.cell 0 _ rfl
      have y1 := L13.cell 1 _ rfl
      have y2 := L13.cell 2 _ rfl
      have y3 := L13.cell 3 _ rfl
      have y4 := L13.cell 4 _ rfl
      have y5 := L13.cell 5 _ rfl
      have y6 := L13.cell 6 _ rfl
      have HL8 : Hid (LB W7 p8 56 [.pointer none, .int .i64 0, .slice none 0 0, .slice none 0 0, .slice none 0 0, .slice none 0 0, .int .i64 0, .bool false]) := L8
      have z0 := L8.cell 0 _ rfl
      have z1 := L8.cell 1 _ rfl
      have z2 := L8.cell 2 _ rfl
      have z3 := L8.cell 3 _ rfl
      have z4 := L8.cell 4 _ rfl
      have z5 := L8.cell 5 _ rfl
      have z6 := L8.cell 6 _ rfl
      have z7 := L8.cell 7 _ rfl
      have u0 := L8.free 0
      have u1 := L8.free 1
      have u2 := L8.free 2
      have u3 := L8.free 3
      have u4 := L8.free 4
      have u5 := L8.free 5
      have u6 := L8.free 6
      have u7 := L8.free 7
      clear L13 L8
      go_wp2_with fail
      refine bodyPost_ret (results_cell_slot rfl _ _ p8 [.pointer (some ⟨g, 0, none⟩), .int .i64 yq, .slice ya1 yn1 yc1, .slice ya2 yn2 yc2, .slice ya3 yn3 yc3, .slice ya4 yn4 yc4, .int .i64 yl, .bool yd] _ rfl (putAll_lb [.pointer (some ⟨g, 0, none⟩), .int .i64 yq, .slice ya1 yn1 yc1, .slice ya2 yn2 yc2, .slice ya3 yn3 yc3, .slice ya4 yn4 yc4, .int .i64 yl, .bool yd] HL8.out rfl).range Try.underlying56 rfl (by kernel_rfl)) rfl ?_
      obtain ⟨K, hK, hK2⟩ := ld_pm (p8 := p8) (andThen HBX.out.2.2.1 H3.out.2) hdm0.out H5.out.2 H5.out.1 (andThen H6.out.2 H7.out) (fun q hq => putAll_far hq [.pointer (some ⟨g, 0, none⟩), .int .i64 yq, .slice ya1 yn1 yc1, .slice ya2 yn2 yc2, .slice ya3 yn3 yc3, .slice ya4 yn4 yc4, .int .i64 yl, .bool yd] W7 0) (putAll_size [.pointer (some ⟨g, 0, none⟩), .int .i64 yq, .slice ya1 yn1 yc1, .slice ya2 yn2 yc2, .slice ya3 yn3 yc3, .slice ya4 yn4 yc4, .int .i64 yl, .bool yd] W7 0) (Nat.lt_of_lt_of_le HBX.out.2.2.2.2 H3.out.2.size) H4.out.2.1.size hWF0.out hRl0.out
      exact ⟨putAll_bel (r := [.pointer (some ⟨g, 0, none⟩), .int .i64 yq, .slice ya1 yn1 yc1, .slice ya2 yn2 yc2, .slice ya3 yn3 yc3, .slice ya4 yn4 yc4, .int .i64 yl, .bool yd]) (i := 0) (andThen HBX.out.2.2.1 (andThen HBZ.out H7.out)) HBX.out.2.2.2.1, .inr ⟨H4.out.1.symm, g, S, M, ⟨some ⟨g, 0, none⟩, yq, ya1, yn1, yc1, ya2, yn2, yc2, ya3, yn3, yc3, ya4, yn4, yc4, yl, yd⟩, K, rfl, rfl, hK, hK2⟩⟩
end Go.Proofs.Ytjepeeopjjnglab
