import Derived.Deep.RegionHeld3
import Derived.Test.YtjepeeopjjnglabQN25
/-
  The laws' own functions: told.
-/
namespace Go.Proofs.Ytjepeeopjjnglab
open Go Go.RowKit Go.ChangeShapes
open Wb
open Rd
theorem row_bel {w w' : World} {B : Nat} {t : TypeId} {c : Nat} {v : Value} {n : Nat} {cells : List Value} (h : w.ownsRow B t c v n cells) (hb : Below w.heap.size w w') : w'.ownsRow B t c v n cells := Mg.row_kept h hb
/-- a names' row shows its constructor -/
theorem names_slice {w : World} {B : Nat} {v : Value} {l : List (List UInt8)} (h : w.ownsRow B 9 1 v l.length (l.flatMap enN)) : ∃ a k, v = .slice a l.length k := by
  obtain ⟨a, k, e, -⟩ := row_at h
  exact ⟨a, k, e⟩
theorem fls_slice {ok : Nat → Prop} {w : World} {v : Value} {fs : List (List UInt8 × List Nat)} (h : Fls ok w v fs) : ∃ a k, v = .slice a fs.length k := by
  obtain ⟨a, k, e, -⟩ := h.sh
  exact ⟨a, k, e⟩
theorem own_slice {B : Nat} {w : World} {v : Value} {l : List Nat} (h : Own B w v l) : ∃ a k, v = .slice a l.length k := by
  obtain ⟨a, k, e, -⟩ := Mg.row_shape h.row
  exact ⟨a, k, e⟩
/-- what told's boxes hold -/
structure TBx (w W : World) (p4 p5 : Nat) (c4 c5 : List Value) : Prop where
  l4 : LB W p4 54 c4
  l5 : LB W p5 37 c5
  b : Below w.heap.size w W
theorem TBx.kept {w W W' : World} {p4 p5 : Nat} {c4 c5 : List Value} (h : TBx w W p4 p5 c4 c5) (hb : Below W.heap.size W W') : TBx w W' p4 p5 c4 c5 := ⟨h.l4.kept hb, h.l5.kept hb, andThen h.b hb⟩
theorem tbx_new (w : World) (c4 c5 : List Value) : TBx w ((w.alloc (.cells c4.toArray 54)).alloc (.cells c5.toArray 37)) w.heap.size (w.heap.size + 1) c4 c5 := by
  obtain ⟨h1, h2, h3⟩ := lb_new2 w c4 c5 54 37
  exact ⟨h1, h2, h3⟩
theorem tiK : TI 104 23 2 := ti_of (z := .agg #[.int .i64 0, .int .i64 0]) (k := 16) Try.underlying23 (by kernel_rfl) rfl (by decide) (by decide)
theorem enK_len (c : Int × Int) : (enK c).length = 2 := rfl
theorem enK_one (p : Int × Int) : ∀ u ∈ enK p, u.oneCell' = true := fun u hu => by
  simp [enK] at hu
  rcases hu with rfl | rfl <;> rfl
/-- append of all cuts onto nothing, its run -/
theorem cts_copy {w : World} {a : Option Addr} {c : Nat} {cs : List (Int × Int)} (h : CtS w (.slice a cs.length c) cs) (hl : cs.length ≤ 100000000) : ∃ v' w', (Builtin.append_ #[23, 23] 23 #[.slice none 0 0, .slice a cs.length c]).run Try.prog w = .ok v' w' ∧ CtS w' v' cs ∧ Below w.heap.size w w' := by
  obtain ⟨a', c', e, h1, h2, h3⟩ := h
  simp only [Value.slice.injEq, true_and] at e
  obtain ⟨rfl, rfl⟩ := e
  cases a with
  | none =>
    have h0 : cs = [] := by
      by_cases e : cs = []
      · exact e
      · obtain ⟨b, off, e2, -⟩ := h3 e
        cases e2
    subst h0
    obtain ⟨i0, z, k0, hi, -⟩ := tiK.i
    refine ⟨.slice none 0 0, w, ?_, cts_nil w, Below.refl _ _⟩
    simp [Builtin.append_, run_underlying tiK.u, sizeOf, typeInfo, hi, Builtin.lenOf, Builtin.firstCells]
  | some a =>
    obtain ⟨v', w', hr, g, -, b⟩ := row_app (xs := ([] : List (Int × Int))) (ys := cs) tiK enK_len (World.ownsRow_nil w w.heap.size 104 2) a c (fun x _ => enK_one x) (fun j u hj => by
      have hjl : j < cs.length * 2 := by
        rw [← flat_len enK_len cs]
        exact (List.getElem?_eq_some_iff.1 hj).1
      obtain ⟨b, off, e2, hc⟩ := h3 (List.ne_nil_of_length_pos (by omega))
      obtain rfl := Option.some.inj e2
      rw [Addr.add_lit]
      have hq : j / 2 < cs.length := by omega
      obtain ⟨c0, c1⟩ := hc (j / 2) hq
      obtain ⟨f0, f1⟩ := flatK_at cs (j / 2) hq
      by_cases hm : j % 2 = 0
      · have ej : j = j / 2 * 2 := by omega
        rw [ej, f0] at hj
        rw [ej, ← Option.some.inj hj]
        exact c0
      · have ej : j = j / 2 * 2 + 1 := by omega
        rw [ej, f1] at hj
        rw [ej, ← Option.some.inj hj]
        exact c1) (by simp; omega) (Nat.le_refl _) 23
    rw [List.nil_append] at g
    exact ⟨v', w', hr, cts_own g, b⟩
/-- a step's names, bytes, cuts and files -/
structure OpF (w : World) (o : Rop) : Prop where
  ok : OpOk w o
  dl : o.data.length ≤ 1048576
  cl : o.cs.length ≤ 1048576
  fs : ∃ fs, Fls (fun _ => True) w (.slice o.fa o.fn o.fc) fs ∧ fs.length ≤ 1048576 ∧ (∀ x ∈ fs, x.1.length ≤ maxLen) ∧ Dk.flen fs ≤ 1048576
theorem OpF.kept {w w' : World} {o : Rop} (h : OpF w o) (hb : Below w.heap.size w w') : OpF w' o := by
  obtain ⟨fs, h1, h2⟩ := h.fs
  exact ⟨h.ok.kept hb, h.dl, h.cl, fs, h1.kept hb, h2⟩
/-- the disk's value shows its cells -/
theorem Rd.PM.shape {B N : Nat} {K : Nat → Prop} {w : World} {g : Nat} {S : Dk.DS} {M : Mm} {R : RS} {v : Value} (h : PM B N K w g S M R v) : ∃ a1 n1 c1 a2 n2 c2 a3 n3 c3 a4 n4 c4, v = .agg #[.int .i64 R.quota, .slice a1 n1 c1, .slice a2 n2 c2, .slice a3 n3 c3, .slice a4 n4 c4, .int .i64 R.left, .bool R.down] := by
  obtain ⟨xs, tv, nv, lv, cv, hve, hxs, hS⟩ := h.rd
  obtain ⟨a1, c1, rfl⟩ := rw_slice hS.rt
  obtain ⟨a2, c2, rfl⟩ := rw_slice hS.rn
  obtain ⟨a3, c3, rfl⟩ := rw_slice hS.rl
  obtain ⟨a4, c4, rfl⟩ := rw_slice hS.rc
  exact ⟨_, _, _, _, _, _, _, _, _, _, _, _, hve⟩
set_option maxRecDepth 100000 in
set_option maxHeartbeats 32000000 in
theorem dltold_any (B N : Nat) (K : Nat → Prop) (g : Nat) (S : Dk.DS) (M : Mm) (R : RS) (v : Value) (o : Rop) (w : World) (h : PM B N K w g S M R v) (hN : N ≤ 100000000) (hok : OpF w o) :
    Calls Try.prog 65 #[.pointer (some ⟨g, 0, none⟩), v, opv o] w fun e w' => e = .returned (.bool true) ∧ Below w.heap.size w w' := by
  obtain ⟨a1, n1, c1, a2, n2, c2, a3, n3, c3, a4, n4, c4, rfl⟩ := h.shape
  have HBX0 := tbx_new w [.int .i64 R.quota, .slice a1 n1 c1, .slice a2 n2 c2, .slice a3 n3 c3, .slice a4 n4 c4, .int .i64 R.left, .bool R.down] (opc o)
  obtain ⟨W2, hW2⟩ : ∃ W, W = (w.alloc (.cells #[.int .i64 R.quota, .slice a1 n1 c1, .slice a2 n2 c2, .slice a3 n3 c3, .slice a4 n4 c4, .int .i64 R.left, .bool R.down] 54)).alloc (.cells #[.int .i64 o.k, .bool o.two, .string o.a, .string o.b, .int .i64 o.n, .slice o.da o.data.length o.dc, .slice o.ca o.cs.length o.cc, .slice o.fa o.fn o.fc] 37) := ⟨_, rfl⟩
  obtain ⟨p4, hp4⟩ : ∃ p, p = w.heap.size := ⟨_, rfl⟩
  obtain ⟨p5, hp5⟩ : ∃ p, p = w.heap.size + 1 := ⟨_, rfl⟩
  have HBX : Hid (TBx w W2 p4 p5 [.int .i64 R.quota, .slice a1 n1 c1, .slice a2 n2 c2, .slice a3 n3 c3, .slice a4 n4 c4, .int .i64 R.left, .bool R.down] (opc o)) := by
    rw [hW2, hp4, hp5]
    exact HBX0
  have HW2 : Hid ((w.alloc (.cells #[.int .i64 R.quota, .slice a1 n1 c1, .slice a2 n2 c2, .slice a3 n3 c3, .slice a4 n4 c4, .int .i64 R.left, .bool R.down] 54)).alloc (.cells #[.int .i64 o.k, .bool o.two, .string o.a, .string o.b, .int .i64 o.n, .slice o.da o.data.length o.dc, .slice o.ca o.cs.length o.cc, .slice o.fa o.fn o.fc] 37) = W2 ∧ w.heap.size + 1 = p5 ∧ w.heap.size = p4) := ⟨hW2.symm, hp5.symm, hp4.symm⟩
  have HPM : Hid (∀ W, Below W2.heap.size W2 W → PM B N K W g S M R (.agg #[.int .i64 R.quota, .slice a1 n1 c1, .slice a2 n2 c2, .slice a3 n3 c3, .slice a4 n4 c4, .int .i64 R.left, .bool R.down])) := fun W hW => h.kept (andThen HBX.out.b hW)
  have HOK : Hid (OpOk w o) := hok.ok
  have HCL : Hid (o.cs.length ≤ 100000000) := Nat.le_trans hok.cl (by omega)
  have HN : Hid (N ≤ 100000000) := hN
  have HC4 : Hid (∀ W, Below W2.heap.size W2 W → W.cell? ⟨p4, 0, none⟩ = some (.int .i64 R.quota) ∧ W.cell? ⟨p4, 1, none⟩ = some (.slice a1 n1 c1) ∧ W.cell? ⟨p4, 2, none⟩ = some (.slice a2 n2 c2) ∧ W.cell? ⟨p4, 3, none⟩ = some (.slice a3 n3 c3) ∧ W.cell? ⟨p4, 4, none⟩ = some (.slice a4 n4 c4) ∧ W.cell? ⟨p4, 5, none⟩ = some (.int .i64 R.left) ∧ W.cell? ⟨p4, 6, none⟩ = some (.bool R.down)) := fun W hW => by
    have l4 := HBX.out.l4.kept hW
    exact ⟨l4.cell 0 _ rfl, l4.cell 1 _ rfl, l4.cell 2 _ rfl, l4.cell 3 _ rfl, l4.cell 4 _ rfl, l4.cell 5 _ rfl, l4.cell 6 _ rfl⟩
  have HC5 : Hid (∀ W, Below W2.heap.size W2 W → W.cell? ⟨p5, 0, none⟩ = some (.int .i64 o.k) ∧ W.cell? ⟨p5, 2, none⟩ = some (.string o.a) ∧ W.cell? ⟨p5, 4, none⟩ = some (.int .i64 o.n) ∧ W.cell? ⟨p5, 6, none⟩ = some (.slice o.ca o.cs.length o.cc)) := fun W hW => by
    have l5 := HBX.out.l5.kept hW
    exact ⟨l5.cell 0 _ rfl, l5.cell 2 _ rfl, l5.cell 4 _ rfl, l5.cell 6 _ rfl⟩
  clear HBX0 hW2 hp4 hp5 h hok hN
  unfold opv
  obtain ⟨d0, d1, d2, d3, d4, d5, d6⟩ := HC4.out W2 (Below.refl _ _)
  obtain ⟨q0, q2, q4, q6⟩ := HC5.out W2 (Below.refl _ _)
  obtain ⟨K9, hK9⟩ : ∃ k, k = o.k := ⟨_, rfl⟩
  rw [← hK9] at q0 HW2 HC5 ⊢
  clear hK9
  go_enter Try.func65, Try.ntmps65
  go_upto_region 1 with fail
  rw [HW2.out.1]
  first | rw [HW2.out.2.1] | skip
  first | rw [HW2.out.2.2] | skip
  by_cases k8 : K9 = 8
  · subst k8
    obtain ⟨X, hX⟩ : ∃ X, X = rread R o.a.data.toList := ⟨_, rfl⟩
    have H1 : Hid (Calls Try.prog 39 #[.pointer (some ⟨g, 0, none⟩), .string o.a] W2 fun e w' => ∃ a n c, e = .returned (.tuple #[.slice a n c, .int .i64 X.2]) ∧ Own W2.heap.size w' (.slice a n c) X.1 ∧ Below W2.heap.size W2 w') := by
      have hp := HPM.out W2 (Below.refl _ _)
      have e9 := hp.sy.rl.read o.a.data.toList
      rw [hX, e9]
      exact (dkread_any B g S M o.a W2 hp.dm HOK.out.1.1 hp.sy.wf.ids (fun f hf => by have := (hp.sy.wf.fl f hf).2; omega)).mono fun e w' ⟨v, h1, h2, h3⟩ => by
        obtain ⟨a, k, rfl⟩ := own_slice h2
        exact ⟨_, _, _, h1, h2, h3⟩
    have H2 : Hid (∀ W, Below W2.heap.size W2 W → Calls Try.prog 81 #[.agg #[.int .i64 R.quota, .slice a1 n1 c1, .slice a2 n2 c2, .slice a3 n3 c3, .slice a4 n4 c4, .int .i64 R.left, .bool R.down], .string o.a] W fun e w' => ∃ a n c, e = .returned (.tuple #[.slice a n c, .int .i64 X.2]) ∧ Own W.heap.size w' (.slice a n c) X.1 ∧ Below W.heap.size W w') := fun W hW => by
      have hp := HPM.out W hW
      rw [hX]
      exact (rkread_any K R _ o.a W hp.rd HOK.out.1.1 hp.sy.rl.okn (fun t ht => by have := (hp.sy.ln t ht).2; omega)).mono fun e w' ⟨v, E, h1, h2, h3, h4⟩ => by
        obtain ⟨a, k, rfl⟩ := own_slice h3
        subst h2
        exact ⟨_, _, _, h1, h3, h4⟩
    obtain ⟨xl, xe⟩ := X
    clear hX
    go_wp2_with fail
    refine H1.out.mono ?_
    rintro e W3 ⟨va, vn, vc, rfl, o3, b3⟩
    have H3 : Hid (Own W2.heap.size W3 (.slice va vn vc) xl ∧ Below W2.heap.size W2 W3) := ⟨o3, b3⟩
    clear o3 b3 d0 d1 d2 d3 d4 d5 d6 q0 q2 q4 q6 H1
    obtain ⟨d0, d1, d2, d3, d4, d5, d6⟩ := HC4.out W3 H3.out.2
    obtain ⟨q0, q2, q4, q6⟩ := HC5.out W3 H3.out.2
    go_wp2_with fail
    refine (H2.out W3 H3.out.2).mono ?_
    rintro e W4 ⟨ua, un, uc, rfl, o4, b4⟩
    have H4 : Hid (Calls Try.prog 14 #[.slice va vn vc, .slice ua un uc] W4 fun e w' => e = .returned (.bool true) ∧ Below W2.heap.size W2 w') := (dlalike_yes _ _ xl W4 (H3.out.1.kept b4).bs o4.bs).mono fun e w' ⟨h1, h2⟩ => ⟨h1, andThen (andThen H3.out.2 b4) h2⟩
    clear o4 b4 d0 d1 d2 d3 d4 d5 d6 q0 q2 q4 q6 H2
    go_wp2_with fail
    refine H4.out.mono ?_
    rintro e W5 ⟨rfl, b5⟩
    have H5 : Hid (Below W2.heap.size W2 W5) := b5
    clear b5 H4
    go_wp2_with fail
    refine (dlnum_any _ _).mono ?_
    rintro e W6 ⟨rfl, rfl⟩
    go_wp2_with fail
    go_returns
    exact ⟨rfl, andThen HBX.out.b H5.out⟩
  have x8 : (K9 == 8) = false := beq_eq_false_iff_ne.2 k8
  by_cases k9 : K9 = 9
  · subst k9
    obtain ⟨L, hL⟩ : ∃ L, L = rlst R := ⟨_, rfl⟩
    have H1 : Hid (∀ W, Below W2.heap.size W2 W → Calls Try.prog 40 #[.pointer (some ⟨g, 0, none⟩)] W fun e w' => ∃ a n c, e = .returned (.slice a n c) ∧ w'.ownsRow 0 9 1 (.slice a n c) L.length (L.flatMap enN) ∧ Below W2.heap.size W2 w') := fun W hW => by
      have hp := HPM.out W hW
      rw [hL, hp.sy.rl.lst]
      exact (dklist_any B g S M W hp.dm (by have := hp.sy.wf.n1; have := HN.out; omega)).mono fun e w' ⟨v, h1, h2, h3⟩ => by
        rw [map_enS] at h2
        have h2' := row_low h2 (Nat.zero_le _)
        obtain ⟨a, k, rfl⟩ := names_slice h2'
        exact ⟨_, _, _, h1, h2', andThen hW h3⟩
    have H2 : Hid (∀ W a n c, Below W2.heap.size W2 W → W.ownsRow 0 9 1 (.slice a n c) L.length (L.flatMap enN) → Calls Try.prog 83 #[.agg #[.int .i64 R.quota, .slice a1 n1 c1, .slice a2 n2 c2, .slice a3 n3 c3, .slice a4 n4 c4, .int .i64 R.left, .bool R.down]] W fun e w' => ∃ x y z, e = .returned (.slice x y z) ∧ w'.ownsRow 0 9 1 (.slice a n c) L.length (L.flatMap enN) ∧ w'.ownsRow 0 9 1 (.slice x y z) L.length (L.flatMap enN) ∧ Below W2.heap.size W2 w') := fun W a n c hW hr => by
      have hp := HPM.out W hW
      exact (rklist_any K R _ W hp.rd (by have := hp.sy.bn.1; have := HN.out; omega)).mono fun e w' ⟨v, h1, h2, h3⟩ => by
        rw [← hL] at h2
        have h2' := row_low h2 (Nat.zero_le _)
        obtain ⟨a, k, rfl⟩ := names_slice h2'
        exact ⟨_, _, _, h1, row_bel hr h3, h2', andThen hW h3⟩
    have H3 : Hid (∀ W a n c x y z, Below W2.heap.size W2 W → W.ownsRow 0 9 1 (.slice a n c) L.length (L.flatMap enN) → W.ownsRow 0 9 1 (.slice x y z) L.length (L.flatMap enN) → Calls Try.prog 82 #[.slice a n c, .slice x y z] W fun e w' => e = .returned (.bool true) ∧ Below W2.heap.size W2 w') := fun W a n c x y z hW h1 h2 => (dlnalike_yes 0 0 _ _ L W h1 h2).mono fun e w' ⟨h3, h4⟩ => ⟨h3, andThen hW h4⟩
    clear hL
    go_wp2_with fail
    have HCK := HC4
    clear d0 d1 d2 d3 d4 d5 d6 q0 q2 q4 q6
    obtain ⟨d0, d1, d2, d3, d4, d5, d6⟩ := HCK.out W2 (Below.refl _ _)
    go_region_held3 (fun w' => w'.cell? ⟨p4, 0, none⟩ = some (.int .i64 R.quota) ∧ w'.cell? ⟨p4, 1, none⟩ = some (.slice a1 n1 c1) ∧ w'.cell? ⟨p4, 2, none⟩ = some (.slice a2 n2 c2) ∧ w'.cell? ⟨p4, 3, none⟩ = some (.slice a3 n3 c3) ∧ w'.cell? ⟨p4, 4, none⟩ = some (.slice a4 n4 c4) ∧ w'.cell? ⟨p4, 5, none⟩ = some (.int .i64 R.left) ∧ w'.cell? ⟨p4, 6, none⟩ = some (.bool R.down)) (first | go_keep | (exact HCK.out _ hbX) | (exact HCK.out _ hbY) | (exact HCK.out _ hbZ))
      (first | (go_at_call 82; refine (H3.out _ _ _ _ _ _ _ hbY r2 r3).mono ?_; rintro e w' ⟨rfl, hbX⟩) | (go_at_call 83; refine (H2.out _ _ _ _ hbZ r1).mono ?_; rintro e w' ⟨x9, y9, z9, rfl, r2, r3, hbY⟩) | (go_at_call 40; refine (H1.out _ ?_).mono ?_; (exact Below.drew (Below.refl _ _)); rintro e w' ⟨a9, n9, c9, rfl, r1, hbZ⟩))
    have H9 : Hid (Below W2.heap.size W2 w') := hbX
    clear r1 r2 r3 hbX hbY hbZ H1 H2 H3
    go_wp2_with fail
    go_returns
    exact ⟨rfl, andThen HBX.out.b H9.out⟩
  have x9 : (K9 == 9) = false := beq_eq_false_iff_ne.2 k9
  by_cases k10 : K9 = 10
  · subst k10
    obtain ⟨fr, hfr⟩ : ∃ f, f = rfree R := ⟨_, rfl⟩
    have H1 : Hid (∀ W, Below W2.heap.size W2 W → Calls Try.prog 26 #[.pointer (some ⟨g, 0, none⟩)] W fun e w' => e = .returned (.int .i64 fr) ∧ Below W2.heap.size W2 w') := fun W hW => by
      have hp := HPM.out W hW
      rw [hfr, hp.sy.rl.free]
      exact (dkfree_any B g S M W hp.dm ⟨hp.sy.wf.t0, hp.sy.wf.tk, hp.sy.wf.q⟩).mono fun e w' ⟨h1, h2⟩ => ⟨h1, andThen hW h2⟩
    have H2 : Hid (∀ W, Below W2.heap.size W2 W → Calls Try.prog 27 #[.agg #[.int .i64 R.quota, .slice a1 n1 c1, .slice a2 n2 c2, .slice a3 n3 c3, .slice a4 n4 c4, .int .i64 R.left, .bool R.down]] W fun e w' => e = .returned (.int .i64 fr) ∧ Below W2.heap.size W2 w') := fun W hW => by
      have hp := HPM.out W hW
      rw [hfr]
      exact (rkfree_any K R _ W hp.rd hp.sy.q hp.sy.tk).mono fun e w' ⟨h1, h2⟩ => ⟨h1, andThen hW h2⟩
    clear hfr
    go_wp2_with fail
    have HCK := HC4
    clear d0 d1 d2 d3 d4 d5 d6 q0 q2 q4 q6
    obtain ⟨d0, d1, d2, d3, d4, d5, d6⟩ := HCK.out W2 (Below.refl _ _)
    go_region_held3 (fun w' => w'.cell? ⟨p4, 0, none⟩ = some (.int .i64 R.quota) ∧ w'.cell? ⟨p4, 1, none⟩ = some (.slice a1 n1 c1) ∧ w'.cell? ⟨p4, 2, none⟩ = some (.slice a2 n2 c2) ∧ w'.cell? ⟨p4, 3, none⟩ = some (.slice a3 n3 c3) ∧ w'.cell? ⟨p4, 4, none⟩ = some (.slice a4 n4 c4) ∧ w'.cell? ⟨p4, 5, none⟩ = some (.int .i64 R.left) ∧ w'.cell? ⟨p4, 6, none⟩ = some (.bool R.down)) (first | go_keep | (exact HCK.out _ hbX) | (exact HCK.out _ hbY) | (exact HCK.out _ hbZ))
      (first | (go_at_call 27; refine (H2.out _ ?_).mono ?_; (exact hbZ); rintro e w' ⟨rfl, hbY⟩) | (go_at_call 26; refine (H1.out _ ?_).mono ?_; (exact Below.drew (Below.refl _ _)); rintro e w' ⟨rfl, hbZ⟩))
    have H9 : Hid (Below W2.heap.size W2 w') := hbY
    clear hbY hbZ H1 H2
    go_wp2_with fail
    go_returns
    exact ⟨by simp, andThen HBX.out.b H9.out⟩
  have x10 : (K9 == 10) = false := beq_eq_false_iff_ne.2 k10
  by_cases k11 : K9 = 11
  · subst k11
    obtain ⟨L, hL⟩ : ∃ L, L = rfiles R := ⟨_, rfl⟩
    have H1 : Hid (∀ W, Below W2.heap.size W2 W → Calls Try.prog 16 #[.pointer (some ⟨g, 0, none⟩)] W fun e w' => ∃ a n c, e = .returned (.slice a n c) ∧ Fls (fun _ => True) w' (.slice a n c) L ∧ Below W2.heap.size W2 w') := fun W hW => by
      have hp := HPM.out W hW
      rw [hL, hp.sy.rl.files]
      exact (dkfiles_wf B g S M N W hp.dm hp.sy.wf (by have := HN.out; omega)).mono fun e w' ⟨v, h1, h2, h3⟩ => by
        obtain ⟨a, k, rfl⟩ := fls_slice h2
        exact ⟨_, _, _, h1, h2.mono fun _ _ => trivial, andThen hW h3⟩
    have H2 : Hid (∀ W a n c, Below W2.heap.size W2 W → Fls (fun _ => True) W (.slice a n c) L → Calls Try.prog 24 #[.agg #[.int .i64 R.quota, .slice a1 n1 c1, .slice a2 n2 c2, .slice a3 n3 c3, .slice a4 n4 c4, .int .i64 R.left, .bool R.down]] W fun e w' => ∃ x y z, e = .returned (.slice x y z) ∧ Fls (fun _ => True) w' (.slice a n c) L ∧ Fls (fun _ => True) w' (.slice x y z) L ∧ Below W2.heap.size W2 w') := fun W a n c hW hr => by
      have hp := HPM.out W hW
      exact (rkfiles_any K R _ W hp.rd (by have := hp.sy.bn.1; have := HN.out; omega) hp.sy.rl.okn (fun t ht => by have := (hp.sy.ln t ht).2; omega)).mono fun e w' ⟨v, h1, h2, h3⟩ => by
        rw [← hL] at h2
        obtain ⟨a, k, rfl⟩ := fls_slice h2
        exact ⟨_, _, _, h1, hr.kept h3, h2.mono fun _ _ => trivial, andThen hW h3⟩
    
    have H3 : Hid (∀ W a n c x y z, Below W2.heap.size W2 W → Fls (fun _ => True) W (.slice a n c) L → Fls (fun _ => True) W (.slice x y z) L → Calls Try.prog 17 #[.slice a n c, .slice x y z] W fun e w' => e = .returned (.bool true) ∧ Below W2.heap.size W2 w') := fun W a n c x y z hW h1 h2 => (dlfalike_yes _ _ _ _ L W h1 h2).mono fun e w' ⟨h3, h4⟩ => ⟨h3, andThen hW h4⟩
    clear hL
    go_wp2_with fail
    have HCK := HC4
    clear d0 d1 d2 d3 d4 d5 d6 q0 q2 q4 q6
    obtain ⟨d0, d1, d2, d3, d4, d5, d6⟩ := HCK.out W2 (Below.refl _ _)
    go_region_held3 (fun w' => w'.cell? ⟨p4, 0, none⟩ = some (.int .i64 R.quota) ∧ w'.cell? ⟨p4, 1, none⟩ = some (.slice a1 n1 c1) ∧ w'.cell? ⟨p4, 2, none⟩ = some (.slice a2 n2 c2) ∧ w'.cell? ⟨p4, 3, none⟩ = some (.slice a3 n3 c3) ∧ w'.cell? ⟨p4, 4, none⟩ = some (.slice a4 n4 c4) ∧ w'.cell? ⟨p4, 5, none⟩ = some (.int .i64 R.left) ∧ w'.cell? ⟨p4, 6, none⟩ = some (.bool R.down)) (first | go_keep | (exact HCK.out _ hbX) | (exact HCK.out _ hbY) | (exact HCK.out _ hbZ))
      (first | (go_at_call 17; refine (H3.out _ _ _ _ _ _ _ hbY r2 r3).mono ?_; rintro e w' ⟨rfl, hbX⟩) | (go_at_call 24; refine (H2.out _ _ _ _ hbZ r1).mono ?_; rintro e w' ⟨x9, y9, z9, rfl, r2, r3, hbY⟩) | (go_at_call 16; refine (H1.out _ ?_).mono ?_; (exact Below.drew (Below.refl _ _)); rintro e w' ⟨a9, n9, c9, rfl, r1, hbZ⟩))
    have H9 : Hid (Below W2.heap.size W2 w') := hbX
    clear r1 r2 r3 hbX hbY hbZ H1 H2 H3
    go_wp2_with fail
    go_returns
    exact ⟨rfl, andThen HBX.out.b H9.out⟩
  have x11 : (K9 == 11) = false := beq_eq_false_iff_ne.2 k11
  by_cases k13 : K9 = 13
  · subst k13
    have H1 : Hid (∀ W, Below W2.heap.size W2 W → Calls Try.prog 28 #[.pointer (some ⟨g, 0, none⟩)] W fun e w' => e = .returned (.bool R.down) ∧ Below W2.heap.size W2 w') := fun W hW => by
      have hp := HPM.out W hW
      rw [hp.sy.rl.down]
      exact (dkdown_any B g S M W hp.dm).mono fun e w' ⟨h1, h2⟩ => ⟨h1, by rw [h2]; exact hW⟩
    go_wp2_with fail
    have HCK : Hid (∀ W, Below W2.heap.size W2 W → W.cell? ⟨p4, 6, none⟩ = some (.bool R.down)) := fun W hW => (HC4.out W hW).2.2.2.2.2.2
    clear d0 d1 d2 d3 d4 d5 q0 q2 q4 q6
    go_region_held3 (fun w' => w'.cell? ⟨p4, 6, none⟩ = some (.bool R.down)) (first | go_keep | (exact HCK.out _ hbZ))
      (first | (go_at_call 28; refine (H1.out _ ?_).mono ?_; (exact Below.drew (Below.refl _ _)); rintro e w' ⟨rfl, hbZ⟩))
    have H9 : Hid (Below W2.heap.size W2 w') := hbZ
    clear hbZ H1
    go_wp2_with fail
    go_returns
    exact ⟨by simp, andThen HBX.out.b H9.out⟩
  have x13 : (K9 == 13) = false := beq_eq_false_iff_ne.2 k13
  by_cases k14 : K9 = 14
  · subst k14
    obtain ⟨L, hL⟩ : ∃ L, L = rcrash R o.n o.cs := ⟨_, rfl⟩
    have hcs := HOK.out.2.2.1.kept HBX.out.b
    obtain ⟨gv, W7, hr7, hc7, hb7⟩ := cts_copy hcs HCL.out
    obtain ⟨ga, gc, hgv, -⟩ := id hc7
    obtain ⟨gn, hgn⟩ : ∃ n, n = o.cs.length := ⟨_, rfl⟩
    have HCV : Hid (CtS W7 (.slice ga gn gc) o.cs) := by
      rw [hgn, ← hgv]
      exact hc7
    rw [← hgn] at hgv
    subst hgv
    have HB7 : Hid (Below W2.heap.size W2 W7) := hb7
    have H1 : Hid (∀ W, Below W7.heap.size W7 W → Calls Try.prog 25 #[.pointer (some ⟨g, 0, none⟩), .int .i64 o.n, .slice ga gn gc] W fun e w' => ∃ a n c, e = .returned (.slice a n c) ∧ Fls (fun _ => True) w' (.slice a n c) L ∧ Below W7.heap.size W7 w') := fun W hW => by
      have hp := HPM.out W (andThen HB7.out hW)
      rw [hL, hp.sy.rl.crash]
      exact (dkcrash_wf B g S M N o.n _ o.cs W hp.dm (HCV.out.kept hW) hp.sy.wf (by have := HN.out; omega)).mono fun e w' ⟨v, h1, h2, h3⟩ => by
        obtain ⟨a, k, rfl⟩ := fls_slice h2
        exact ⟨_, _, _, h1, h2.mono fun _ _ => trivial, andThen hW h3⟩
    have H2 : Hid (∀ W a n c, Below W7.heap.size W7 W → Fls (fun _ => True) W (.slice a n c) L → Calls Try.prog 64 #[.agg #[.int .i64 R.quota, .slice a1 n1 c1, .slice a2 n2 c2, .slice a3 n3 c3, .slice a4 n4 c4, .int .i64 R.left, .bool R.down], .int .i64 o.n, .slice o.ca o.cs.length o.cc] W fun e w' => ∃ x y z, e = .returned (.slice x y z) ∧ Fls (fun _ => True) w' (.slice a n c) L ∧ Fls (fun _ => True) w' (.slice x y z) L ∧ Below W7.heap.size W7 w') := fun W a n c hW hr => by
      have hp := HPM.out W (andThen HB7.out hW)
      exact (rkcrash_any K R _ o.n _ o.cs W hp.rd (HOK.out.2.2.1.kept (andThen (andThen HBX.out.b HB7.out) hW)) (by have := hp.sy.bn; have := HN.out; omega) hp.sy.rl.chg (fun t ht => by have := hp.sy.ln t ht; omega)).mono fun e w' ⟨v, h1, h2, h3⟩ => by
        rw [← hL] at h2
        obtain ⟨a, k, rfl⟩ := fls_slice h2
        exact ⟨_, _, _, h1, hr.kept h3, h2.mono fun _ _ => trivial, andThen hW h3⟩
    
    have H3 : Hid (∀ W a n c x y z, Below W7.heap.size W7 W → Fls (fun _ => True) W (.slice a n c) L → Fls (fun _ => True) W (.slice x y z) L → Calls Try.prog 17 #[.slice a n c, .slice x y z] W fun e w' => e = .returned (.bool true) ∧ Below W7.heap.size W7 w') := fun W a n c x y z hW h1 h2 => (dlfalike_yes _ _ _ _ L W h1 h2).mono fun e w' ⟨h3, h4⟩ => ⟨h3, andThen hW h4⟩
    clear hL hcs hc7 hb7 hgn
    go_wp2_with (at_builtin; refine wpList_appRun rfl (.tmp 69) (.tmp 71) 23 rfl rfl rfl hr7 ?_)
    clear hr7
    have HCK : Hid (∀ W, Below W7.heap.size W7 W → W.cell? ⟨p4, 0, none⟩ = some (.int .i64 R.quota) ∧ W.cell? ⟨p4, 1, none⟩ = some (.slice a1 n1 c1) ∧ W.cell? ⟨p4, 2, none⟩ = some (.slice a2 n2 c2) ∧ W.cell? ⟨p4, 3, none⟩ = some (.slice a3 n3 c3) ∧ W.cell? ⟨p4, 4, none⟩ = some (.slice a4 n4 c4) ∧ W.cell? ⟨p4, 5, none⟩ = some (.int .i64 R.left) ∧ W.cell? ⟨p4, 6, none⟩ = some (.bool R.down) ∧ W.cell? ⟨p5, 4, none⟩ = some (.int .i64 o.n) ∧ W.cell? ⟨p5, 6, none⟩ = some (.slice o.ca o.cs.length o.cc)) := fun W hW => by
      obtain ⟨e0, e1, e2, e3, e4, e5, e6⟩ := HC4.out W (andThen HB7.out hW)
      obtain ⟨-, -, f4, f6⟩ := HC5.out W (andThen HB7.out hW)
      exact ⟨e0, e1, e2, e3, e4, e5, e6, f4, f6⟩
    clear d0 d1 d2 d3 d4 d5 d6 q0 q2 q4 q6
    obtain ⟨d0, d1, d2, d3, d4, d5, d6, q4, q6⟩ := HCK.out W7 (Below.refl _ _)
    go_region_held3 (fun w' => w'.cell? ⟨p4, 0, none⟩ = some (.int .i64 R.quota) ∧ w'.cell? ⟨p4, 1, none⟩ = some (.slice a1 n1 c1) ∧ w'.cell? ⟨p4, 2, none⟩ = some (.slice a2 n2 c2) ∧ w'.cell? ⟨p4, 3, none⟩ = some (.slice a3 n3 c3) ∧ w'.cell? ⟨p4, 4, none⟩ = some (.slice a4 n4 c4) ∧ w'.cell? ⟨p4, 5, none⟩ = some (.int .i64 R.left) ∧ w'.cell? ⟨p4, 6, none⟩ = some (.bool R.down) ∧ w'.cell? ⟨p5, 4, none⟩ = some (.int .i64 o.n) ∧ w'.cell? ⟨p5, 6, none⟩ = some (.slice o.ca o.cs.length o.cc)) (first | go_keep | (exact HCK.out _ hbX) | (exact HCK.out _ hbY) | (exact HCK.out _ hbZ))
      (first | (go_at_call 17; refine (H3.out _ _ _ _ _ _ _ hbY r2 r3).mono ?_; rintro e w' ⟨rfl, hbX⟩) | (go_at_call 64; refine (H2.out _ _ _ _ hbZ r1).mono ?_; rintro e w' ⟨x9, y9, z9, rfl, r2, r3, hbY⟩) | (go_at_call 25; refine (H1.out _ ?_).mono ?_; (exact Below.drew (Below.refl _ _)); rintro e w' ⟨a9, n9, c9, rfl, r1, hbZ⟩))
    have H9 : Hid (Below W7.heap.size W7 w') := hbX
    clear r1 r2 r3 hbX hbY hbZ H1 H2 H3
    go_wp2_with fail
    go_returns
    exact ⟨rfl, andThen (andThen HBX.out.b HB7.out) H9.out⟩
  have x14 : (K9 == 14) = false := beq_eq_false_iff_ne.2 k14
  go_wp2_with fail
  go_returns
  exact ⟨rfl, HBX.out.b⟩
end Go.Proofs.Ytjepeeopjjnglab
