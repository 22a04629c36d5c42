import Derived.LoopNIn
import Derived.Test.YtceokpklcfmadaaQK6
import Derived.Test.YtceokpklcfmadaaQJ6
/-
  IndexWithin: the walk.
-/
namespace Go.Proofs.Ytceokpklcfmadaa
open Go Go.RowKit Go.ChangeShapes
open Wb
attribute [local go_sem] Oper.semAt_some
/-- a function value is stored -/
theorem run_store_func {P : Program} {w : World} {a : Addr} {m : Mode} (fn : Fn) (x y : Array Value) : (store a (.func fn x y) m).run P w = stored P w a (.func fn x y) m := run_store P w a _ m rfl
attribute [local go_sem] run_store_func

set_option maxRecDepth 100000 in
set_option maxHeartbeats 8000000 in
theorem indexWithin_walk (lv : Value) (qs : List (Int × Int)) (all : Bool) (lo hi : Int) (av : Value) (acts : List Ac5) (stop : Int) (w : World) (hp : Pr w lv qs) (hw : ∀ p ∈ qs, (Lit.int .i64 p.1).wf = true ∧ (Lit.int .i64 p.2).wf = true) (ha : Ax w av acts) (hwa : ∀ a ∈ acts, (Lit.int .i64 a.ky).wf = true ∧ (Lit.int .i64 a.vl).wf = true) :
    Calls Try.prog 6 #[lv, .bool all, .int .i64 lo, .int .i64 hi, av, .int .i64 stop] w fun e w' => e = .returned (.bool true) ∧ Below w.heap.size w w' := by
  refine callsIn_wide (n := 5) |>.1 ?_
  have HP : Hid (Pr w lv qs) := hp
  have HQW : Hid (∀ p ∈ qs, (Lit.int .i64 p.1).wf = true ∧ (Lit.int .i64 p.2).wf = true) := hw
  have HAX : Hid (Ax w av acts) := ha
  have HAW : Hid (∀ a ∈ acts, (Lit.int .i64 a.ky).wf = true ∧ (Lit.int .i64 a.vl).wf = true) := hwa
  have HW1 : Hid (∀ W, W = ((w.alloc (.cells #[av] 76)).alloc (.cells #[.int .i64 stop] 3)).alloc (.cells #[.bool false] 4) → LB W w.heap.size 76 [av] ∧ LB W (w.heap.size + 1) 3 [.int .i64 stop] ∧ LB W (w.heap.size + 2) 4 [.bool false] ∧ Below w.heap.size w W) := fun W e => by
    subst e
    have h1 := lb_new w [av] 76
    have h2 := lb_new (w.alloc (.cells #[av] 76)) [.int .i64 stop] 3
    have h3 := lb_new ((w.alloc (.cells #[av] 76)).alloc (.cells #[.int .i64 stop] 3)) [.bool false] 4
    rw [heap_one] at h2
    rw [heap_one, heap_one] at h3
    exact ⟨(h1.kept (up0 _ _)).kept (up0 _ _), h2.kept (up0 _ _), h3, up (up (up0 _ _) _) _⟩
  obtain ⟨aa, ca, hae, ha1, ha2, -⟩ := id ha
  subst hae
  unfold maxLen at ha2
  clear hp hw ha hwa
  refine callsIn_of_wp_marks Try.func6 rfl trivial ?_ rfl
  simp only [Try.ntmps6, List.size_toArray, List.length_cons, List.length_nil, Nat.reduceAdd, Nat.reduceSub, Array.replicate_succ, Array.replicate_zero, List.push_toArray, List.append_toArray, List.nil_append, List.cons_append]
  gi_upto_region 1 with fail
  obtain ⟨W1, hW1⟩ : ∃ W1, W1 = ((w.alloc (.cells #[.slice aa acts.length ca] 76)).alloc (.cells #[.int .i64 stop] 3)).alloc (.cells #[.bool false] 4) := ⟨_, rfl⟩
  rw [← hW1]
  have H1 := HW1.out W1 hW1
  obtain ⟨B12, hB12⟩ : ∃ x, x = w.heap.size + 2 := ⟨_, rfl⟩
  obtain ⟨B11, hB11⟩ : ∃ x, x = w.heap.size + 1 := ⟨_, rfl⟩
  obtain ⟨B10, hB10⟩ : ∃ x, x = w.heap.size := ⟨_, rfl⟩
  rw [← hB12, ← hB11, ← hB10] at H1
  rw [← hB12, ← hB11, ← hB10]
  have HL1 : Hid (LB W1 B10 76 [.slice aa acts.length ca] ∧ LB W1 B11 3 [.int .i64 stop] ∧ LB W1 B12 4 [.bool false] ∧ Below w.heap.size w W1) := by rw [← hB10]; exact H1
  have HSZ : Hid (W1.heap.size = w.heap.size + 3) := by
    rw [hW1, heap_one, heap_one, heap_one]
    exact rfl
  have HBB : Hid (w.heap.size ≤ B10 ∧ B10 = w.heap.size ∧ B11 = w.heap.size + 1 ∧ B12 = w.heap.size + 2) := ⟨by omega, hB10, hB11, hB12⟩
  clear H1 HW1 hW1 hB10 hB11 hB12
  gi_wp2
  refine ⟨trivial, (callsIn_wide.2 (ixcutp_any lv qs W1 (HP.out.kept HL1.out.2.2.2))).mono ?_⟩
  rintro e W1' ⟨⟨nv, rfl, p1⟩, rfl⟩
  have HLP : Hid ((qs.take 300).length ≤ 300) := by rw [List.length_take]; exact Nat.min_le_left _ _
  have HWP : Hid (∀ p ∈ qs.take 300, (Lit.int .i64 p.1).wf = true ∧ (Lit.int .i64 p.2).wf = true) := fun p hp => HQW.out p (List.mem_of_mem_take hp)
  generalize qs.take 300 = ps at p1 HLP HWP
  obtain ⟨va, vc, hve, -⟩ := id p1
  subst hve
  have HP1 : Hid (Pr W1' (.slice va ps.length vc) ps) := p1
  clear p1 HP HQW
  gi_wp2
  refine ⟨trivial, (callsIn_wide.2 (ixbuilt_any _ ps W1' HP1.out HWP.out (Nat.le_trans HLP.out (by omega)))).mono ?_⟩
  rintro e W2 ⟨g, b, base, rfl, m2, b2, z2, zg2⟩
  have HBX : Hid (∀ W, W = (W2.alloc (.cells #[.pointer (some ⟨g, 0, none⟩), .bool all, .int .i64 lo, .int .i64 hi, .slice va ps.length vc] 80)).alloc (.cells #[.pointer (some ⟨W2.heap.size, 0, none⟩)] 77) → LB W W2.heap.size 80 [.pointer (some ⟨g, 0, none⟩), .bool all, .int .i64 lo, .int .i64 hi, .slice va ps.length vc] ∧ LB W (W2.heap.size + 1) 77 [.pointer (some ⟨W2.heap.size, 0, none⟩)] ∧ Below W2.heap.size W2 W) := fun W e => by
    subst e
    have h1 := lb_new W2 [.pointer (some ⟨g, 0, none⟩), .bool all, .int .i64 lo, .int .i64 hi, .slice va ps.length vc] 80
    have h2 := lb_new (W2.alloc (.cells #[.pointer (some ⟨g, 0, none⟩), .bool all, .int .i64 lo, .int .i64 hi, .slice va ps.length vc] 80)) [.pointer (some ⟨W2.heap.size, 0, none⟩)] 77
    rw [heap_one] at h2
    exact ⟨h1.kept (up0 _ _), h2, up (up0 _ _) _⟩
  have HM2 : Hid (MI W2 g b base ps.length (Ix.gml ps) ∧ Below W1'.heap.size W1' W2 ∧ W1'.heap.size ≤ b ∧ ∀ q, Mrow W2 b q → W1'.heap.size ≤ q) := ⟨m2, b2, z2, fun q hq => by
    have h1 := (m2.row hq).1
    have h2 := m2.lo
    omega⟩
  clear m2 b2 z2 zg2
  gi_upto_region 3 with fail
  obtain ⟨W3, hW3⟩ : ∃ W, W = (W2.alloc (.cells #[.pointer (some ⟨g, 0, none⟩), .bool all, .int .i64 lo, .int .i64 hi, .slice va ps.length vc] 80)).alloc (.cells #[.pointer (some ⟨W2.heap.size, 0, none⟩)] 77) := ⟨_, rfl⟩
  rw [← hW3]
  have H3 := HBX.out W3 hW3
  obtain ⟨B13, hB13⟩ : ∃ x, x = W2.heap.size + 1 := ⟨_, rfl⟩
  obtain ⟨gw, hgw⟩ : ∃ x, x = W2.heap.size := ⟨_, rfl⟩
  rw [← hB13, ← hgw] at H3
  rw [← hB13, ← hgw]
  have HL3 : Hid (LB W3 gw 80 [.pointer (some ⟨g, 0, none⟩), .bool all, .int .i64 lo, .int .i64 hi, .slice va ps.length vc] ∧ LB W3 B13 77 [.pointer (some ⟨gw, 0, none⟩)] ∧ Below W2.heap.size W2 W3) := by rw [← hgw]; exact H3
  have HGW : Hid (gw = W2.heap.size ∧ B13 = gw + 1) := ⟨hgw, by omega⟩
  clear H3 HBX hW3 hB13 hgw
  rename_i K2 hK2 K1 hK1
  generalize hA : Act.mk _ _ = A
  have HREST : Hid (∀ (x32 x33 x34 x35 x36 : Value) (m : Nat) (W4 : World), m = min acts.length 40 → LB W4 B10 76 [.slice aa m ca] → W3.heap.size ≤ W4.heap.size → (W4.os = W3.os ∧ W4.tape = W3.tape ∧ W4.output = W3.output) → (∀ q, q ≠ B10 → W4.heap[q]? = W3.heap[q]?) → K2 (((((A.put (some 32) x32).put (some 33) x33).put (some 34) x34).put (some 35) x35).put (some 36) x36) W4) := fun x32 x33 x34 x35 x36 m W4 hm l10 hs4 ho4 hf4 => by
    rw [← hA]
    refine hK2 _ _ ?_
    simp only [Act.put, zq1, zq2, zq3]
    have h4 := MW.start HBB.out.1 HSZ.out HBB.out.2.1 HBB.out.2.2.1 HBB.out.2.2.2 HL1.out.1 HL1.out.2.1 HL1.out.2.2.1 HL1.out.2.2.2 HP1.out HWP.out HM2.out.1 HM2.out.2.1 HM2.out.2.2.1 HM2.out.2.2.2 HGW.out.1 HGW.out.2 HL3.out.1 HL3.out.2.1 HL3.out.2.2 l10 hs4 ho4 hf4
    have H4 : Hid (LB W4 B10 76 [.slice aa m ca] ∧ Below w.heap.size w W4 ∧ WS w.heap.size gw g b base all lo hi ps.length (.slice va ps.length vc) ps W4 ∧ LB W4 B11 3 [.int .i64 stop] ∧ LB W4 B12 4 [.bool false] ∧ LB W4 B13 77 [.pointer (some ⟨gw, 0, none⟩)] ∧ (∀ q, Mrow W4 b q → W1'.heap.size ≤ q ∧ q < W2.heap.size)) := ⟨l10, h4⟩
    have y13 := h4.2.2.2.2.1.cell 0 _ rfl
    have yg0 := h4.2.1.wk.box.cell 0 _ rfl
    have HHO : Hid (Calls Try.prog 39 #[.pointer (some ⟨g, 0, none⟩), .slice va ps.length vc] W4 fun e w' => e = .returned (.bool true) ∧ Below W4.heap.size W4 w') := ixholds_any g b base ps.length ps _ W4 h4.2.1.mi h4.2.1.wk.pr (by have := HLP.out; omega) (by have := HLP.out; omega) (fun p hp => by
      have h9 := (h4.2.1.wf p hp).1
      simp [Lit.wf, IntKind.min, IntKind.max, IntKind.signed, IntKind.bits] at h9
      omega)
    have HMM : Hid (m = min acts.length 40) := hm
    clear hA h4 l10 hs4 ho4 hf4 hm
    gi_wp2
    refine ⟨trivial, (callsIn_wide.2 HHO.out).mono ?_⟩
    rintro e W5 ⟨rfl, b5⟩
    have H5 : Hid (LB W5 B10 76 [.slice aa m ca] ∧ Below w.heap.size w W5 ∧ WS w.heap.size gw g b base all lo hi ps.length (.slice va ps.length vc) ps W5 ∧ LB W5 B11 3 [.int .i64 stop] ∧ LB W5 B12 4 [.bool false] ∧ LB W5 B13 77 [.pointer (some ⟨gw, 0, none⟩)] ∧ (∀ q, Mrow W5 b q → W1'.heap.size ≤ q ∧ q < W2.heap.size)) := ⟨H4.out.1.kept b5, andThen H4.out.2.1 b5, H4.out.2.2.1.kept b5, H4.out.2.2.2.1.kept b5, H4.out.2.2.2.2.1.kept b5, H4.out.2.2.2.2.2.1.kept b5, fun q hq => H4.out.2.2.2.2.2.2 q (hq.same (b5.block b H4.out.2.2.1.mi.blt.2))⟩
    have z13 := H5.out.2.2.2.2.2.1.cell 0 _ rfl
    have zg0 := H5.out.2.2.1.wk.box.cell 0 _ rfl
    clear y13 yg0 HHO H4 b5
    gi_wp2
    refine ⟨trivial, (callsIn_wide.2 (ixrange_any g lo hi W5)).mono ?_⟩
    rintro e W6 ⟨rfl, k1, k2, k3, b6⟩
    have HMW : Hid (∀ (B14 mA : Nat) (l2 h2 : Int) (fv : Value) (W8 : World), Below W5.heap.size W5 W8 → W5.heap.size ≤ mA → LB W8 B14 58 [fv] → TItB W8 g mA l2 h2 → MW w B10 B11 B12 B13 B14 gw g b base mA all lo hi l2 h2 stop (.slice aa m ca) fv ps.length (.slice va ps.length vc) ps W8) := fun B14 mA l2 h2 fv W8 hb hm l14 it8 => by
      have h5 := H5.out
      have hg := h5.2.2.1.wk.box.lt
      have e1 := HGW.out
      have e2 := HBB.out
      have e3 := HSZ.out
      have hlt := h5.2.2.1.mi.blt.2
      refine ⟨andThen h5.2.1 hb, h5.2.2.1.kept hb, h5.1.kept hb, h5.2.2.2.1.kept hb, h5.2.2.2.2.1.kept hb, h5.2.2.2.2.2.1.kept hb, l14, it8, fun q hq hr => ?_, by omega⟩
      have h9 := h5.2.2.2.2.2.2 q (hr.same (hb.block b hlt))
      omega
    have H6 : Hid (TItB W6 g W5.heap.size lo hi ∧ Below W5.heap.size W5 W6) := ⟨⟨k1, k2, k3⟩, b6⟩
    clear k1 k2 k3 b6 z13 zg0
    gi_upto_region 8 with fail
    obtain ⟨mR, hmR⟩ : ∃ x, x = W5.heap.size := ⟨_, rfl⟩
    rw [← hmR]
    have H7 : Hid (∀ W, W = W6.alloc (.cells #[(.func (.func 57) #[] #[.pointer (some ⟨mR, 0, none⟩), .pointer (some ⟨mR + 1, 0, none⟩), .pointer (some ⟨mR + 2, 0, none⟩)])] 58) → LB W W6.heap.size 58 [(.func (.func 57) #[] #[.pointer (some ⟨mR, 0, none⟩), .pointer (some ⟨mR + 1, 0, none⟩), .pointer (some ⟨mR + 2, 0, none⟩)])] ∧ TItB W g mR lo hi ∧ Below W5.heap.size W5 W) := fun W e => by
      subst e
      have h6 := H6.out
      rw [← hmR] at h6
      have u6 := up0 W6 (.cells #[(.func (.func 57) #[] #[.pointer (some ⟨mR, 0, none⟩), .pointer (some ⟨mR + 1, 0, none⟩), .pointer (some ⟨mR + 2, 0, none⟩)])] 58)
      exact ⟨lb_new W6 _ 58, ⟨h6.1.1.kept u6, h6.1.2.1.kept u6, h6.1.2.2.kept u6⟩, andThen H6.out.2 u6⟩
    obtain ⟨W7, hW7⟩ : ∃ W, W = W6.alloc (.cells #[(.func (.func 57) #[] #[.pointer (some ⟨mR, 0, none⟩), .pointer (some ⟨mR + 1, 0, none⟩), .pointer (some ⟨mR + 2, 0, none⟩)])] 58) := ⟨_, rfl⟩
    rw [← hW7]
    have h7 := H7.out W7 hW7
    obtain ⟨B14, hB14⟩ : ∃ x, x = W6.heap.size := ⟨_, rfl⟩
    rw [← hB14] at h7
    rw [← hB14]
    have HL7 : Hid (LB W7 B14 58 [(.func (.func 57) #[] #[.pointer (some ⟨mR, 0, none⟩), .pointer (some ⟨mR + 1, 0, none⟩), .pointer (some ⟨mR + 2, 0, none⟩)])] ∧ TItB W7 g mR lo hi ∧ Below W5.heap.size W5 W7 ∧ W5.heap.size ≤ B14 ∧ W5.heap.size ≤ mR) := ⟨h7.1, h7.2.1, h7.2.2, by rw [hB14]; exact H6.out.2.size, Nat.le_of_eq hmR.symm⟩
    clear H7 h7 hW7 hB14 hmR H6
    rename_i K4 hK4 K3 hK3
    generalize hA2 : Act.mk _ _ = A2
    have HRS2 : Hid (∀ (x58 x59 x60 x61 x62 x63 : Value) (mA : Nat) (l2 h2 : Int) (W8 : World), l2 = (if all then -9223372036854775808 else lo) → h2 = (if all then 9223372036854775807 else hi) → MW w B10 B11 B12 B13 B14 gw g b base mA all lo hi l2 h2 stop (.slice aa m ca) (.func (.func 57) #[] #[.pointer (some ⟨mA, 0, none⟩), .pointer (some ⟨mA + 1, 0, none⟩), .pointer (some ⟨mA + 2, 0, none⟩)]) ps.length (.slice va ps.length vc) ps W8 → K4 ((((((A2.put (some 58) x58).put (some 59) x59).put (some 60) x60).put (some 61) x61).put (some 62) x62).put (some 63) x63) W8) := fun x58 x59 x60 x61 x62 x63 mA l2 h2 W8 hl2 hh2 hmw => by
      rw [← hA2]
      refine hK4 _ _ ?_
      simp only [Act.put, zq1, zq2, zq3]
      have y14 := hmw.itb.cell 0 _ rfl
      have hnf : ∀ (caps : Array Value) (W : World), Sem.run Try.prog (binOp BinOp.eql 58 (Value.func (Fn.func 57) #[] caps) Value.nilFunc) W = .ok (.bool false) W := fun _ _ => rfl
      have HS8 : Hid (MW w B10 B11 B12 B13 B14 gw g b base mA all lo hi l2 h2 stop (.slice aa m ca) (.func (.func 57) #[] #[.pointer (some ⟨mA, 0, none⟩), .pointer (some ⟨mA + 1, 0, none⟩), .pointer (some ⟨mA + 2, 0, none⟩)]) ps.length (.slice va ps.length vc) ps W8) := hmw
      clear hA2 hmw
      gi_wp2
      refine wpIn_loop_rounds 4 ?_
      have HTO : Hid (∀ (nv : Value) (ps : List (Int × Int)) (n : Nat) (W : World), WS w.heap.size gw g b base all lo hi n nv ps W → ps.length ≤ 10000 → Calls Try.prog 41 #[.pointer (some ⟨gw, 0, none⟩)] W fun e w' => ∃ v', e = .returned v' ∧ w'.ownsRow W.heap.size 54 2 v' (wtold all lo hi ps).length ((wtold all lo hi ps).flatMap enP) ∧ Below W.heap.size W w') := fun nv ps n W h hl => ixwtold_any gw g all lo hi _ ps W h.wk (by omega) fun p hp => by
        have h9 := (h.wf p hp).1
        simp [Lit.wf, IntKind.min, IntKind.max, IntKind.signed, IntKind.bits] at h9
        omega
      have HL2 : Hid (l2 = (if all then -9223372036854775808 else lo) ∧ h2 = (if all then 9223372036854775807 else hi)) := ⟨hl2, hh2⟩
      have HSr : Hid (∃ (n : Nat) (nv : Value) (ps : List (Int × Int)), n ≤ 300 ∧ ps.length ≤ 300 ∧ MW w B10 B11 B12 B13 B14 gw g b base mA all lo hi l2 h2 stop (.slice aa m ca) (.func (.func 57) #[] #[.pointer (some ⟨mA, 0, none⟩), .pointer (some ⟨mA + 1, 0, none⟩), .pointer (some ⟨mA + 2, 0, none⟩)]) n nv ps W8 ∧ ∀ D ∈ ([] : List Nat), W8.heap[D]? = some (.deferred (some []))) := ⟨_, _, _, HLP.out, HLP.out, HS8.out, fun D hD => by cases hD⟩
      clear y14 HMW HL7 HS8 hl2 hh2
      rw [roundsIn_succ]
      obtain ⟨n0, nv0, ps0, hn0, hp0, h8, d8⟩ := HSr.out
      have HS : Hid (MW w B10 B11 B12 B13 B14 gw g b base mA all lo hi l2 h2 stop (.slice aa m ca) (.func (.func 57) #[] #[.pointer (some ⟨mA, 0, none⟩), .pointer (some ⟨mA + 1, 0, none⟩), .pointer (some ⟨mA + 2, 0, none⟩)]) n0 nv0 ps0 W8) := h8
      have HDs : Hid (∀ D ∈ ([] : List Nat), W8.heap[D]? = some (.deferred (some []))) := d8
      have HN0 : Hid (n0 ≤ 300 ∧ ps0.length ≤ 300) := ⟨hn0, hp0⟩
      have y13 := h8.wp.cell 0 _ rfl
      clear h8 d8 hn0 hp0 HSr
      gi_wp2
      refine ⟨trivial, (callsIn_wide.2 (HTO.out _ _ _ W8 HS.out.ws (by have := HN0.out; omega))).mono ?_⟩
      rintro e U ⟨wv, rfl, r2, u2⟩
      obtain ⟨wa, wc, e2, -⟩ := Mg.row_shape r2
      subst e2
      have HMS : Hid (∀ (V : World) (B16 B17 B18 : Nat), V = ((U.alloc (.cells #[.slice wa (wtold all lo hi ps0).length wc] 55)).alloc (.cells #[.int .i64 0] 3)).alloc (.cells #[.bool false] 4) → B16 = U.heap.size → B17 = U.heap.size + 1 → B18 = U.heap.size + 2 → MR w B10 B11 B12 B13 B14 gw g b base mA all lo hi l2 h2 stop (.slice aa m ca) (.func (.func 57) #[] #[.pointer (some ⟨mA, 0, none⟩), .pointer (some ⟨mA + 1, 0, none⟩), .pointer (some ⟨mA + 2, 0, none⟩)]) B16 B17 B18 (.slice wa (wtold all lo hi ps0).length wc) (wtold all lo hi ps0) 0 false [] n0 nv0 ps0 V) := fun V B16 B17 B18 e e16 e17 e18 => MR.start HS.out u2 r2 HDs.out e e16 e17 e18
      clear r2 u2 y13
      gi_upto_region 18 with fail
      obtain ⟨V, hV⟩ : ∃ V, V = ((U.alloc (.cells #[.slice wa (wtold all lo hi ps0).length wc] 55)).alloc (.cells #[.int .i64 0] 3)).alloc (.cells #[.bool false] 4) := ⟨_, rfl⟩
      rw [← hV]
      obtain ⟨B18, hB18⟩ : ∃ x, x = U.heap.size + 2 := ⟨_, rfl⟩
      obtain ⟨B17, hB17⟩ : ∃ x, x = U.heap.size + 1 := ⟨_, rfl⟩
      obtain ⟨B16, hB16⟩ : ∃ x, x = U.heap.size := ⟨_, rfl⟩
      rw [← hB18, ← hB17, ← hB16]
      have HR1 := HMS.out V B16 B17 B18 hV hB16 hB17 hB18
      have z14 := HR1.mw.itb.cell 0 _ rfl
      clear hV hB16 hB17 hB18 HMS
      have HR : Hid (MR w B10 B11 B12 B13 B14 gw g b base mA all lo hi l2 h2 stop (.slice aa m ca) (.func (.func 57) #[] #[.pointer (some ⟨mA, 0, none⟩), .pointer (some ⟨mA + 1, 0, none⟩), .pointer (some ⟨mA + 2, 0, none⟩)]) B16 B17 B18 (.slice wa (wtold all lo hi ps0).length wc) (wtold all lo hi ps0) 0 false [] n0 nv0 ps0 V) := HR1
      have HWL : Hid (wtold all lo hi ps0 = prs (within (Ix.gml ps0) l2 h2)) := by
        rw [HL2.out.1, HL2.out.2]
        exact rfl
      have HGM : Hid ((Ix.gml ps0).length ≤ 10000000) := Nat.le_trans (Ix.gml_fine ps0).len (by have := HN0.out; omega)
      have HLW : Hid ((wtold all lo hi ps0).length ≤ 900000) := by
        have h1 := Ix.within_total (Ix.gml ps0) (if all then -9223372036854775808 else lo) (if all then 9223372036854775807 else hi)
        rw [(Ix.gml_fine ps0).tot] at h1
        have h2 := HN0.out
        show (wtold all lo hi ps0).length ≤ _
        unfold wtold
        rw [Ix.prs_len]
        omega
      clear HR1
      gi_wp2
      clear z14
      generalize wtold all lo hi ps0 = wl at HR HWL HLW ⊢
      have HVB : Hid (b < V.heap.size ∧ w.heap.size ≤ V.heap.size ∧ ∀ D ∈ ([] : List Nat), D < V.heap.size) := ⟨HR.out.mw.ws.mi.blt.2, HR.out.mw.bel.size, fun D hD => (Array.getElem?_eq_some_iff.1 (HR.out.dm D hD)).1⟩
      refine rangeG_both rfl (by omega) (gf := 57) (lb := #[.pointer (some ⟨mA, 0, none⟩), .pointer (some ⟨mA + 1, 0, none⟩), .pointer (some ⟨mA + 2, 0, none⟩)]) rfl trivial (enters_of Try.func57 (by kernel_rfl) rfl) (encs := encsP) (Kp := Kv.KpV (fun k => k = B17) 80 b) (S := fun xs : List PI => xs.map (·.1) = wl) (Sp := fun pre : List PI => pre.map (fun q : PI => q.1) <+: wl) (N := wl.length) (w0 := V) ?sq1 Kv.KpV.trans (fun W l o o' hl h1 h2 _ => Kv.kpV_b W l o o' (by have := HVB.out.1; omega) h1 h2) (Below.refl _ _) (fun _ => rfl) (IW w B10 B11 B12 B13 B14 gw g b base mA all lo hi l2 h2 stop (.slice aa m ca) (.func (.func 57) #[] #[.pointer (some ⟨mA, 0, none⟩), .pointer (some ⟨mA + 1, 0, none⟩), .pointer (some ⟨mA + 2, 0, none⟩)]) B16 B17 B18 (.slice wa wl.length wc) wl [] n0 ps0.length (acts.take 40)) (IXW w B10 B11 B12 B13 B14 gw g b base mA all lo hi l2 h2 stop (.slice aa m ca) (.func (.func 57) #[] #[.pointer (some ⟨mA, 0, none⟩), .pointer (some ⟨mA + 1, 0, none⟩), .pointer (some ⟨mA + 2, 0, none⟩)]) B16 B17 B18 (.slice wa wl.length wc) wl [] n0 ps0.length (acts.take 40)) (IW_own HVB.out.1 HVB.out.2.1 HVB.out.2.2) (IXW_own HVB.out.1 HVB.out.2.1 HVB.out.2.2) ?hz1 ?a1 ?as1 ?bo1 (fun c pre W h1 h2 => IXW_exit h1 h2) ?both1
      case as1 =>
        intro l x W K hK
        unfold encsP
        gi_wp2
        exact hK
      case hz1 => exact ⟨_, _, _, Nat.le_add_right _ _, Nat.le_add_right _ _, HR.out⟩
      case sq1 =>
        intro l J Jx W hW hJ _ hY h0
        have hs := HR.out.kept hW
        have h9 := Kv.range1_in 4 l (fun k => k = B17) 80 g b base n0 (Ix.gml ps0) l2 h2 mA (mA + 1) (mA + 2) W hs.mw.ws.mi HGM.out (hs.mw.it.1.cell 0 _ rfl) (hs.mw.it.2.1.cell 0 _ rfl) (hs.mw.it.2.2.cell 0 _ rfl) (fun q hq => by
          subst hq
          exact ⟨hs.ctr.lt, hs.nc⟩) (by decide) J Jx hJ (by rw [← HWL.out]; exact hY) h0
        rw [← HWL.out] at h9
        exact h9
      case bo1 =>
        rintro l pre ⟨⟨k, v⟩, hwk, hwv⟩ WW ⟨n1, nv1, ps1, hn1, hps1, hs⟩ hlen
        obtain ⟨q9, c9, he9, c0, c1⟩ := hs.at pre.length hlen
        simp only [Value.slice.injEq] at he9
        obtain ⟨rfl, -, rfl⟩ := he9
        obtain ⟨p0, hp0⟩ : ∃ p0, p0 = wl[pre.length] := ⟨_, rfl⟩
        rw [← hp0] at c0 c1
        have HP0 : Hid (wl[pre.length]? = some p0) := by
          rw [hp0]
          exact List.getElem?_eq_getElem hlen
        obtain ⟨k0, v0⟩ := p0
        simp only at c0 c1
        have hpl : (pre.length : Int) ≤ 900000 := by have := HLW.out; omega
        have hwp : IntKind.i64.wrap ((pre.length : Int) + 1) = (pre.length : Int) + 1 := IntWalk.i64_in _ (by omega)
        have hge : ((wl.length : Int) ≤ (pre.length : Int)) = False := by simp; omega
        have y16 := hs.wbx.cell 0 _ rfl
        have y17 := hs.ctr.cell 0 _ rfl
        have y12 := hs.mw.res.cell 0 _ rfl
        have f12 := hs.mw.res.free 0
        have HBS : Hid (BL w B10 B11 B12 B13 B14 gw g b base mA all lo hi l2 h2 stop (.slice aa m ca) (.func (.func 57) #[] #[.pointer (some ⟨mA, 0, none⟩), .pointer (some ⟨mA + 1, 0, none⟩), .pointer (some ⟨mA + 2, 0, none⟩)]) B16 B17 B18 (.slice (some ⟨q9, 0, none⟩) wl.length wc) wl [] n0 ps0.length (acts.take 40) pre.length V.heap.size WW 0 n1 nv1 ps1 WW) := BL.start hn1 hps1 hs
        have HKO : Hid (KeepsFrom V.heap.size WW (WW.setCell ⟨B12, 0, none⟩ (.bool false))) := (KeepsOthers.setCell _ _ _).from _
        clear hs hp0 hn1 hps1
        by_cases hk : k0 = k
        · subst hk
          by_cases hv : v0 = v
          · subst hv
            gi_upto_region 23 with fail
            clear y16 y17 y12 f12 c0 c1 HKO HP0 hge
            gi_wp2
            gi_loopw [21] (fun iv wr => ∃ (j n2 : Nat) (nv2 : Value) (ps2 : List (Int × Int)), j ≤ m ∧ iv = .int .i64 (j : Int) ∧ BL w B10 B11 B12 B13 B14 gw g b base mA all lo hi l2 h2 stop (.slice aa m ca) (.func (.func 57) #[] #[.pointer (some ⟨mA, 0, none⟩), .pointer (some ⟨mA + 1, 0, none⟩), .pointer (some ⟨mA + 2, 0, none⟩)]) B16 B17 B18 (.slice (some ⟨q9, 0, none⟩) wl.length wc) wl [] n0 ps0.length (acts.take 40) pre.length V.heap.size WW j n2 nv2 ps2 wr) (fun iv _ => m - (intOf iv).toNat)
            case atStart => exact ⟨0, _, _, _, Nat.zero_le _, rfl, HBS.out⟩
            case round =>
              clear HBS
              obtain ⟨j, n2, nv2, ps2, hj, rfl, hb⟩ := hrel
              have HML : Hid ((acts.take 40).length = m ∧ m ≤ 40 ∧ m ≤ acts.length) := by
                have h1 := HMM.out
                refine ⟨?_, ?_, ?_⟩
                · rw [List.length_take]
                  omega
                · omega
                · omega
              have y10 := hb.mr.mw.acts.cell 0 _ rfl
              by_cases hlt : j < m
              · have hja : j < acts.length := Nat.lt_of_lt_of_le hlt HML.out.2.2
                obtain ⟨qa, oa, rfl, -⟩ := HAX.out.at hb.mr.mw.bel j hja
                obtain ⟨t, ht⟩ : ∃ t, t = acts[j] := ⟨_, rfl⟩
                have HCA : Hid (∀ W : World, Below w.heap.size w W → W.cell? ⟨qa, oa + j * 5, none⟩ = some (.int .i64 t.at_) ∧ W.cell? ⟨qa, oa + j * 5 + 1, none⟩ = some (.int .i64 t.kd) ∧ W.cell? ⟨qa, oa + j * 5 + 2, none⟩ = some (.int .i64 t.ky) ∧ W.cell? ⟨qa, oa + j * 5 + 3, none⟩ = some (.int .i64 t.vl) ∧ W.cell? ⟨qa, oa + j * 5 + 4, none⟩ = some (.int .i64 t.sp)) := fun W hW => by
                  obtain ⟨q', o', e', h9⟩ := HAX.out.at hW j hja
                  simp only [Option.some.injEq, Addr.mk.injEq] at e'
                  obtain ⟨rfl, rfl, -⟩ := e'
                  rw [ht]
                  exact h9
                have HT0 : Hid (j < (acts.take 40).length ∧ ∀ h : j < (acts.take 40).length, (acts.take 40)[j] = t) := ⟨by have := HML.out; omega, fun h => by rw [List.getElem_take, ht]⟩
                have HWT0 : Hid ((Lit.int .i64 t.ky).wf = true ∧ (Lit.int .i64 t.vl).wf = true) := HAW.out t (by rw [ht]; exact List.getElem_mem hja)
                clear ht
                obtain ⟨at_, kd, ky, vl, sp⟩ := t
                have HWT : Hid ((Lit.int .i64 ky).wf = true ∧ (Lit.int .i64 vl).wf = true) := HWT0.out
                have HBN : Hid (n2 ≤ 600 ∧ ps2.length ≤ 600) := by
                  have h1 := hb.hn
                  have h2 := hb.hp
                  have h3 := actN_succ (acts.take 40) pre.length
                  have h4 := actN_le (acts.take 40) pre.length
                  have h6 := HML.out
                  have h5 : actE (acts.take 40) pre.length j ≤ 40 := Nat.le_trans (List.length_filter_le _ _) (Nat.le_trans (List.length_take_le _ _) (by omega))
                  have h7 := HN0.out
                  exact ⟨by omega, by omega⟩
                have hwj : IntKind.i64.wrap ((j : Int) + 1) = (j : Int) + 1 := IntWalk.i64_in _ (by have := HML.out; omega)
                have HSS : Hid (∀ (j' n3 : Nat) (nv3 : Value) (ps3 : List (Int × Int)) (W : World), BL w B10 B11 B12 B13 B14 gw g b base mA all lo hi l2 h2 stop (.slice (some ⟨qa, oa, none⟩) m ca) (.func (.func 57) #[] #[.pointer (some ⟨mA, 0, none⟩), .pointer (some ⟨mA + 1, 0, none⟩), .pointer (some ⟨mA + 2, 0, none⟩)]) B16 B17 B18 (.slice (some ⟨q9, 0, none⟩) wl.length wc) wl [] n0 ps0.length (acts.take 40) pre.length V.heap.size WW j' n3 nv3 ps3 W → W.cell? ⟨B10, 0, none⟩ = some (.slice (some ⟨qa, oa, none⟩) m ca) ∧ W.cell? ⟨B17, 0, none⟩ = some (.int .i64 (pre.length : Int)) ∧ W.cell? ⟨B13, 0, none⟩ = some (.pointer (some ⟨gw, 0, none⟩)) ∧ W.cell? ⟨B14, 0, none⟩ = some (.func (.func 57) #[] #[.pointer (some ⟨mA, 0, none⟩), .pointer (some ⟨mA + 1, 0, none⟩), .pointer (some ⟨mA + 2, 0, none⟩)]) ∧ W.cell? ⟨qa, oa + j * 5, none⟩ = some (.int .i64 at_) ∧ W.cell? ⟨qa, oa + j * 5 + 1, none⟩ = some (.int .i64 kd) ∧ W.cell? ⟨qa, oa + j * 5 + 2, none⟩ = some (.int .i64 ky) ∧ W.cell? ⟨qa, oa + j * 5 + 3, none⟩ = some (.int .i64 vl) ∧ W.cell? ⟨qa, oa + j * 5 + 4, none⟩ = some (.int .i64 sp)) := fun j' n3 nv3 ps3 W h => ⟨h.mr.mw.acts.cell 0 _ rfl, h.mr.ctr.cell 0 _ rfl, h.mr.mw.wp.cell 0 _ rfl, h.mr.mw.itb.cell 0 _ rfl, HCA.out W h.mr.mw.bel⟩
                have hbz := hb.kept (W' := wr.drew) ⟨rfl, rfl, rfl, Nat.le_refl _, fun _ _ => rfl⟩
                obtain ⟨Wz, hWz⟩ : ∃ x, x = wr.drew := ⟨_, rfl⟩
                rw [← hWz] at hbz
                have hS0 := HSS.out _ _ _ _ _ hbz
                have HBZ : Hid (BL w B10 B11 B12 B13 B14 gw g b base mA all lo hi l2 h2 stop (.slice (some ⟨qa, oa, none⟩) m ca) (.func (.func 57) #[] #[.pointer (some ⟨mA, 0, none⟩), .pointer (some ⟨mA + 1, 0, none⟩), .pointer (some ⟨mA + 2, 0, none⟩)]) B16 B17 B18 (.slice (some ⟨q9, 0, none⟩) wl.length wc) wl [] n0 ps0.length (acts.take 40) pre.length V.heap.size WW j n2 nv2 ps2 Wz) := hbz
                clear hb hbz HCA
                by_cases he : at_ = (pre.length : Int)
                · have he' : (at_ == (pre.length : Int)) = true := by simp; exact he
                  have HT : Hid (∃ _h : j < (acts.take 40).length, (acts.take 40)[j].at_ = (pre.length : Int)) := ⟨HT0.out.1, by rw [HT0.out.2 HT0.out.1]; exact he⟩
                  clear HT0 HWT0 he
                  gi_upto_region 26 with fail
                  refine regionIn_of (S := fun W : World => W.cell? ⟨B10, 0, none⟩ = some (.slice (some ⟨qa, oa, none⟩) m ca) ∧ W.cell? ⟨B17, 0, none⟩ = some (.int .i64 (pre.length : Int)) ∧ W.cell? ⟨B13, 0, none⟩ = some (.pointer (some ⟨gw, 0, none⟩)) ∧ W.cell? ⟨B14, 0, none⟩ = some (.func (.func 57) #[] #[.pointer (some ⟨mA, 0, none⟩), .pointer (some ⟨mA + 1, 0, none⟩), .pointer (some ⟨mA + 2, 0, none⟩)]) ∧ W.cell? ⟨qa, oa + j * 5, none⟩ = some (.int .i64 at_) ∧ W.cell? ⟨qa, oa + j * 5 + 1, none⟩ = some (.int .i64 kd) ∧ W.cell? ⟨qa, oa + j * 5 + 2, none⟩ = some (.int .i64 ky) ∧ W.cell? ⟨qa, oa + j * 5 + 3, none⟩ = some (.int .i64 vl) ∧ W.cell? ⟨qa, oa + j * 5 + 4, none⟩ = some (.int .i64 sp)) (by rintro ⟨_, _, h⟩; exact h) (by kernel_rfl) (by kernel_rfl) (by rw [← hWz]; exact hS0) (fun _ => ?_)
                  rw [← hWz]
                  clear hWz
                  refine zqk 0 rfl hS0 ?_
                  simp only [Act.put, zq1, zq2, zq3, zq4, zq5]
                  refine zqk 1 rfl hS0 ?_
                  simp only [Act.put, zq1, zq2, zq3, zq4, zq5, zq6]
                  refine zqk 2 rfl hS0 ?_
                  simp only [Act.put, zq1, zq2, zq3, zq4, zq5, zq6]
                  refine zqk 3 rfl hS0 ?_
                  simp only [Act.put, zq1, zq2, zq3, zq4, zq5, zq6]
                  refine zqk 4 rfl hS0 ?_
                  simp only [Act.put, zq1, zq2, zq3, zq4, zq5, zq6]
                  refine zqk 5 rfl hS0 ?_
                  simp only [Act.put, zq1, zq2, zq3, zq4, zq5, zq6]
                  refine zqk 6 rfl hS0 ?_
                  simp only [Act.put, zq1, zq2, zq3, zq4, zq5, zq6]
                  refine zqk 7 rfl hS0 ?_
                  simp only [Act.put, zq1, zq2, zq3, zq4, zq5, zq6]
                  refine zqk 8 rfl hS0 ?_
                  simp only [Act.put, zq1, zq2, zq3, zq4, zq5, zq6]
                  refine zqk 9 rfl hS0 ?_
                  simp only [Act.put, zq1, zq2, zq3, zq4, zq5, zq6]
                  refine zqk 10 rfl hS0 ?_
                  simp only [Act.put, zq1, zq2, zq3, zq4, zq5, zq6]
                  refine zqk 11 rfl hS0 ?_
                  simp only [Act.put, zq1, zq2, zq3, zq4, zq5, zq6]
                  refine zqk 12 rfl hS0 ?_
                  simp only [Act.put, zq1, zq2, zq3, zq4, zq5, zq6]
                  refine zqk 13 rfl hS0 ?_
                  simp only [Act.put, zq1, zq2, zq3, zq4, zq5, zq6]
                  refine zqr 14 rfl (fun K hK => ?_)
                  refine st_doesW rfl 103 104 108 rfl rfl rfl rfl (R := DoPost w.heap.size gw g b base all lo hi n2 ps2 Wz) (ixdoes_any w.heap.size gw g b base n2 mA all lo hi l2 h2 nv2 ps2 _ kd ky vl sp Wz HBZ.out.mr.mw.ws HBZ.out.mr.mw.bel.size (by have := HBN.out; omega) (by have := HBN.out; omega) HWT.out.1 HWT.out.2 HBZ.out.mr.mw.it HL2.out.1 HL2.out.2) ?_
                  rintro Wa hda
                  obtain ⟨n3, nv3, ps3, hb3⟩ := HBZ.out.does HVB.out.1 HT.out.1 HT.out.2 hda
                  have hSa := HSS.out _ _ _ _ _ hb3
                  have HB3 : Hid (BL w B10 B11 B12 B13 B14 gw g b base mA all lo hi l2 h2 stop (.slice (some ⟨qa, oa, none⟩) m ca) (.func (.func 57) #[] #[.pointer (some ⟨mA, 0, none⟩), .pointer (some ⟨mA + 1, 0, none⟩), .pointer (some ⟨mA + 2, 0, none⟩)]) B16 B17 B18 (.slice (some ⟨q9, 0, none⟩) wl.length wc) wl [] n0 ps0.length (acts.take 40) pre.length V.heap.size WW (j + 1) n3 nv3 ps3 Wa) := hb3
                  refine hK.out _ _ hSa fun _ => ?_
                  simp only [Act.put, zq1, zq2, zq3, zq4, zq5, zq6]
                  clear hK K hda hb3
                  refine zqk 15 rfl hSa ?_
                  simp only [Act.put, zq1, zq2, zq3, zq4, zq5, zq6]
                  refine zqk 16 rfl hSa ?_
                  simp only [Act.put, zq1, zq2, zq3, zq4, zq5, zq6]
                  refine wpAnyH_done (by kernel_rfl) ?_ _
                  clear hS0 hSa
                  gi_wp2
                  go_roundw
                  case rel => exact ⟨j + 1, n3, nv3, ps3, by omega, by go_num, HB3.out⟩
                  case measure => simp [intOf]; omega
                · have he' : (at_ == (pre.length : Int)) = false := by simp; exact he
                  have HB3 := HBZ.out.skip HT0.out.1 (by rw [HT0.out.2 HT0.out.1]; exact he)
                  have HB4 : Hid (BL w B10 B11 B12 B13 B14 gw g b base mA all lo hi l2 h2 stop (.slice (some ⟨qa, oa, none⟩) m ca) (.func (.func 57) #[] #[.pointer (some ⟨mA, 0, none⟩), .pointer (some ⟨mA + 1, 0, none⟩), .pointer (some ⟨mA + 2, 0, none⟩)]) B16 B17 B18 (.slice (some ⟨q9, 0, none⟩) wl.length wc) wl [] n0 ps0.length (acts.take 40) pre.length V.heap.size WW (j + 1) n2 nv2 ps2 Wz) := HB3
                  clear HB3 HT0 HWT0 he
                  gi_upto_region 26 with fail
                  refine regionIn_of (S := fun W : World => W.cell? ⟨B10, 0, none⟩ = some (.slice (some ⟨qa, oa, none⟩) m ca) ∧ W.cell? ⟨B17, 0, none⟩ = some (.int .i64 (pre.length : Int)) ∧ W.cell? ⟨B13, 0, none⟩ = some (.pointer (some ⟨gw, 0, none⟩)) ∧ W.cell? ⟨B14, 0, none⟩ = some (.func (.func 57) #[] #[.pointer (some ⟨mA, 0, none⟩), .pointer (some ⟨mA + 1, 0, none⟩), .pointer (some ⟨mA + 2, 0, none⟩)]) ∧ W.cell? ⟨qa, oa + j * 5, none⟩ = some (.int .i64 at_) ∧ W.cell? ⟨qa, oa + j * 5 + 1, none⟩ = some (.int .i64 kd) ∧ W.cell? ⟨qa, oa + j * 5 + 2, none⟩ = some (.int .i64 ky) ∧ W.cell? ⟨qa, oa + j * 5 + 3, none⟩ = some (.int .i64 vl) ∧ W.cell? ⟨qa, oa + j * 5 + 4, none⟩ = some (.int .i64 sp)) (by rintro ⟨_, _, h⟩; exact h) (by kernel_rfl) (by kernel_rfl) (by rw [← hWz]; exact hS0) (fun _ => ?_)
                  rw [← hWz]
                  clear hWz
                  refine zqk 0 rfl hS0 ?_
                  simp only [Act.put, zq1, zq2, zq3, zq4, zq5]
                  refine zqk 1 rfl hS0 ?_
                  simp only [Act.put, zq1, zq2, zq3, zq4, zq5, zq6]
                  refine zqk 2 rfl hS0 ?_
                  simp only [Act.put, zq1, zq2, zq3, zq4, zq5, zq6]
                  refine zqk 3 rfl hS0 ?_
                  simp only [Act.put, zq1, zq2, zq3, zq4, zq5, zq6]
                  refine zqk 4 rfl hS0 ?_
                  simp only [Act.put, zq1, zq2, zq3, zq4, zq5, zq6]
                  refine zqk 5 rfl hS0 ?_
                  simp only [Act.put, zq1, zq2, zq3, zq4, zq5, zq6]
                  refine zqk 6 rfl hS0 ?_
                  simp only [Act.put, zq1, zq2, zq3, zq4, zq5, zq6]
                  refine zqk 7 rfl hS0 ?_
                  simp only [Act.put, zq1, zq2, zq3, zq4, zq5, zq6]
                  refine zqn 8 rfl hS0 ?_
                  simp only [Act.put, zq1, zq2, zq3, zq4, zq5, zq6]
                  refine zqn 9 rfl hS0 ?_
                  simp only [Act.put, zq1, zq2, zq3, zq4, zq5, zq6]
                  refine zqn 10 rfl hS0 ?_
                  simp only [Act.put, zq1, zq2, zq3, zq4, zq5, zq6]
                  refine zqn 11 rfl hS0 ?_
                  simp only [Act.put, zq1, zq2, zq3, zq4, zq5, zq6]
                  refine zqn 12 rfl hS0 ?_
                  simp only [Act.put, zq1, zq2, zq3, zq4, zq5, zq6]
                  refine zqn 13 rfl hS0 ?_
                  simp only [Act.put, zq1, zq2, zq3, zq4, zq5, zq6]
                  refine zqn 14 rfl hS0 ?_
                  simp only [Act.put, zq1, zq2, zq3, zq4, zq5, zq6]
                  refine zqn 15 rfl hS0 ?_
                  simp only [Act.put, zq1, zq2, zq3, zq4, zq5, zq6]
                  refine zqk 16 rfl hS0 ?_
                  simp only [Act.put, zq1, zq2, zq3, zq4, zq5, zq6]
                  refine wpAnyH_done (by kernel_rfl) ?_ _
                  clear hS0
                  gi_wp2
                  go_roundw
                  case rel => exact ⟨j + 1, n2, nv2, ps2, by omega, by go_num, HB4.out⟩
                  case measure => simp [intOf]; omega
              · have hjm : m = j := by omega
                subst hjm
                have HBM : Hid (BL w B10 B11 B12 B13 B14 gw g b base mA all lo hi l2 h2 stop (.slice aa m ca) (.func (.func 57) #[] #[.pointer (some ⟨mA, 0, none⟩), .pointer (some ⟨mA + 1, 0, none⟩), .pointer (some ⟨mA + 2, 0, none⟩)]) B16 B17 B18 (.slice (some ⟨q9, 0, none⟩) wl.length wc) wl [] n0 ps0.length (acts.take 40) pre.length V.heap.size WW (acts.take 40).length n2 nv2 ps2 wr) := by
                  rw [HML.out.1]
                  exact hb
                have T1 := hb.mr.count ((pre.length : Int) + 1)
                have y17 := hb.mr.ctr.cell 0 _ rfl
                have f17 := hb.mr.ctr.free 0
                have z17 := T1.ctr.cell 0 _ rfl
                have z11 := T1.mw.stp.cell 0 _ rfl
                have z18 := T1.lft.cell 0 _ rfl
                have g18 := T1.lft.free 0
                have HLS : Hid (KeepsFrom V.heap.size WW ((wr.setCell ⟨B17, 0, none⟩ (.int .i64 ((pre.length : Int) + 1))).setCell ⟨B18, 0, none⟩ (.bool true)) ∧ IXW w B10 B11 B12 B13 B14 gw g b base mA all lo hi l2 h2 stop (.slice aa m ca) (.func (.func 57) #[] #[.pointer (some ⟨mA, 0, none⟩), .pointer (some ⟨mA + 1, 0, none⟩), .pointer (some ⟨mA + 2, 0, none⟩)]) B16 B17 B18 (.slice (some ⟨q9, 0, none⟩) wl.length wc) wl [] n0 ps0.length (acts.take 40) (.exit 2) (pre ++ [⟨(k0, v0), hwk, hwv⟩]) ((wr.setCell ⟨B17, 0, none⟩ (.int .i64 ((pre.length : Int) + 1))).setCell ⟨B18, 0, none⟩ (.bool true))) := HBM.out.left pre rfl _
                have HNX : Hid (KeepsFrom V.heap.size WW (wr.setCell ⟨B17, 0, none⟩ (.int .i64 ((pre.length : Int) + 1))) ∧ Kv.KpV (fun q => q = B17) 80 b WW (wr.setCell ⟨B17, 0, none⟩ (.int .i64 ((pre.length : Int) + 1))) ∧ IW w B10 B11 B12 B13 B14 gw g b base mA all lo hi l2 h2 stop (.slice aa m ca) (.func (.func 57) #[] #[.pointer (some ⟨mA, 0, none⟩), .pointer (some ⟨mA + 1, 0, none⟩), .pointer (some ⟨mA + 2, 0, none⟩)]) B16 B17 B18 (.slice (some ⟨q9, 0, none⟩) wl.length wc) wl [] n0 ps0.length (acts.take 40) (pre ++ [⟨(k0, v0), hwk, hwv⟩]) (wr.setCell ⟨B17, 0, none⟩ (.int .i64 ((pre.length : Int) + 1)))) := HBM.out.next pre rfl _
                clear hb T1 HBM hlt
                by_cases hst : (pre.length : Int) + 1 = stop
                · have hst' : ((pre.length : Int) + 1 == stop) = true := by simp; exact hst
                  clear hst
                  gi_wp2
                  exact HLS.out
                · have hst' : ((pre.length : Int) + 1 == stop) = false := by simp; exact hst
                  clear hst
                  gi_wp2
                  exact HNX.out
          · have hv' : (v0 == v) = false := by simp; exact hv
            gi_wp2
            exact ⟨HKO.out, .inl ⟨rfl, pre, _, rfl, by rw [HP0.out]; intro e; simp at e; exact hv e⟩⟩
        · have hk' : (k0 == k) = false := by simp; exact hk
          gi_wp2
          exact ⟨HKO.out, .inl ⟨rfl, pre, _, rfl, by rw [HP0.out]; intro e; simp at e; exact hk e.1⟩⟩
      case both1 =>
        rintro D1 W hD h9 hK
        obtain ⟨cnt, lf, n1, nv1, ps1, hlf, hcnt, hn1, hps1, hs⟩ := IW_both h9
        have hsd : MR w B10 B11 B12 B13 B14 gw g b base mA all lo hi l2 h2 stop (.slice aa m ca) (.func (.func 57) #[] #[.pointer (some ⟨mA, 0, none⟩), .pointer (some ⟨mA + 1, 0, none⟩), .pointer (some ⟨mA + 2, 0, none⟩)]) B16 B17 B18 (.slice wa wl.length wc) wl (cnt : Int) lf [D1] n1 nv1 ps1 W := ⟨hs.mw, hs.wbx, hs.row, hs.ctr, hs.lft, hs.nc, hs.r17, hs.r18, hs.ne, fun D hD9 => by
          rcases List.mem_cons.1 hD9 with rfl | h
          · exact hK
          · exact hs.dm D h⟩
        have HDO1 : Hid (w.heap.size ≤ D1 ∧ ∀ D ∈ ([] : List Nat), D < D1) := ⟨Nat.le_trans HVB.out.2.1 hD, fun D h => Nat.lt_of_lt_of_le (HVB.out.2.2 D h) hD⟩
        have HB1 : Hid (n1 ≤ 340 ∧ ps1.length ≤ 340) := by
          have h1 := HN0.out
          have h2 : (acts.take 40).length ≤ 40 := by
            rw [List.length_take]
            exact Nat.min_le_left _ _
          exact ⟨by omega, by omega⟩
        have HCL : Hid (lf = true ∨ cnt = wl.length) := hlf
        have hsz := hsd.kept (W' := W.drew) ⟨rfl, rfl, rfl, Nat.le_refl _, fun _ _ => rfl⟩
        obtain ⟨Wz, hWz⟩ : ∃ x, x = W.drew := ⟨_, rfl⟩
        rw [← hWz] at hsz
        have HRZ : Hid (MR w B10 B11 B12 B13 B14 gw g b base mA all lo hi l2 h2 stop (.slice aa m ca) (.func (.func 57) #[] #[.pointer (some ⟨mA, 0, none⟩), .pointer (some ⟨mA + 1, 0, none⟩), .pointer (some ⟨mA + 2, 0, none⟩)]) B16 B17 B18 (.slice wa wl.length wc) wl (cnt : Int) lf [D1] n1 nv1 ps1 Wz) := hsz
        clear hs hsd hsz h9 hK hD hlf hcnt hn1 hps1 HN0 HS HDs HR HWL HGM HVB
        gi_upto_region 31 with fail
        rename_i K6 hK6
        generalize hA6 : Act.mk _ _ = A6
        have HRST : Hid (∀ (x117 x118 x119 x120 x121 x122 x123 x124 x125 x126 x127 x128 x129 x130 x131 x132 x133 x134 x135 : Value) (X1 : World), MR w B10 B11 B12 B13 B14 gw g b base mA all lo hi l2 h2 stop (.slice aa m ca) (.func (.func 57) #[] #[.pointer (some ⟨mA, 0, none⟩), .pointer (some ⟨mA + 1, 0, none⟩), .pointer (some ⟨mA + 2, 0, none⟩)]) B16 B17 B18 (.slice wa wl.length wc) wl (cnt : Int) lf [D1] n1 nv1 ps1 X1 → K6 ((((((((((((((((((((A6.put (some 117) x117).put (some 118) x118).put (some 119) x119).put (some 120) x120).put (some 121) x121).put (some 122) x122).put (some 123) x123).put (some 124) x124).put (some 125) x125).put (some 126) x126).put (some 127) x127).put (some 128) x128).put (some 129) x129).put (some 130) x130).put (some 131) x131).put (some 132) x132).put (some 133) x133).put (some 134) x134).put (some 135) x135).put (some 136) (.bool false)) X1) := fun x117 x118 x119 x120 x121 x122 x123 x124 x125 x126 x127 x128 x129 x130 x131 x132 x133 x134 x135 X1 hx => by
          rw [← hA6]
          refine hK6 _ _ ?_
          simp only [Act.put, zq1, zq2, zq3]
          have HSr : Hid (∃ (n : Nat) (nv : Value) (ps : List (Int × Int)), n ≤ 340 ∧ ps.length ≤ 340 ∧ MW w B10 B11 B12 B13 B14 gw g b base mA all lo hi l2 h2 stop (.slice aa m ca) (.func (.func 57) #[] #[.pointer (some ⟨mA, 0, none⟩), .pointer (some ⟨mA + 1, 0, none⟩), .pointer (some ⟨mA + 2, 0, none⟩)]) n nv ps X1 ∧ ∀ D ∈ ([D1] : List Nat), X1.heap[D]? = some (.deferred (some []))) := ⟨_, _, _, HB1.out.1, HB1.out.2, hx.mw, hx.dm⟩
          clear hA6 hx HRZ hWz HB1 HCL HLW
          gi_wp2
          rw [roundsIn_succ]
          obtain ⟨n0, nv0, ps0, hn0, hp0, h8, d8⟩ := HSr.out
          have HS : Hid (MW w B10 B11 B12 B13 B14 gw g b base mA all lo hi l2 h2 stop (.slice aa m ca) (.func (.func 57) #[] #[.pointer (some ⟨mA, 0, none⟩), .pointer (some ⟨mA + 1, 0, none⟩), .pointer (some ⟨mA + 2, 0, none⟩)]) n0 nv0 ps0 X1) := h8
          have HDs : Hid (∀ D ∈ ([D1] : List Nat), X1.heap[D]? = some (.deferred (some []))) := d8
          have HN0 : Hid (n0 ≤ 340 ∧ ps0.length ≤ 340) := ⟨hn0, hp0⟩
          have y13 := h8.wp.cell 0 _ rfl
          clear h8 d8 hn0 hp0 HSr
          gi_wp2
          refine ⟨trivial, (callsIn_wide.2 (HTO.out _ _ _ X1 HS.out.ws (by have := HN0.out; omega))).mono ?_⟩
          rintro e U ⟨wv, rfl, r2, u2⟩
          obtain ⟨wa, wc, e2, -⟩ := Mg.row_shape r2
          subst e2
          have HMS : Hid (∀ (V : World) (B16 B17 B18 : Nat), V = ((U.alloc (.cells #[.slice wa (wtold all lo hi ps0).length wc] 55)).alloc (.cells #[.int .i64 0] 3)).alloc (.cells #[.bool false] 4) → B16 = U.heap.size → B17 = U.heap.size + 1 → B18 = U.heap.size + 2 → MR w B10 B11 B12 B13 B14 gw g b base mA all lo hi l2 h2 stop (.slice aa m ca) (.func (.func 57) #[] #[.pointer (some ⟨mA, 0, none⟩), .pointer (some ⟨mA + 1, 0, none⟩), .pointer (some ⟨mA + 2, 0, none⟩)]) B16 B17 B18 (.slice wa (wtold all lo hi ps0).length wc) (wtold all lo hi ps0) 0 false [D1] n0 nv0 ps0 V) := fun V B16 B17 B18 e e16 e17 e18 => MR.start HS.out u2 r2 HDs.out e e16 e17 e18
          clear r2 u2 y13
          gi_upto_region 18 with fail
          obtain ⟨V, hV⟩ : ∃ V, V = ((U.alloc (.cells #[.slice wa (wtold all lo hi ps0).length wc] 55)).alloc (.cells #[.int .i64 0] 3)).alloc (.cells #[.bool false] 4) := ⟨_, rfl⟩
          rw [← hV]
          obtain ⟨B18, hB18⟩ : ∃ x, x = U.heap.size + 2 := ⟨_, rfl⟩
          obtain ⟨B17, hB17⟩ : ∃ x, x = U.heap.size + 1 := ⟨_, rfl⟩
          obtain ⟨B16, hB16⟩ : ∃ x, x = U.heap.size := ⟨_, rfl⟩
          rw [← hB18, ← hB17, ← hB16]
          have HR1 := HMS.out V B16 B17 B18 hV hB16 hB17 hB18
          have z14 := HR1.mw.itb.cell 0 _ rfl
          clear hV hB16 hB17 hB18 HMS
          have HR : Hid (MR w B10 B11 B12 B13 B14 gw g b base mA all lo hi l2 h2 stop (.slice aa m ca) (.func (.func 57) #[] #[.pointer (some ⟨mA, 0, none⟩), .pointer (some ⟨mA + 1, 0, none⟩), .pointer (some ⟨mA + 2, 0, none⟩)]) B16 B17 B18 (.slice wa (wtold all lo hi ps0).length wc) (wtold all lo hi ps0) 0 false [D1] n0 nv0 ps0 V) := HR1
          have HWL : Hid (wtold all lo hi ps0 = prs (within (Ix.gml ps0) l2 h2)) := by
            rw [HL2.out.1, HL2.out.2]
            exact rfl
          have HGM : Hid ((Ix.gml ps0).length ≤ 10000000) := Nat.le_trans (Ix.gml_fine ps0).len (by have := HN0.out; omega)
          have HLW : Hid ((wtold all lo hi ps0).length ≤ 900000) := by
            have h1 := Ix.within_total (Ix.gml ps0) (if all then -9223372036854775808 else lo) (if all then 9223372036854775807 else hi)
            rw [(Ix.gml_fine ps0).tot] at h1
            have h2 := HN0.out
            show (wtold all lo hi ps0).length ≤ _
            unfold wtold
            rw [Ix.prs_len]
            omega
          clear HR1
          gi_wp2
          clear z14
          generalize wtold all lo hi ps0 = wl at HR HWL HLW ⊢
          have HVB : Hid (b < V.heap.size ∧ w.heap.size ≤ V.heap.size ∧ ∀ D ∈ ([D1] : List Nat), D < V.heap.size) := ⟨HR.out.mw.ws.mi.blt.2, HR.out.mw.bel.size, fun D hD => (Array.getElem?_eq_some_iff.1 (HR.out.dm D hD)).1⟩
          refine rangeG_both rfl (by omega) (gf := 57) (lb := #[.pointer (some ⟨mA, 0, none⟩), .pointer (some ⟨mA + 1, 0, none⟩), .pointer (some ⟨mA + 2, 0, none⟩)]) rfl trivial (enters_of Try.func57 (by kernel_rfl) rfl) (encs := encsP) (Kp := Kv.KpV (fun k => k = B17) 80 b) (S := fun xs : List PI => xs.map (·.1) = wl) (Sp := fun pre : List PI => pre.map (fun q : PI => q.1) <+: wl) (N := wl.length) (w0 := V) ?sq2 Kv.KpV.trans (fun W l o o' hl h1 h2 _ => Kv.kpV_b W l o o' (by have := HVB.out.1; omega) h1 h2) (Below.refl _ _) (fun _ => rfl) (IW w B10 B11 B12 B13 B14 gw g b base mA all lo hi l2 h2 stop (.slice aa m ca) (.func (.func 57) #[] #[.pointer (some ⟨mA, 0, none⟩), .pointer (some ⟨mA + 1, 0, none⟩), .pointer (some ⟨mA + 2, 0, none⟩)]) B16 B17 B18 (.slice wa wl.length wc) wl [D1] n0 ps0.length (acts.take 40)) (IXW w B10 B11 B12 B13 B14 gw g b base mA all lo hi l2 h2 stop (.slice aa m ca) (.func (.func 57) #[] #[.pointer (some ⟨mA, 0, none⟩), .pointer (some ⟨mA + 1, 0, none⟩), .pointer (some ⟨mA + 2, 0, none⟩)]) B16 B17 B18 (.slice wa wl.length wc) wl [D1] n0 ps0.length (acts.take 40)) (IW_own HVB.out.1 HVB.out.2.1 HVB.out.2.2) (IXW_own HVB.out.1 HVB.out.2.1 HVB.out.2.2) ?hz2 ?a2 ?as2 ?bo2 (fun c pre W h1 h2 => IXW_exit h1 h2) ?both2
          case as2 =>
            intro l x W K hK
            unfold encsP
            gi_wp2
            exact hK
          case hz2 => exact ⟨_, _, _, Nat.le_add_right _ _, Nat.le_add_right _ _, HR.out⟩
          case sq2 =>
            intro l J Jx W hW hJ _ hY h0
            have hs := HR.out.kept hW
            have h9 := Kv.range1_in 4 l (fun k => k = B17) 80 g b base n0 (Ix.gml ps0) l2 h2 mA (mA + 1) (mA + 2) W hs.mw.ws.mi HGM.out (hs.mw.it.1.cell 0 _ rfl) (hs.mw.it.2.1.cell 0 _ rfl) (hs.mw.it.2.2.cell 0 _ rfl) (fun q hq => by
              subst hq
              exact ⟨hs.ctr.lt, hs.nc⟩) (by decide) J Jx hJ (by rw [← HWL.out]; exact hY) h0
            rw [← HWL.out] at h9
            exact h9
          case bo2 =>
            rintro l pre ⟨⟨k, v⟩, hwk, hwv⟩ WW ⟨n1, nv1, ps1, hn1, hps1, hs⟩ hlen
            obtain ⟨q9, c9, he9, c0, c1⟩ := hs.at pre.length hlen
            simp only [Value.slice.injEq] at he9
            obtain ⟨rfl, -, rfl⟩ := he9
            obtain ⟨p0, hp0⟩ : ∃ p0, p0 = wl[pre.length] := ⟨_, rfl⟩
            rw [← hp0] at c0 c1
            have HP0 : Hid (wl[pre.length]? = some p0) := by
              rw [hp0]
              exact List.getElem?_eq_getElem hlen
            obtain ⟨k0, v0⟩ := p0
            simp only at c0 c1
            have hpl : (pre.length : Int) ≤ 900000 := by have := HLW.out; omega
            have hwp : IntKind.i64.wrap ((pre.length : Int) + 1) = (pre.length : Int) + 1 := IntWalk.i64_in _ (by omega)
            have hge : ((wl.length : Int) ≤ (pre.length : Int)) = False := by simp; omega
            have y16 := hs.wbx.cell 0 _ rfl
            have y17 := hs.ctr.cell 0 _ rfl
            have y12 := hs.mw.res.cell 0 _ rfl
            have f12 := hs.mw.res.free 0
            have HBS : Hid (BL w B10 B11 B12 B13 B14 gw g b base mA all lo hi l2 h2 stop (.slice aa m ca) (.func (.func 57) #[] #[.pointer (some ⟨mA, 0, none⟩), .pointer (some ⟨mA + 1, 0, none⟩), .pointer (some ⟨mA + 2, 0, none⟩)]) B16 B17 B18 (.slice (some ⟨q9, 0, none⟩) wl.length wc) wl [D1] n0 ps0.length (acts.take 40) pre.length V.heap.size WW 0 n1 nv1 ps1 WW) := BL.start hn1 hps1 hs
            have HKO : Hid (KeepsFrom V.heap.size WW (WW.setCell ⟨B12, 0, none⟩ (.bool false))) := (KeepsOthers.setCell _ _ _).from _
            clear hs hp0 hn1 hps1
            by_cases hk : k0 = k
            · subst hk
              by_cases hv : v0 = v
              · subst hv
                gi_upto_region 23 with fail
                clear y16 y17 y12 f12 c0 c1 HKO HP0 hge
                gi_wp2
                gi_loopw [21] (fun iv wr => ∃ (j n2 : Nat) (nv2 : Value) (ps2 : List (Int × Int)), j ≤ m ∧ iv = .int .i64 (j : Int) ∧ BL w B10 B11 B12 B13 B14 gw g b base mA all lo hi l2 h2 stop (.slice aa m ca) (.func (.func 57) #[] #[.pointer (some ⟨mA, 0, none⟩), .pointer (some ⟨mA + 1, 0, none⟩), .pointer (some ⟨mA + 2, 0, none⟩)]) B16 B17 B18 (.slice (some ⟨q9, 0, none⟩) wl.length wc) wl [D1] n0 ps0.length (acts.take 40) pre.length V.heap.size WW j n2 nv2 ps2 wr) (fun iv _ => m - (intOf iv).toNat)
                case atStart => exact ⟨0, _, _, _, Nat.zero_le _, rfl, HBS.out⟩
                case round =>
                  clear HBS
                  obtain ⟨j, n2, nv2, ps2, hj, rfl, hb⟩ := hrel
                  have HML : Hid ((acts.take 40).length = m ∧ m ≤ 40 ∧ m ≤ acts.length) := by
                    have h1 := HMM.out
                    refine ⟨?_, ?_, ?_⟩
                    · rw [List.length_take]
                      omega
                    · omega
                    · omega
                  have y10 := hb.mr.mw.acts.cell 0 _ rfl
                  by_cases hlt : j < m
                  · have hja : j < acts.length := Nat.lt_of_lt_of_le hlt HML.out.2.2
                    obtain ⟨qa, oa, rfl, -⟩ := HAX.out.at hb.mr.mw.bel j hja
                    obtain ⟨t, ht⟩ : ∃ t, t = acts[j] := ⟨_, rfl⟩
                    have HCA : Hid (∀ W : World, Below w.heap.size w W → W.cell? ⟨qa, oa + j * 5, none⟩ = some (.int .i64 t.at_) ∧ W.cell? ⟨qa, oa + j * 5 + 1, none⟩ = some (.int .i64 t.kd) ∧ W.cell? ⟨qa, oa + j * 5 + 2, none⟩ = some (.int .i64 t.ky) ∧ W.cell? ⟨qa, oa + j * 5 + 3, none⟩ = some (.int .i64 t.vl) ∧ W.cell? ⟨qa, oa + j * 5 + 4, none⟩ = some (.int .i64 t.sp)) := fun W hW => by
                      obtain ⟨q', o', e', h9⟩ := HAX.out.at hW j hja
                      simp only [Option.some.injEq, Addr.mk.injEq] at e'
                      obtain ⟨rfl, rfl, -⟩ := e'
                      rw [ht]
                      exact h9
                    have HT0 : Hid (j < (acts.take 40).length ∧ ∀ h : j < (acts.take 40).length, (acts.take 40)[j] = t) := ⟨by have := HML.out; omega, fun h => by rw [List.getElem_take, ht]⟩
                    have HWT0 : Hid ((Lit.int .i64 t.ky).wf = true ∧ (Lit.int .i64 t.vl).wf = true) := HAW.out t (by rw [ht]; exact List.getElem_mem hja)
                    clear ht
                    obtain ⟨at_, kd, ky, vl, sp⟩ := t
                    have HWT : Hid ((Lit.int .i64 ky).wf = true ∧ (Lit.int .i64 vl).wf = true) := HWT0.out
                    have HBN : Hid (n2 ≤ 600 ∧ ps2.length ≤ 600) := by
                      have h1 := hb.hn
                      have h2 := hb.hp
                      have h3 := actN_succ (acts.take 40) pre.length
                      have h4 := actN_le (acts.take 40) pre.length
                      have h6 := HML.out
                      have h5 : actE (acts.take 40) pre.length j ≤ 40 := Nat.le_trans (List.length_filter_le _ _) (Nat.le_trans (List.length_take_le _ _) (by omega))
                      have h7 := HN0.out
                      exact ⟨by omega, by omega⟩
                    have hwj : IntKind.i64.wrap ((j : Int) + 1) = (j : Int) + 1 := IntWalk.i64_in _ (by have := HML.out; omega)
                    have HSS : Hid (∀ (j' n3 : Nat) (nv3 : Value) (ps3 : List (Int × Int)) (W : World), BL w B10 B11 B12 B13 B14 gw g b base mA all lo hi l2 h2 stop (.slice (some ⟨qa, oa, none⟩) m ca) (.func (.func 57) #[] #[.pointer (some ⟨mA, 0, none⟩), .pointer (some ⟨mA + 1, 0, none⟩), .pointer (some ⟨mA + 2, 0, none⟩)]) B16 B17 B18 (.slice (some ⟨q9, 0, none⟩) wl.length wc) wl [D1] n0 ps0.length (acts.take 40) pre.length V.heap.size WW j' n3 nv3 ps3 W → W.cell? ⟨B10, 0, none⟩ = some (.slice (some ⟨qa, oa, none⟩) m ca) ∧ W.cell? ⟨B17, 0, none⟩ = some (.int .i64 (pre.length : Int)) ∧ W.cell? ⟨B13, 0, none⟩ = some (.pointer (some ⟨gw, 0, none⟩)) ∧ W.cell? ⟨B14, 0, none⟩ = some (.func (.func 57) #[] #[.pointer (some ⟨mA, 0, none⟩), .pointer (some ⟨mA + 1, 0, none⟩), .pointer (some ⟨mA + 2, 0, none⟩)]) ∧ W.cell? ⟨qa, oa + j * 5, none⟩ = some (.int .i64 at_) ∧ W.cell? ⟨qa, oa + j * 5 + 1, none⟩ = some (.int .i64 kd) ∧ W.cell? ⟨qa, oa + j * 5 + 2, none⟩ = some (.int .i64 ky) ∧ W.cell? ⟨qa, oa + j * 5 + 3, none⟩ = some (.int .i64 vl) ∧ W.cell? ⟨qa, oa + j * 5 + 4, none⟩ = some (.int .i64 sp)) := fun j' n3 nv3 ps3 W h => ⟨h.mr.mw.acts.cell 0 _ rfl, h.mr.ctr.cell 0 _ rfl, h.mr.mw.wp.cell 0 _ rfl, h.mr.mw.itb.cell 0 _ rfl, HCA.out W h.mr.mw.bel⟩
                    have hbz := hb.kept (W' := wr.drew) ⟨rfl, rfl, rfl, Nat.le_refl _, fun _ _ => rfl⟩
                    obtain ⟨Wz, hWz⟩ : ∃ x, x = wr.drew := ⟨_, rfl⟩
                    rw [← hWz] at hbz
                    have hS0 := HSS.out _ _ _ _ _ hbz
                    have HBZ : Hid (BL w B10 B11 B12 B13 B14 gw g b base mA all lo hi l2 h2 stop (.slice (some ⟨qa, oa, none⟩) m ca) (.func (.func 57) #[] #[.pointer (some ⟨mA, 0, none⟩), .pointer (some ⟨mA + 1, 0, none⟩), .pointer (some ⟨mA + 2, 0, none⟩)]) B16 B17 B18 (.slice (some ⟨q9, 0, none⟩) wl.length wc) wl [D1] n0 ps0.length (acts.take 40) pre.length V.heap.size WW j n2 nv2 ps2 Wz) := hbz
                    clear hb hbz HCA
                    by_cases he : at_ = (pre.length : Int)
                    · have he' : (at_ == (pre.length : Int)) = true := by simp; exact he
                      have HT : Hid (∃ _h : j < (acts.take 40).length, (acts.take 40)[j].at_ = (pre.length : Int)) := ⟨HT0.out.1, by rw [HT0.out.2 HT0.out.1]; exact he⟩
                      clear HT0 HWT0 he
                      gi_upto_region 26 with fail
                      refine regionIn_of (S := fun W : World => W.cell? ⟨B10, 0, none⟩ = some (.slice (some ⟨qa, oa, none⟩) m ca) ∧ W.cell? ⟨B17, 0, none⟩ = some (.int .i64 (pre.length : Int)) ∧ W.cell? ⟨B13, 0, none⟩ = some (.pointer (some ⟨gw, 0, none⟩)) ∧ W.cell? ⟨B14, 0, none⟩ = some (.func (.func 57) #[] #[.pointer (some ⟨mA, 0, none⟩), .pointer (some ⟨mA + 1, 0, none⟩), .pointer (some ⟨mA + 2, 0, none⟩)]) ∧ W.cell? ⟨qa, oa + j * 5, none⟩ = some (.int .i64 at_) ∧ W.cell? ⟨qa, oa + j * 5 + 1, none⟩ = some (.int .i64 kd) ∧ W.cell? ⟨qa, oa + j * 5 + 2, none⟩ = some (.int .i64 ky) ∧ W.cell? ⟨qa, oa + j * 5 + 3, none⟩ = some (.int .i64 vl) ∧ W.cell? ⟨qa, oa + j * 5 + 4, none⟩ = some (.int .i64 sp)) (by rintro ⟨_, _, h⟩; exact h) (by kernel_rfl) (by kernel_rfl) (by rw [← hWz]; exact hS0) (fun _ => ?_)
                      rw [← hWz]
                      clear hWz
                      refine zqk 0 rfl hS0 ?_
                      simp only [Act.put, zq1, zq2, zq3, zq4, zq5]
                      refine zqk 1 rfl hS0 ?_
                      simp only [Act.put, zq1, zq2, zq3, zq4, zq5, zq6]
                      refine zqk 2 rfl hS0 ?_
                      simp only [Act.put, zq1, zq2, zq3, zq4, zq5, zq6]
                      refine zqk 3 rfl hS0 ?_
                      simp only [Act.put, zq1, zq2, zq3, zq4, zq5, zq6]
                      refine zqk 4 rfl hS0 ?_
                      simp only [Act.put, zq1, zq2, zq3, zq4, zq5, zq6]
                      refine zqk 5 rfl hS0 ?_
                      simp only [Act.put, zq1, zq2, zq3, zq4, zq5, zq6]
                      refine zqk 6 rfl hS0 ?_
                      simp only [Act.put, zq1, zq2, zq3, zq4, zq5, zq6]
                      refine zqk 7 rfl hS0 ?_
                      simp only [Act.put, zq1, zq2, zq3, zq4, zq5, zq6]
                      refine zqk 8 rfl hS0 ?_
                      simp only [Act.put, zq1, zq2, zq3, zq4, zq5, zq6]
                      refine zqk 9 rfl hS0 ?_
                      simp only [Act.put, zq1, zq2, zq3, zq4, zq5, zq6]
                      refine zqk 10 rfl hS0 ?_
                      simp only [Act.put, zq1, zq2, zq3, zq4, zq5, zq6]
                      refine zqk 11 rfl hS0 ?_
                      simp only [Act.put, zq1, zq2, zq3, zq4, zq5, zq6]
                      refine zqk 12 rfl hS0 ?_
                      simp only [Act.put, zq1, zq2, zq3, zq4, zq5, zq6]
                      refine zqk 13 rfl hS0 ?_
                      simp only [Act.put, zq1, zq2, zq3, zq4, zq5, zq6]
                      refine zqr 14 rfl (fun K hK => ?_)
                      refine st_doesW rfl 103 104 108 rfl rfl rfl rfl (R := DoPost w.heap.size gw g b base all lo hi n2 ps2 Wz) (ixdoes_any w.heap.size gw g b base n2 mA all lo hi l2 h2 nv2 ps2 _ kd ky vl sp Wz HBZ.out.mr.mw.ws HBZ.out.mr.mw.bel.size (by have := HBN.out; omega) (by have := HBN.out; omega) HWT.out.1 HWT.out.2 HBZ.out.mr.mw.it HL2.out.1 HL2.out.2) ?_
                      rintro Wa hda
                      obtain ⟨n3, nv3, ps3, hb3⟩ := HBZ.out.does HVB.out.1 HT.out.1 HT.out.2 hda
                      have hSa := HSS.out _ _ _ _ _ hb3
                      have HB3 : Hid (BL w B10 B11 B12 B13 B14 gw g b base mA all lo hi l2 h2 stop (.slice (some ⟨qa, oa, none⟩) m ca) (.func (.func 57) #[] #[.pointer (some ⟨mA, 0, none⟩), .pointer (some ⟨mA + 1, 0, none⟩), .pointer (some ⟨mA + 2, 0, none⟩)]) B16 B17 B18 (.slice (some ⟨q9, 0, none⟩) wl.length wc) wl [D1] n0 ps0.length (acts.take 40) pre.length V.heap.size WW (j + 1) n3 nv3 ps3 Wa) := hb3
                      refine hK.out _ _ hSa fun _ => ?_
                      simp only [Act.put, zq1, zq2, zq3, zq4, zq5, zq6]
                      clear hK K hda hb3
                      refine zqk 15 rfl hSa ?_
                      simp only [Act.put, zq1, zq2, zq3, zq4, zq5, zq6]
                      refine zqk 16 rfl hSa ?_
                      simp only [Act.put, zq1, zq2, zq3, zq4, zq5, zq6]
                      refine wpAnyH_done (by kernel_rfl) ?_ _
                      clear hS0 hSa
                      gi_wp2
                      go_roundw
                      case rel => exact ⟨j + 1, n3, nv3, ps3, by omega, by go_num, HB3.out⟩
                      case measure => simp [intOf]; omega
                    · have he' : (at_ == (pre.length : Int)) = false := by simp; exact he
                      have HB3 := HBZ.out.skip HT0.out.1 (by rw [HT0.out.2 HT0.out.1]; exact he)
                      have HB4 : Hid (BL w B10 B11 B12 B13 B14 gw g b base mA all lo hi l2 h2 stop (.slice (some ⟨qa, oa, none⟩) m ca) (.func (.func 57) #[] #[.pointer (some ⟨mA, 0, none⟩), .pointer (some ⟨mA + 1, 0, none⟩), .pointer (some ⟨mA + 2, 0, none⟩)]) B16 B17 B18 (.slice (some ⟨q9, 0, none⟩) wl.length wc) wl [D1] n0 ps0.length (acts.take 40) pre.length V.heap.size WW (j + 1) n2 nv2 ps2 Wz) := HB3
                      clear HB3 HT0 HWT0 he
                      gi_upto_region 26 with fail
                      refine regionIn_of (S := fun W : World => W.cell? ⟨B10, 0, none⟩ = some (.slice (some ⟨qa, oa, none⟩) m ca) ∧ W.cell? ⟨B17, 0, none⟩ = some (.int .i64 (pre.length : Int)) ∧ W.cell? ⟨B13, 0, none⟩ = some (.pointer (some ⟨gw, 0, none⟩)) ∧ W.cell? ⟨B14, 0, none⟩ = some (.func (.func 57) #[] #[.pointer (some ⟨mA, 0, none⟩), .pointer (some ⟨mA + 1, 0, none⟩), .pointer (some ⟨mA + 2, 0, none⟩)]) ∧ W.cell? ⟨qa, oa + j * 5, none⟩ = some (.int .i64 at_) ∧ W.cell? ⟨qa, oa + j * 5 + 1, none⟩ = some (.int .i64 kd) ∧ W.cell? ⟨qa, oa + j * 5 + 2, none⟩ = some (.int .i64 ky) ∧ W.cell? ⟨qa, oa + j * 5 + 3, none⟩ = some (.int .i64 vl) ∧ W.cell? ⟨qa, oa + j * 5 + 4, none⟩ = some (.int .i64 sp)) (by rintro ⟨_, _, h⟩; exact h) (by kernel_rfl) (by kernel_rfl) (by rw [← hWz]; exact hS0) (fun _ => ?_)
                      rw [← hWz]
                      clear hWz
                      refine zqk 0 rfl hS0 ?_
                      simp only [Act.put, zq1, zq2, zq3, zq4, zq5]
                      refine zqk 1 rfl hS0 ?_
                      simp only [Act.put, zq1, zq2, zq3, zq4, zq5, zq6]
                      refine zqk 2 rfl hS0 ?_
                      simp only [Act.put, zq1, zq2, zq3, zq4, zq5, zq6]
                      refine zqk 3 rfl hS0 ?_
                      simp only [Act.put, zq1, zq2, zq3, zq4, zq5, zq6]
                      refine zqk 4 rfl hS0 ?_
                      simp only [Act.put, zq1, zq2, zq3, zq4, zq5, zq6]
                      refine zqk 5 rfl hS0 ?_
                      simp only [Act.put, zq1, zq2, zq3, zq4, zq5, zq6]
                      refine zqk 6 rfl hS0 ?_
                      simp only [Act.put, zq1, zq2, zq3, zq4, zq5, zq6]
                      refine zqk 7 rfl hS0 ?_
                      simp only [Act.put, zq1, zq2, zq3, zq4, zq5, zq6]
                      refine zqn 8 rfl hS0 ?_
                      simp only [Act.put, zq1, zq2, zq3, zq4, zq5, zq6]
                      refine zqn 9 rfl hS0 ?_
                      simp only [Act.put, zq1, zq2, zq3, zq4, zq5, zq6]
                      refine zqn 10 rfl hS0 ?_
                      simp only [Act.put, zq1, zq2, zq3, zq4, zq5, zq6]
                      refine zqn 11 rfl hS0 ?_
                      simp only [Act.put, zq1, zq2, zq3, zq4, zq5, zq6]
                      refine zqn 12 rfl hS0 ?_
                      simp only [Act.put, zq1, zq2, zq3, zq4, zq5, zq6]
                      refine zqn 13 rfl hS0 ?_
                      simp only [Act.put, zq1, zq2, zq3, zq4, zq5, zq6]
                      refine zqn 14 rfl hS0 ?_
                      simp only [Act.put, zq1, zq2, zq3, zq4, zq5, zq6]
                      refine zqn 15 rfl hS0 ?_
                      simp only [Act.put, zq1, zq2, zq3, zq4, zq5, zq6]
                      refine zqk 16 rfl hS0 ?_
                      simp only [Act.put, zq1, zq2, zq3, zq4, zq5, zq6]
                      refine wpAnyH_done (by kernel_rfl) ?_ _
                      clear hS0
                      gi_wp2
                      go_roundw
                      case rel => exact ⟨j + 1, n2, nv2, ps2, by omega, by go_num, HB4.out⟩
                      case measure => simp [intOf]; omega
                  · have hjm : m = j := by omega
                    subst hjm
                    have HBM : Hid (BL w B10 B11 B12 B13 B14 gw g b base mA all lo hi l2 h2 stop (.slice aa m ca) (.func (.func 57) #[] #[.pointer (some ⟨mA, 0, none⟩), .pointer (some ⟨mA + 1, 0, none⟩), .pointer (some ⟨mA + 2, 0, none⟩)]) B16 B17 B18 (.slice (some ⟨q9, 0, none⟩) wl.length wc) wl [D1] n0 ps0.length (acts.take 40) pre.length V.heap.size WW (acts.take 40).length n2 nv2 ps2 wr) := by
                      rw [HML.out.1]
                      exact hb
                    have T1 := hb.mr.count ((pre.length : Int) + 1)
                    have y17 := hb.mr.ctr.cell 0 _ rfl
                    have f17 := hb.mr.ctr.free 0
                    have z17 := T1.ctr.cell 0 _ rfl
                    have z11 := T1.mw.stp.cell 0 _ rfl
                    have z18 := T1.lft.cell 0 _ rfl
                    have g18 := T1.lft.free 0
                    have HLS : Hid (KeepsFrom V.heap.size WW ((wr.setCell ⟨B17, 0, none⟩ (.int .i64 ((pre.length : Int) + 1))).setCell ⟨B18, 0, none⟩ (.bool true)) ∧ IXW w B10 B11 B12 B13 B14 gw g b base mA all lo hi l2 h2 stop (.slice aa m ca) (.func (.func 57) #[] #[.pointer (some ⟨mA, 0, none⟩), .pointer (some ⟨mA + 1, 0, none⟩), .pointer (some ⟨mA + 2, 0, none⟩)]) B16 B17 B18 (.slice (some ⟨q9, 0, none⟩) wl.length wc) wl [D1] n0 ps0.length (acts.take 40) (.exit 2) (pre ++ [⟨(k0, v0), hwk, hwv⟩]) ((wr.setCell ⟨B17, 0, none⟩ (.int .i64 ((pre.length : Int) + 1))).setCell ⟨B18, 0, none⟩ (.bool true))) := HBM.out.left pre rfl _
                    have HNX : Hid (KeepsFrom V.heap.size WW (wr.setCell ⟨B17, 0, none⟩ (.int .i64 ((pre.length : Int) + 1))) ∧ Kv.KpV (fun q => q = B17) 80 b WW (wr.setCell ⟨B17, 0, none⟩ (.int .i64 ((pre.length : Int) + 1))) ∧ IW w B10 B11 B12 B13 B14 gw g b base mA all lo hi l2 h2 stop (.slice aa m ca) (.func (.func 57) #[] #[.pointer (some ⟨mA, 0, none⟩), .pointer (some ⟨mA + 1, 0, none⟩), .pointer (some ⟨mA + 2, 0, none⟩)]) B16 B17 B18 (.slice (some ⟨q9, 0, none⟩) wl.length wc) wl [D1] n0 ps0.length (acts.take 40) (pre ++ [⟨(k0, v0), hwk, hwv⟩]) (wr.setCell ⟨B17, 0, none⟩ (.int .i64 ((pre.length : Int) + 1)))) := HBM.out.next pre rfl _
                    clear hb T1 HBM hlt
                    by_cases hst : (pre.length : Int) + 1 = stop
                    · have hst' : ((pre.length : Int) + 1 == stop) = true := by simp; exact hst
                      clear hst
                      gi_wp2
                      exact HLS.out
                    · have hst' : ((pre.length : Int) + 1 == stop) = false := by simp; exact hst
                      clear hst
                      gi_wp2
                      exact HNX.out
              · have hv' : (v0 == v) = false := by simp; exact hv
                gi_wp2
                exact ⟨HKO.out, .inl ⟨rfl, pre, _, rfl, by rw [HP0.out]; intro e; simp at e; exact hv e⟩⟩
            · have hk' : (k0 == k) = false := by simp; exact hk
              gi_wp2
              exact ⟨HKO.out, .inl ⟨rfl, pre, _, rfl, by rw [HP0.out]; intro e; simp at e; exact hk e.1⟩⟩
          case both2 =>
            rintro D2 W hD h9 hK
            obtain ⟨cnt, lf, n1, nv1, ps1, hlf, hcnt, hn1, hps1, hs⟩ := IW_both h9
            have hsd : MR w B10 B11 B12 B13 B14 gw g b base mA all lo hi l2 h2 stop (.slice aa m ca) (.func (.func 57) #[] #[.pointer (some ⟨mA, 0, none⟩), .pointer (some ⟨mA + 1, 0, none⟩), .pointer (some ⟨mA + 2, 0, none⟩)]) B16 B17 B18 (.slice wa wl.length wc) wl (cnt : Int) lf [D2, D1] n1 nv1 ps1 W := ⟨hs.mw, hs.wbx, hs.row, hs.ctr, hs.lft, hs.nc, hs.r17, hs.r18, hs.ne, fun D hD9 => by
              rcases List.mem_cons.1 hD9 with rfl | h
              · exact hK
              · exact hs.dm D h⟩
            have HDO2 : Hid (w.heap.size ≤ D2 ∧ ∀ D ∈ ([D1] : List Nat), D < D2) := ⟨Nat.le_trans HVB.out.2.1 hD, fun D h => Nat.lt_of_lt_of_le (HVB.out.2.2 D h) hD⟩
            have HB1 : Hid (n1 ≤ 380 ∧ ps1.length ≤ 380) := by
              have h1 := HN0.out
              have h2 : (acts.take 40).length ≤ 40 := by
                rw [List.length_take]
                exact Nat.min_le_left _ _
              exact ⟨by omega, by omega⟩
            have HCL : Hid (lf = true ∨ cnt = wl.length) := hlf
            have hsz := hsd.kept (W' := W.drew) ⟨rfl, rfl, rfl, Nat.le_refl _, fun _ _ => rfl⟩
            obtain ⟨Wz, hWz⟩ : ∃ x, x = W.drew := ⟨_, rfl⟩
            rw [← hWz] at hsz
            have HRZ : Hid (MR w B10 B11 B12 B13 B14 gw g b base mA all lo hi l2 h2 stop (.slice aa m ca) (.func (.func 57) #[] #[.pointer (some ⟨mA, 0, none⟩), .pointer (some ⟨mA + 1, 0, none⟩), .pointer (some ⟨mA + 2, 0, none⟩)]) B16 B17 B18 (.slice wa wl.length wc) wl (cnt : Int) lf [D2, D1] n1 nv1 ps1 Wz) := hsz
            clear hs hsd hsz h9 hK hD hlf hcnt hn1 hps1 HN0 HS HDs HR HWL HGM HVB
            gi_upto_region 31 with fail
            rename_i K6 hK6
            generalize hA6 : Act.mk _ _ = A6
            have HRST : Hid (∀ (x117 x118 x119 x120 x121 x122 x123 x124 x125 x126 x127 x128 x129 x130 x131 x132 x133 x134 x135 : Value) (X2 : World), MR w B10 B11 B12 B13 B14 gw g b base mA all lo hi l2 h2 stop (.slice aa m ca) (.func (.func 57) #[] #[.pointer (some ⟨mA, 0, none⟩), .pointer (some ⟨mA + 1, 0, none⟩), .pointer (some ⟨mA + 2, 0, none⟩)]) B16 B17 B18 (.slice wa wl.length wc) wl (cnt : Int) lf [D2, D1] n1 nv1 ps1 X2 → K6 ((((((((((((((((((((A6.put (some 117) x117).put (some 118) x118).put (some 119) x119).put (some 120) x120).put (some 121) x121).put (some 122) x122).put (some 123) x123).put (some 124) x124).put (some 125) x125).put (some 126) x126).put (some 127) x127).put (some 128) x128).put (some 129) x129).put (some 130) x130).put (some 131) x131).put (some 132) x132).put (some 133) x133).put (some 134) x134).put (some 135) x135).put (some 136) (.bool false)) X2) := fun x117 x118 x119 x120 x121 x122 x123 x124 x125 x126 x127 x128 x129 x130 x131 x132 x133 x134 x135 X2 hx => by
              rw [← hA6]
              refine hK6 _ _ ?_
              simp only [Act.put, zq1, zq2, zq3]
              have HSr : Hid (∃ (n : Nat) (nv : Value) (ps : List (Int × Int)), n ≤ 380 ∧ ps.length ≤ 380 ∧ MW w B10 B11 B12 B13 B14 gw g b base mA all lo hi l2 h2 stop (.slice aa m ca) (.func (.func 57) #[] #[.pointer (some ⟨mA, 0, none⟩), .pointer (some ⟨mA + 1, 0, none⟩), .pointer (some ⟨mA + 2, 0, none⟩)]) n nv ps X2 ∧ ∀ D ∈ ([D2, D1] : List Nat), X2.heap[D]? = some (.deferred (some []))) := ⟨_, _, _, HB1.out.1, HB1.out.2, hx.mw, hx.dm⟩
              clear hA6 hx HRZ hWz HB1 HCL HLW
              gi_wp2
              rw [roundsIn_succ]
              obtain ⟨n0, nv0, ps0, hn0, hp0, h8, d8⟩ := HSr.out
              have HS : Hid (MW w B10 B11 B12 B13 B14 gw g b base mA all lo hi l2 h2 stop (.slice aa m ca) (.func (.func 57) #[] #[.pointer (some ⟨mA, 0, none⟩), .pointer (some ⟨mA + 1, 0, none⟩), .pointer (some ⟨mA + 2, 0, none⟩)]) n0 nv0 ps0 X2) := h8
              have HDs : Hid (∀ D ∈ ([D2, D1] : List Nat), X2.heap[D]? = some (.deferred (some []))) := d8
              have HN0 : Hid (n0 ≤ 380 ∧ ps0.length ≤ 380) := ⟨hn0, hp0⟩
              have y13 := h8.wp.cell 0 _ rfl
              clear h8 d8 hn0 hp0 HSr
              gi_wp2
              refine ⟨trivial, (callsIn_wide.2 (HTO.out _ _ _ X2 HS.out.ws (by have := HN0.out; omega))).mono ?_⟩
              rintro e U ⟨wv, rfl, r2, u2⟩
              obtain ⟨wa, wc, e2, -⟩ := Mg.row_shape r2
              subst e2
              have HMS : Hid (∀ (V : World) (B16 B17 B18 : Nat), V = ((U.alloc (.cells #[.slice wa (wtold all lo hi ps0).length wc] 55)).alloc (.cells #[.int .i64 0] 3)).alloc (.cells #[.bool false] 4) → B16 = U.heap.size → B17 = U.heap.size + 1 → B18 = U.heap.size + 2 → MR w B10 B11 B12 B13 B14 gw g b base mA all lo hi l2 h2 stop (.slice aa m ca) (.func (.func 57) #[] #[.pointer (some ⟨mA, 0, none⟩), .pointer (some ⟨mA + 1, 0, none⟩), .pointer (some ⟨mA + 2, 0, none⟩)]) B16 B17 B18 (.slice wa (wtold all lo hi ps0).length wc) (wtold all lo hi ps0) 0 false [D2, D1] n0 nv0 ps0 V) := fun V B16 B17 B18 e e16 e17 e18 => MR.start HS.out u2 r2 HDs.out e e16 e17 e18
              clear r2 u2 y13
              gi_upto_region 18 with fail
              obtain ⟨V, hV⟩ : ∃ V, V = ((U.alloc (.cells #[.slice wa (wtold all lo hi ps0).length wc] 55)).alloc (.cells #[.int .i64 0] 3)).alloc (.cells #[.bool false] 4) := ⟨_, rfl⟩
              rw [← hV]
              obtain ⟨B18, hB18⟩ : ∃ x, x = U.heap.size + 2 := ⟨_, rfl⟩
              obtain ⟨B17, hB17⟩ : ∃ x, x = U.heap.size + 1 := ⟨_, rfl⟩
              obtain ⟨B16, hB16⟩ : ∃ x, x = U.heap.size := ⟨_, rfl⟩
              rw [← hB18, ← hB17, ← hB16]
              have HR1 := HMS.out V B16 B17 B18 hV hB16 hB17 hB18
              have z14 := HR1.mw.itb.cell 0 _ rfl
              clear hV hB16 hB17 hB18 HMS
              have HR : Hid (MR w B10 B11 B12 B13 B14 gw g b base mA all lo hi l2 h2 stop (.slice aa m ca) (.func (.func 57) #[] #[.pointer (some ⟨mA, 0, none⟩), .pointer (some ⟨mA + 1, 0, none⟩), .pointer (some ⟨mA + 2, 0, none⟩)]) B16 B17 B18 (.slice wa (wtold all lo hi ps0).length wc) (wtold all lo hi ps0) 0 false [D2, D1] n0 nv0 ps0 V) := HR1
              have HWL : Hid (wtold all lo hi ps0 = prs (within (Ix.gml ps0) l2 h2)) := by
                rw [HL2.out.1, HL2.out.2]
                exact rfl
              have HGM : Hid ((Ix.gml ps0).length ≤ 10000000) := Nat.le_trans (Ix.gml_fine ps0).len (by have := HN0.out; omega)
              have HLW : Hid ((wtold all lo hi ps0).length ≤ 900000) := by
                have h1 := Ix.within_total (Ix.gml ps0) (if all then -9223372036854775808 else lo) (if all then 9223372036854775807 else hi)
                rw [(Ix.gml_fine ps0).tot] at h1
                have h2 := HN0.out
                show (wtold all lo hi ps0).length ≤ _
                unfold wtold
                rw [Ix.prs_len]
                omega
              clear HR1
              gi_wp2
              clear z14
              generalize wtold all lo hi ps0 = wl at HR HWL HLW ⊢
              have HVB : Hid (b < V.heap.size ∧ w.heap.size ≤ V.heap.size ∧ ∀ D ∈ ([D2, D1] : List Nat), D < V.heap.size) := ⟨HR.out.mw.ws.mi.blt.2, HR.out.mw.bel.size, fun D hD => (Array.getElem?_eq_some_iff.1 (HR.out.dm D hD)).1⟩
              refine rangeG_both rfl (by omega) (gf := 57) (lb := #[.pointer (some ⟨mA, 0, none⟩), .pointer (some ⟨mA + 1, 0, none⟩), .pointer (some ⟨mA + 2, 0, none⟩)]) rfl trivial (enters_of Try.func57 (by kernel_rfl) rfl) (encs := encsP) (Kp := Kv.KpV (fun k => k = B17) 80 b) (S := fun xs : List PI => xs.map (·.1) = wl) (Sp := fun pre : List PI => pre.map (fun q : PI => q.1) <+: wl) (N := wl.length) (w0 := V) ?sq3 Kv.KpV.trans (fun W l o o' hl h1 h2 _ => Kv.kpV_b W l o o' (by have := HVB.out.1; omega) h1 h2) (Below.refl _ _) (fun _ => rfl) (IW w B10 B11 B12 B13 B14 gw g b base mA all lo hi l2 h2 stop (.slice aa m ca) (.func (.func 57) #[] #[.pointer (some ⟨mA, 0, none⟩), .pointer (some ⟨mA + 1, 0, none⟩), .pointer (some ⟨mA + 2, 0, none⟩)]) B16 B17 B18 (.slice wa wl.length wc) wl [D2, D1] n0 ps0.length (acts.take 40)) (IXW w B10 B11 B12 B13 B14 gw g b base mA all lo hi l2 h2 stop (.slice aa m ca) (.func (.func 57) #[] #[.pointer (some ⟨mA, 0, none⟩), .pointer (some ⟨mA + 1, 0, none⟩), .pointer (some ⟨mA + 2, 0, none⟩)]) B16 B17 B18 (.slice wa wl.length wc) wl [D2, D1] n0 ps0.length (acts.take 40)) (IW_own HVB.out.1 HVB.out.2.1 HVB.out.2.2) (IXW_own HVB.out.1 HVB.out.2.1 HVB.out.2.2) ?hz3 ?a3 ?as3 ?bo3 (fun c pre W h1 h2 => IXW_exit h1 h2) ?both3
              case as3 =>
                intro l x W K hK
                unfold encsP
                gi_wp2
                exact hK
              case hz3 => exact ⟨_, _, _, Nat.le_add_right _ _, Nat.le_add_right _ _, HR.out⟩
              case sq3 =>
                intro l J Jx W hW hJ _ hY h0
                have hs := HR.out.kept hW
                have h9 := Kv.range1_in 4 l (fun k => k = B17) 80 g b base n0 (Ix.gml ps0) l2 h2 mA (mA + 1) (mA + 2) W hs.mw.ws.mi HGM.out (hs.mw.it.1.cell 0 _ rfl) (hs.mw.it.2.1.cell 0 _ rfl) (hs.mw.it.2.2.cell 0 _ rfl) (fun q hq => by
                  subst hq
                  exact ⟨hs.ctr.lt, hs.nc⟩) (by decide) J Jx hJ (by rw [← HWL.out]; exact hY) h0
                rw [← HWL.out] at h9
                exact h9
              case bo3 =>
                rintro l pre ⟨⟨k, v⟩, hwk, hwv⟩ WW ⟨n1, nv1, ps1, hn1, hps1, hs⟩ hlen
                obtain ⟨q9, c9, he9, c0, c1⟩ := hs.at pre.length hlen
                simp only [Value.slice.injEq] at he9
                obtain ⟨rfl, -, rfl⟩ := he9
                obtain ⟨p0, hp0⟩ : ∃ p0, p0 = wl[pre.length] := ⟨_, rfl⟩
                rw [← hp0] at c0 c1
                have HP0 : Hid (wl[pre.length]? = some p0) := by
                  rw [hp0]
                  exact List.getElem?_eq_getElem hlen
                obtain ⟨k0, v0⟩ := p0
                simp only at c0 c1
                have hpl : (pre.length : Int) ≤ 900000 := by have := HLW.out; omega
                have hwp : IntKind.i64.wrap ((pre.length : Int) + 1) = (pre.length : Int) + 1 := IntWalk.i64_in _ (by omega)
                have hge : ((wl.length : Int) ≤ (pre.length : Int)) = False := by simp; omega
                have y16 := hs.wbx.cell 0 _ rfl
                have y17 := hs.ctr.cell 0 _ rfl
                have y12 := hs.mw.res.cell 0 _ rfl
                have f12 := hs.mw.res.free 0
                have HBS : Hid (BL w B10 B11 B12 B13 B14 gw g b base mA all lo hi l2 h2 stop (.slice aa m ca) (.func (.func 57) #[] #[.pointer (some ⟨mA, 0, none⟩), .pointer (some ⟨mA + 1, 0, none⟩), .pointer (some ⟨mA + 2, 0, none⟩)]) B16 B17 B18 (.slice (some ⟨q9, 0, none⟩) wl.length wc) wl [D2, D1] n0 ps0.length (acts.take 40) pre.length V.heap.size WW 0 n1 nv1 ps1 WW) := BL.start hn1 hps1 hs
                have HKO : Hid (KeepsFrom V.heap.size WW (WW.setCell ⟨B12, 0, none⟩ (.bool false))) := (KeepsOthers.setCell _ _ _).from _
                clear hs hp0 hn1 hps1
                by_cases hk : k0 = k
                · subst hk
                  by_cases hv : v0 = v
                  · subst hv
                    gi_upto_region 23 with fail
                    clear y16 y17 y12 f12 c0 c1 HKO HP0 hge
                    gi_wp2
                    gi_loopw [21] (fun iv wr => ∃ (j n2 : Nat) (nv2 : Value) (ps2 : List (Int × Int)), j ≤ m ∧ iv = .int .i64 (j : Int) ∧ BL w B10 B11 B12 B13 B14 gw g b base mA all lo hi l2 h2 stop (.slice aa m ca) (.func (.func 57) #[] #[.pointer (some ⟨mA, 0, none⟩), .pointer (some ⟨mA + 1, 0, none⟩), .pointer (some ⟨mA + 2, 0, none⟩)]) B16 B17 B18 (.slice (some ⟨q9, 0, none⟩) wl.length wc) wl [D2, D1] n0 ps0.length (acts.take 40) pre.length V.heap.size WW j n2 nv2 ps2 wr) (fun iv _ => m - (intOf iv).toNat)
                    case atStart => exact ⟨0, _, _, _, Nat.zero_le _, rfl, HBS.out⟩
                    case round =>
                      clear HBS
                      obtain ⟨j, n2, nv2, ps2, hj, rfl, hb⟩ := hrel
                      have HML : Hid ((acts.take 40).length = m ∧ m ≤ 40 ∧ m ≤ acts.length) := by
                        have h1 := HMM.out
                        refine ⟨?_, ?_, ?_⟩
                        · rw [List.length_take]
                          omega
                        · omega
                        · omega
                      have y10 := hb.mr.mw.acts.cell 0 _ rfl
                      by_cases hlt : j < m
                      · have hja : j < acts.length := Nat.lt_of_lt_of_le hlt HML.out.2.2
                        obtain ⟨qa, oa, rfl, -⟩ := HAX.out.at hb.mr.mw.bel j hja
                        obtain ⟨t, ht⟩ : ∃ t, t = acts[j] := ⟨_, rfl⟩
                        have HCA : Hid (∀ W : World, Below w.heap.size w W → W.cell? ⟨qa, oa + j * 5, none⟩ = some (.int .i64 t.at_) ∧ W.cell? ⟨qa, oa + j * 5 + 1, none⟩ = some (.int .i64 t.kd) ∧ W.cell? ⟨qa, oa + j * 5 + 2, none⟩ = some (.int .i64 t.ky) ∧ W.cell? ⟨qa, oa + j * 5 + 3, none⟩ = some (.int .i64 t.vl) ∧ W.cell? ⟨qa, oa + j * 5 + 4, none⟩ = some (.int .i64 t.sp)) := fun W hW => by
                          obtain ⟨q', o', e', h9⟩ := HAX.out.at hW j hja
                          simp only [Option.some.injEq, Addr.mk.injEq] at e'
                          obtain ⟨rfl, rfl, -⟩ := e'
                          rw [ht]
                          exact h9
                        have HT0 : Hid (j < (acts.take 40).length ∧ ∀ h : j < (acts.take 40).length, (acts.take 40)[j] = t) := ⟨by have := HML.out; omega, fun h => by rw [List.getElem_take, ht]⟩
                        have HWT0 : Hid ((Lit.int .i64 t.ky).wf = true ∧ (Lit.int .i64 t.vl).wf = true) := HAW.out t (by rw [ht]; exact List.getElem_mem hja)
                        clear ht
                        obtain ⟨at_, kd, ky, vl, sp⟩ := t
                        have HWT : Hid ((Lit.int .i64 ky).wf = true ∧ (Lit.int .i64 vl).wf = true) := HWT0.out
                        have HBN : Hid (n2 ≤ 600 ∧ ps2.length ≤ 600) := by
                          have h1 := hb.hn
                          have h2 := hb.hp
                          have h3 := actN_succ (acts.take 40) pre.length
                          have h4 := actN_le (acts.take 40) pre.length
                          have h6 := HML.out
                          have h5 : actE (acts.take 40) pre.length j ≤ 40 := Nat.le_trans (List.length_filter_le _ _) (Nat.le_trans (List.length_take_le _ _) (by omega))
                          have h7 := HN0.out
                          exact ⟨by omega, by omega⟩
                        have hwj : IntKind.i64.wrap ((j : Int) + 1) = (j : Int) + 1 := IntWalk.i64_in _ (by have := HML.out; omega)
                        have HSS : Hid (∀ (j' n3 : Nat) (nv3 : Value) (ps3 : List (Int × Int)) (W : World), BL w B10 B11 B12 B13 B14 gw g b base mA all lo hi l2 h2 stop (.slice (some ⟨qa, oa, none⟩) m ca) (.func (.func 57) #[] #[.pointer (some ⟨mA, 0, none⟩), .pointer (some ⟨mA + 1, 0, none⟩), .pointer (some ⟨mA + 2, 0, none⟩)]) B16 B17 B18 (.slice (some ⟨q9, 0, none⟩) wl.length wc) wl [D2, D1] n0 ps0.length (acts.take 40) pre.length V.heap.size WW j' n3 nv3 ps3 W → W.cell? ⟨B10, 0, none⟩ = some (.slice (some ⟨qa, oa, none⟩) m ca) ∧ W.cell? ⟨B17, 0, none⟩ = some (.int .i64 (pre.length : Int)) ∧ W.cell? ⟨B13, 0, none⟩ = some (.pointer (some ⟨gw, 0, none⟩)) ∧ W.cell? ⟨B14, 0, none⟩ = some (.func (.func 57) #[] #[.pointer (some ⟨mA, 0, none⟩), .pointer (some ⟨mA + 1, 0, none⟩), .pointer (some ⟨mA + 2, 0, none⟩)]) ∧ W.cell? ⟨qa, oa + j * 5, none⟩ = some (.int .i64 at_) ∧ W.cell? ⟨qa, oa + j * 5 + 1, none⟩ = some (.int .i64 kd) ∧ W.cell? ⟨qa, oa + j * 5 + 2, none⟩ = some (.int .i64 ky) ∧ W.cell? ⟨qa, oa + j * 5 + 3, none⟩ = some (.int .i64 vl) ∧ W.cell? ⟨qa, oa + j * 5 + 4, none⟩ = some (.int .i64 sp)) := fun j' n3 nv3 ps3 W h => ⟨h.mr.mw.acts.cell 0 _ rfl, h.mr.ctr.cell 0 _ rfl, h.mr.mw.wp.cell 0 _ rfl, h.mr.mw.itb.cell 0 _ rfl, HCA.out W h.mr.mw.bel⟩
                        have hbz := hb.kept (W' := wr.drew) ⟨rfl, rfl, rfl, Nat.le_refl _, fun _ _ => rfl⟩
                        obtain ⟨Wz, hWz⟩ : ∃ x, x = wr.drew := ⟨_, rfl⟩
                        rw [← hWz] at hbz
                        have hS0 := HSS.out _ _ _ _ _ hbz
                        have HBZ : Hid (BL w B10 B11 B12 B13 B14 gw g b base mA all lo hi l2 h2 stop (.slice (some ⟨qa, oa, none⟩) m ca) (.func (.func 57) #[] #[.pointer (some ⟨mA, 0, none⟩), .pointer (some ⟨mA + 1, 0, none⟩), .pointer (some ⟨mA + 2, 0, none⟩)]) B16 B17 B18 (.slice (some ⟨q9, 0, none⟩) wl.length wc) wl [D2, D1] n0 ps0.length (acts.take 40) pre.length V.heap.size WW j n2 nv2 ps2 Wz) := hbz
                        clear hb hbz HCA
                        by_cases he : at_ = (pre.length : Int)
                        · have he' : (at_ == (pre.length : Int)) = true := by simp; exact he
                          have HT : Hid (∃ _h : j < (acts.take 40).length, (acts.take 40)[j].at_ = (pre.length : Int)) := ⟨HT0.out.1, by rw [HT0.out.2 HT0.out.1]; exact he⟩
                          clear HT0 HWT0 he
                          gi_upto_region 26 with fail
                          refine regionIn_of (S := fun W : World => W.cell? ⟨B10, 0, none⟩ = some (.slice (some ⟨qa, oa, none⟩) m ca) ∧ W.cell? ⟨B17, 0, none⟩ = some (.int .i64 (pre.length : Int)) ∧ W.cell? ⟨B13, 0, none⟩ = some (.pointer (some ⟨gw, 0, none⟩)) ∧ W.cell? ⟨B14, 0, none⟩ = some (.func (.func 57) #[] #[.pointer (some ⟨mA, 0, none⟩), .pointer (some ⟨mA + 1, 0, none⟩), .pointer (some ⟨mA + 2, 0, none⟩)]) ∧ W.cell? ⟨qa, oa + j * 5, none⟩ = some (.int .i64 at_) ∧ W.cell? ⟨qa, oa + j * 5 + 1, none⟩ = some (.int .i64 kd) ∧ W.cell? ⟨qa, oa + j * 5 + 2, none⟩ = some (.int .i64 ky) ∧ W.cell? ⟨qa, oa + j * 5 + 3, none⟩ = some (.int .i64 vl) ∧ W.cell? ⟨qa, oa + j * 5 + 4, none⟩ = some (.int .i64 sp)) (by rintro ⟨_, _, h⟩; exact h) (by kernel_rfl) (by kernel_rfl) (by rw [← hWz]; exact hS0) (fun _ => ?_)
                          rw [← hWz]
                          clear hWz
                          refine zqk 0 rfl hS0 ?_
                          simp only [Act.put, zq1, zq2, zq3, zq4, zq5]
                          refine zqk 1 rfl hS0 ?_
                          simp only [Act.put, zq1, zq2, zq3, zq4, zq5, zq6]
                          refine zqk 2 rfl hS0 ?_
                          simp only [Act.put, zq1, zq2, zq3, zq4, zq5, zq6]
                          refine zqk 3 rfl hS0 ?_
                          simp only [Act.put, zq1, zq2, zq3, zq4, zq5, zq6]
                          refine zqk 4 rfl hS0 ?_
                          simp only [Act.put, zq1, zq2, zq3, zq4, zq5, zq6]
                          refine zqk 5 rfl hS0 ?_
                          simp only [Act.put, zq1, zq2, zq3, zq4, zq5, zq6]
                          refine zqk 6 rfl hS0 ?_
                          simp only [Act.put, zq1, zq2, zq3, zq4, zq5, zq6]
                          refine zqk 7 rfl hS0 ?_
                          simp only [Act.put, zq1, zq2, zq3, zq4, zq5, zq6]
                          refine zqk 8 rfl hS0 ?_
                          simp only [Act.put, zq1, zq2, zq3, zq4, zq5, zq6]
                          refine zqk 9 rfl hS0 ?_
                          simp only [Act.put, zq1, zq2, zq3, zq4, zq5, zq6]
                          refine zqk 10 rfl hS0 ?_
                          simp only [Act.put, zq1, zq2, zq3, zq4, zq5, zq6]
                          refine zqk 11 rfl hS0 ?_
                          simp only [Act.put, zq1, zq2, zq3, zq4, zq5, zq6]
                          refine zqk 12 rfl hS0 ?_
                          simp only [Act.put, zq1, zq2, zq3, zq4, zq5, zq6]
                          refine zqk 13 rfl hS0 ?_
                          simp only [Act.put, zq1, zq2, zq3, zq4, zq5, zq6]
                          refine zqr 14 rfl (fun K hK => ?_)
                          refine st_doesW rfl 103 104 108 rfl rfl rfl rfl (R := DoPost w.heap.size gw g b base all lo hi n2 ps2 Wz) (ixdoes_any w.heap.size gw g b base n2 mA all lo hi l2 h2 nv2 ps2 _ kd ky vl sp Wz HBZ.out.mr.mw.ws HBZ.out.mr.mw.bel.size (by have := HBN.out; omega) (by have := HBN.out; omega) HWT.out.1 HWT.out.2 HBZ.out.mr.mw.it HL2.out.1 HL2.out.2) ?_
                          rintro Wa hda
                          obtain ⟨n3, nv3, ps3, hb3⟩ := HBZ.out.does HVB.out.1 HT.out.1 HT.out.2 hda
                          have hSa := HSS.out _ _ _ _ _ hb3
                          have HB3 : Hid (BL w B10 B11 B12 B13 B14 gw g b base mA all lo hi l2 h2 stop (.slice (some ⟨qa, oa, none⟩) m ca) (.func (.func 57) #[] #[.pointer (some ⟨mA, 0, none⟩), .pointer (some ⟨mA + 1, 0, none⟩), .pointer (some ⟨mA + 2, 0, none⟩)]) B16 B17 B18 (.slice (some ⟨q9, 0, none⟩) wl.length wc) wl [D2, D1] n0 ps0.length (acts.take 40) pre.length V.heap.size WW (j + 1) n3 nv3 ps3 Wa) := hb3
                          refine hK.out _ _ hSa fun _ => ?_
                          simp only [Act.put, zq1, zq2, zq3, zq4, zq5, zq6]
                          clear hK K hda hb3
                          refine zqk 15 rfl hSa ?_
                          simp only [Act.put, zq1, zq2, zq3, zq4, zq5, zq6]
                          refine zqk 16 rfl hSa ?_
                          simp only [Act.put, zq1, zq2, zq3, zq4, zq5, zq6]
                          refine wpAnyH_done (by kernel_rfl) ?_ _
                          clear hS0 hSa
                          gi_wp2
                          go_roundw
                          case rel => exact ⟨j + 1, n3, nv3, ps3, by omega, by go_num, HB3.out⟩
                          case measure => simp [intOf]; omega
                        · have he' : (at_ == (pre.length : Int)) = false := by simp; exact he
                          have HB3 := HBZ.out.skip HT0.out.1 (by rw [HT0.out.2 HT0.out.1]; exact he)
                          have HB4 : Hid (BL w B10 B11 B12 B13 B14 gw g b base mA all lo hi l2 h2 stop (.slice (some ⟨qa, oa, none⟩) m ca) (.func (.func 57) #[] #[.pointer (some ⟨mA, 0, none⟩), .pointer (some ⟨mA + 1, 0, none⟩), .pointer (some ⟨mA + 2, 0, none⟩)]) B16 B17 B18 (.slice (some ⟨q9, 0, none⟩) wl.length wc) wl [D2, D1] n0 ps0.length (acts.take 40) pre.length V.heap.size WW (j + 1) n2 nv2 ps2 Wz) := HB3
                          clear HB3 HT0 HWT0 he
                          gi_upto_region 26 with fail
                          refine regionIn_of (S := fun W : World => W.cell? ⟨B10, 0, none⟩ = some (.slice (some ⟨qa, oa, none⟩) m ca) ∧ W.cell? ⟨B17, 0, none⟩ = some (.int .i64 (pre.length : Int)) ∧ W.cell? ⟨B13, 0, none⟩ = some (.pointer (some ⟨gw, 0, none⟩)) ∧ W.cell? ⟨B14, 0, none⟩ = some (.func (.func 57) #[] #[.pointer (some ⟨mA, 0, none⟩), .pointer (some ⟨mA + 1, 0, none⟩), .pointer (some ⟨mA + 2, 0, none⟩)]) ∧ W.cell? ⟨qa, oa + j * 5, none⟩ = some (.int .i64 at_) ∧ W.cell? ⟨qa, oa + j * 5 + 1, none⟩ = some (.int .i64 kd) ∧ W.cell? ⟨qa, oa + j * 5 + 2, none⟩ = some (.int .i64 ky) ∧ W.cell? ⟨qa, oa + j * 5 + 3, none⟩ = some (.int .i64 vl) ∧ W.cell? ⟨qa, oa + j * 5 + 4, none⟩ = some (.int .i64 sp)) (by rintro ⟨_, _, h⟩; exact h) (by kernel_rfl) (by kernel_rfl) (by rw [← hWz]; exact hS0) (fun _ => ?_)
                          rw [← hWz]
                          clear hWz
                          refine zqk 0 rfl hS0 ?_
                          simp only [Act.put, zq1, zq2, zq3, zq4, zq5]
                          refine zqk 1 rfl hS0 ?_
                          simp only [Act.put, zq1, zq2, zq3, zq4, zq5, zq6]
                          refine zqk 2 rfl hS0 ?_
                          simp only [Act.put, zq1, zq2, zq3, zq4, zq5, zq6]
                          refine zqk 3 rfl hS0 ?_
                          simp only [Act.put, zq1, zq2, zq3, zq4, zq5, zq6]
                          refine zqk 4 rfl hS0 ?_
                          simp only [Act.put, zq1, zq2, zq3, zq4, zq5, zq6]
                          refine zqk 5 rfl hS0 ?_
                          simp only [Act.put, zq1, zq2, zq3, zq4, zq5, zq6]
                          refine zqk 6 rfl hS0 ?_
                          simp only [Act.put, zq1, zq2, zq3, zq4, zq5, zq6]
                          refine zqk 7 rfl hS0 ?_
                          simp only [Act.put, zq1, zq2, zq3, zq4, zq5, zq6]
                          refine zqn 8 rfl hS0 ?_
                          simp only [Act.put, zq1, zq2, zq3, zq4, zq5, zq6]
                          refine zqn 9 rfl hS0 ?_
                          simp only [Act.put, zq1, zq2, zq3, zq4, zq5, zq6]
                          refine zqn 10 rfl hS0 ?_
                          simp only [Act.put, zq1, zq2, zq3, zq4, zq5, zq6]
                          refine zqn 11 rfl hS0 ?_
                          simp only [Act.put, zq1, zq2, zq3, zq4, zq5, zq6]
                          refine zqn 12 rfl hS0 ?_
                          simp only [Act.put, zq1, zq2, zq3, zq4, zq5, zq6]
                          refine zqn 13 rfl hS0 ?_
                          simp only [Act.put, zq1, zq2, zq3, zq4, zq5, zq6]
                          refine zqn 14 rfl hS0 ?_
                          simp only [Act.put, zq1, zq2, zq3, zq4, zq5, zq6]
                          refine zqn 15 rfl hS0 ?_
                          simp only [Act.put, zq1, zq2, zq3, zq4, zq5, zq6]
                          refine zqk 16 rfl hS0 ?_
                          simp only [Act.put, zq1, zq2, zq3, zq4, zq5, zq6]
                          refine wpAnyH_done (by kernel_rfl) ?_ _
                          clear hS0
                          gi_wp2
                          go_roundw
                          case rel => exact ⟨j + 1, n2, nv2, ps2, by omega, by go_num, HB4.out⟩
                          case measure => simp [intOf]; omega
                      · have hjm : m = j := by omega
                        subst hjm
                        have HBM : Hid (BL w B10 B11 B12 B13 B14 gw g b base mA all lo hi l2 h2 stop (.slice aa m ca) (.func (.func 57) #[] #[.pointer (some ⟨mA, 0, none⟩), .pointer (some ⟨mA + 1, 0, none⟩), .pointer (some ⟨mA + 2, 0, none⟩)]) B16 B17 B18 (.slice (some ⟨q9, 0, none⟩) wl.length wc) wl [D2, D1] n0 ps0.length (acts.take 40) pre.length V.heap.size WW (acts.take 40).length n2 nv2 ps2 wr) := by
                          rw [HML.out.1]
                          exact hb
                        have T1 := hb.mr.count ((pre.length : Int) + 1)
                        have y17 := hb.mr.ctr.cell 0 _ rfl
                        have f17 := hb.mr.ctr.free 0
                        have z17 := T1.ctr.cell 0 _ rfl
                        have z11 := T1.mw.stp.cell 0 _ rfl
                        have z18 := T1.lft.cell 0 _ rfl
                        have g18 := T1.lft.free 0
                        have HLS : Hid (KeepsFrom V.heap.size WW ((wr.setCell ⟨B17, 0, none⟩ (.int .i64 ((pre.length : Int) + 1))).setCell ⟨B18, 0, none⟩ (.bool true)) ∧ IXW w B10 B11 B12 B13 B14 gw g b base mA all lo hi l2 h2 stop (.slice aa m ca) (.func (.func 57) #[] #[.pointer (some ⟨mA, 0, none⟩), .pointer (some ⟨mA + 1, 0, none⟩), .pointer (some ⟨mA + 2, 0, none⟩)]) B16 B17 B18 (.slice (some ⟨q9, 0, none⟩) wl.length wc) wl [D2, D1] n0 ps0.length (acts.take 40) (.exit 2) (pre ++ [⟨(k0, v0), hwk, hwv⟩]) ((wr.setCell ⟨B17, 0, none⟩ (.int .i64 ((pre.length : Int) + 1))).setCell ⟨B18, 0, none⟩ (.bool true))) := HBM.out.left pre rfl _
                        have HNX : Hid (KeepsFrom V.heap.size WW (wr.setCell ⟨B17, 0, none⟩ (.int .i64 ((pre.length : Int) + 1))) ∧ Kv.KpV (fun q => q = B17) 80 b WW (wr.setCell ⟨B17, 0, none⟩ (.int .i64 ((pre.length : Int) + 1))) ∧ IW w B10 B11 B12 B13 B14 gw g b base mA all lo hi l2 h2 stop (.slice aa m ca) (.func (.func 57) #[] #[.pointer (some ⟨mA, 0, none⟩), .pointer (some ⟨mA + 1, 0, none⟩), .pointer (some ⟨mA + 2, 0, none⟩)]) B16 B17 B18 (.slice (some ⟨q9, 0, none⟩) wl.length wc) wl [D2, D1] n0 ps0.length (acts.take 40) (pre ++ [⟨(k0, v0), hwk, hwv⟩]) (wr.setCell ⟨B17, 0, none⟩ (.int .i64 ((pre.length : Int) + 1)))) := HBM.out.next pre rfl _
                        clear hb T1 HBM hlt
                        by_cases hst : (pre.length : Int) + 1 = stop
                        · have hst' : ((pre.length : Int) + 1 == stop) = true := by simp; exact hst
                          clear hst
                          gi_wp2
                          exact HLS.out
                        · have hst' : ((pre.length : Int) + 1 == stop) = false := by simp; exact hst
                          clear hst
                          gi_wp2
                          exact HNX.out
                  · have hv' : (v0 == v) = false := by simp; exact hv
                    gi_wp2
                    exact ⟨HKO.out, .inl ⟨rfl, pre, _, rfl, by rw [HP0.out]; intro e; simp at e; exact hv e⟩⟩
                · have hk' : (k0 == k) = false := by simp; exact hk
                  gi_wp2
                  exact ⟨HKO.out, .inl ⟨rfl, pre, _, rfl, by rw [HP0.out]; intro e; simp at e; exact hk e.1⟩⟩
              case both3 =>
                rintro D3 W hD h9 hK
                obtain ⟨cnt, lf, n1, nv1, ps1, hlf, hcnt, hn1, hps1, hs⟩ := IW_both h9
                have hsd : MR w B10 B11 B12 B13 B14 gw g b base mA all lo hi l2 h2 stop (.slice aa m ca) (.func (.func 57) #[] #[.pointer (some ⟨mA, 0, none⟩), .pointer (some ⟨mA + 1, 0, none⟩), .pointer (some ⟨mA + 2, 0, none⟩)]) B16 B17 B18 (.slice wa wl.length wc) wl (cnt : Int) lf [D3, D2, D1] n1 nv1 ps1 W := ⟨hs.mw, hs.wbx, hs.row, hs.ctr, hs.lft, hs.nc, hs.r17, hs.r18, hs.ne, fun D hD9 => by
                  rcases List.mem_cons.1 hD9 with rfl | h
                  · exact hK
                  · exact hs.dm D h⟩
                have HDO3 : Hid (w.heap.size ≤ D3 ∧ ∀ D ∈ ([D2, D1] : List Nat), D < D3) := ⟨Nat.le_trans HVB.out.2.1 hD, fun D h => Nat.lt_of_lt_of_le (HVB.out.2.2 D h) hD⟩
                have HB1 : Hid (n1 ≤ 420 ∧ ps1.length ≤ 420) := by
                  have h1 := HN0.out
                  have h2 : (acts.take 40).length ≤ 40 := by
                    rw [List.length_take]
                    exact Nat.min_le_left _ _
                  exact ⟨by omega, by omega⟩
                have HCL : Hid (lf = true ∨ cnt = wl.length) := hlf
                have hsz := hsd.kept (W' := W.drew) ⟨rfl, rfl, rfl, Nat.le_refl _, fun _ _ => rfl⟩
                obtain ⟨Wz, hWz⟩ : ∃ x, x = W.drew := ⟨_, rfl⟩
                rw [← hWz] at hsz
                have HRZ : Hid (MR w B10 B11 B12 B13 B14 gw g b base mA all lo hi l2 h2 stop (.slice aa m ca) (.func (.func 57) #[] #[.pointer (some ⟨mA, 0, none⟩), .pointer (some ⟨mA + 1, 0, none⟩), .pointer (some ⟨mA + 2, 0, none⟩)]) B16 B17 B18 (.slice wa wl.length wc) wl (cnt : Int) lf [D3, D2, D1] n1 nv1 ps1 Wz) := hsz
                clear hs hsd hsz h9 hK hD hlf hcnt hn1 hps1 HN0 HS HDs HR HWL HGM HVB
                gi_upto_region 31 with fail
                rename_i K6 hK6
                generalize hA6 : Act.mk _ _ = A6
                have HRST : Hid (∀ (x117 x118 x119 x120 x121 x122 x123 x124 x125 x126 x127 x128 x129 x130 x131 x132 x133 x134 x135 : Value) (X3 : World), MR w B10 B11 B12 B13 B14 gw g b base mA all lo hi l2 h2 stop (.slice aa m ca) (.func (.func 57) #[] #[.pointer (some ⟨mA, 0, none⟩), .pointer (some ⟨mA + 1, 0, none⟩), .pointer (some ⟨mA + 2, 0, none⟩)]) B16 B17 B18 (.slice wa wl.length wc) wl (cnt : Int) lf [D3, D2, D1] n1 nv1 ps1 X3 → K6 ((((((((((((((((((((A6.put (some 117) x117).put (some 118) x118).put (some 119) x119).put (some 120) x120).put (some 121) x121).put (some 122) x122).put (some 123) x123).put (some 124) x124).put (some 125) x125).put (some 126) x126).put (some 127) x127).put (some 128) x128).put (some 129) x129).put (some 130) x130).put (some 131) x131).put (some 132) x132).put (some 133) x133).put (some 134) x134).put (some 135) x135).put (some 136) (.bool false)) X3) := fun x117 x118 x119 x120 x121 x122 x123 x124 x125 x126 x127 x128 x129 x130 x131 x132 x133 x134 x135 X3 hx => by
                  rw [← hA6]
                  refine hK6 _ _ ?_
                  simp only [Act.put, zq1, zq2, zq3]
                  have HSr : Hid (∃ (n : Nat) (nv : Value) (ps : List (Int × Int)), n ≤ 420 ∧ ps.length ≤ 420 ∧ MW w B10 B11 B12 B13 B14 gw g b base mA all lo hi l2 h2 stop (.slice aa m ca) (.func (.func 57) #[] #[.pointer (some ⟨mA, 0, none⟩), .pointer (some ⟨mA + 1, 0, none⟩), .pointer (some ⟨mA + 2, 0, none⟩)]) n nv ps X3 ∧ ∀ D ∈ ([D3, D2, D1] : List Nat), X3.heap[D]? = some (.deferred (some []))) := ⟨_, _, _, HB1.out.1, HB1.out.2, hx.mw, hx.dm⟩
                  clear hA6 hx HRZ hWz HB1 HCL HLW
                  gi_wp2
                  rw [roundsIn_succ]
                  obtain ⟨n0, nv0, ps0, -, -, h8, d8⟩ := HSr.out
                  have y12 := h8.res.cell 0 _ rfl
                  have f12 := h8.res.free 0
                  have HLA : Hid (LB (X3.setCell ⟨B12, 0, none⟩ (.bool true)) B12 4 [.bool true] ∧ Below w.heap.size w (X3.setCell ⟨B12, 0, none⟩ (.bool true)) ∧ ∀ D ∈ [D3, D2, D1], (X3.setCell ⟨B12, 0, none⟩ (.bool true)).heap[D]? = some (.deferred (some []))) := ⟨h8.res.set 0 _, h8.bel.setCell (p := ⟨B12, 0, none⟩) h8.r12 _, fun D hD => (KeepsOthers.setCell X3 ⟨B12, 0, none⟩ (.bool true)).same D _ (d8 D hD) rfl⟩
                  have n32 : D2 ≠ D3 := Nat.ne_of_lt (HDO3.out.2 D2 (by simp))
                  have n31 : D1 ≠ D3 := Nat.ne_of_lt (HDO3.out.2 D1 (by simp))
                  have n21 : D1 ≠ D2 := Nat.ne_of_lt (HDO2.out.2 D1 (by simp))
                  have HNE : Hid (D2 ≠ D3 ∧ D1 ≠ D3 ∧ D1 ≠ D2) := ⟨n32, n31, n21⟩
                  clear h8 d8 n32 n31 n21 HSr
                  gi_wp2
                  generalize X3.setCell ⟨B12, 0, none⟩ (.bool true) = We at HLA ⊢
                  have t3 := HLA.out.2.2 D3 (by simp)
                  have l3 := lb_putObj HLA.out.1 t3 rfl (.deferred none)
                  have e3 := below_putObj HLA.out.2.1 HDO3.out.1 (.deferred none)
                  have t2 := mark_putObj (HLA.out.2.2 D2 (by simp)) (D := D3) HNE.out.1 (.deferred none)
                  have s1 := mark_putObj (HLA.out.2.2 D1 (by simp)) (D := D3) HNE.out.2.1 (.deferred none)
                  refine ⟨by simp, .inl ⟨_, _, rfl, run_takeDeferred t3, ?_⟩⟩
                  have l2 := lb_putObj l3 t2 rfl (.deferred none)
                  have e2 := below_putObj e3 HDO2.out.1 (.deferred none)
                  have t1 := mark_putObj s1 (D := D2) HNE.out.2.2 (.deferred none)
                  refine ⟨by simp, .inl ⟨_, _, rfl, run_takeDeferred t2, ?_⟩⟩
                  have l1 := lb_putObj l2 t1 rfl (.deferred none)
                  have e1 := below_putObj e2 HDO1.out.1 (.deferred none)
                  refine ⟨by simp, .inl ⟨_, _, rfl, run_takeDeferred t1, ?_⟩⟩
                  have z9 := l1.cell 0 _ rfl
                  refine ⟨.bool true, ?_, rfl, e1⟩
                  simp [results, Try.f6, go_sem, z9]
                rw [← hA6] at HRST
                rw [← hA6]
                clear hK6 hA6
                have HHO : Hid (Calls Try.prog 39 #[.pointer (some ⟨g, 0, none⟩), nv1] Wz fun e w' => e = .returned (.bool true) ∧ Below Wz.heap.size Wz w') := ixholds_any g b base n1 ps1 _ Wz HRZ.out.mw.ws.mi HRZ.out.mw.ws.wk.pr (by have := HB1.out; omega) (by have := HB1.out; omega) (fun p hp => by
                  have h9 := (HRZ.out.mw.ws.wf p hp).1
                  simp [Lit.wf, IntKind.min, IntKind.max, IntKind.signed, IntKind.bits] at h9
                  omega)
                cases lf with
                | true =>
                  have HSS : Hid (∀ W : World, MR w B10 B11 B12 B13 B14 gw g b base mA all lo hi l2 h2 stop (.slice aa m ca) (.func (.func 57) #[] #[.pointer (some ⟨mA, 0, none⟩), .pointer (some ⟨mA + 1, 0, none⟩), .pointer (some ⟨mA + 2, 0, none⟩)]) B16 B17 B18 (.slice wa wl.length wc) wl (cnt : Int) true [D3, D2, D1] n1 nv1 ps1 W → W.cell? ⟨B18, 0, none⟩ = some (.bool true) ∧ W.cell? ⟨B17, 0, none⟩ = some (.int .i64 (cnt : Int)) ∧ W.cell? ⟨B16, 0, none⟩ = some (.slice wa wl.length wc) ∧ W.cell? ⟨B13, 0, none⟩ = some (.pointer (some ⟨gw, 0, none⟩)) ∧ W.cell? ⟨gw, 0, none⟩ = some (.pointer (some ⟨g, 0, none⟩)) ∧ W.cell? ⟨gw, 4, none⟩ = some nv1) := fun W h => ⟨h.lft.cell 0 _ rfl, h.ctr.cell 0 _ rfl, h.wbx.cell 0 _ rfl, h.mw.wp.cell 0 _ rfl, h.mw.ws.wk.box.cell 0 _ rfl, h.mw.ws.wk.box.cell 4 _ rfl⟩
                  have hS0 := HSS.out Wz HRZ.out
                  refine regionIn_of1 (S := fun W : World => W.cell? ⟨B18, 0, none⟩ = some (.bool true) ∧ W.cell? ⟨B17, 0, none⟩ = some (.int .i64 (cnt : Int)) ∧ W.cell? ⟨B16, 0, none⟩ = some (.slice wa wl.length wc) ∧ W.cell? ⟨B13, 0, none⟩ = some (.pointer (some ⟨gw, 0, none⟩)) ∧ W.cell? ⟨gw, 0, none⟩ = some (.pointer (some ⟨g, 0, none⟩)) ∧ W.cell? ⟨gw, 4, none⟩ = some nv1) (by kernel_rfl) (by kernel_rfl) (by rw [← hWz]; exact hS0) (fun _ => ?_)
                  rw [← hWz]
                  clear hWz
                  refine zqk 0 rfl hS0 ?_
                  simp only [Act.put, zq1, zq2, zq3, zq4, zq5]
                  refine zqk 1 rfl hS0 ?_
                  simp only [Act.put, zq1, zq2, zq3, zq4, zq5, zq6]
                  refine zqk 2 rfl hS0 ?_
                  simp only [Act.put, zq1, zq2, zq3, zq4, zq5, zq6]
                  refine zqn 3 rfl hS0 ?_
                  simp only [Act.put, zq1, zq2, zq3, zq4, zq5, zq6]
                  refine zqn 4 rfl hS0 ?_
                  simp only [Act.put, zq1, zq2, zq3, zq4, zq5, zq6]
                  refine zqn 5 rfl hS0 ?_
                  simp only [Act.put, zq1, zq2, zq3, zq4, zq5, zq6]
                  refine zqn 6 rfl hS0 ?_
                  simp only [Act.put, zq1, zq2, zq3, zq4, zq5, zq6]
                  refine zqk 7 rfl hS0 ?_
                  simp only [Act.put, zq1, zq2, zq3, zq4, zq5, zq6]
                  refine zqk 8 rfl hS0 ?_
                  simp only [Act.put, zq1, zq2, zq3, zq4, zq5, zq6]
                  refine zqk 9 rfl hS0 ?_
                  simp only [Act.put, zq1, zq2, zq3, zq4, zq5, zq6]
                  refine zqk 10 rfl hS0 ?_
                  simp only [Act.put, zq1, zq2, zq3, zq4, zq5, zq6]
                  refine zqk 11 rfl hS0 ?_
                  simp only [Act.put, zq1, zq2, zq3, zq4, zq5, zq6]
                  refine zqk 12 rfl hS0 ?_
                  simp only [Act.put, zq1, zq2, zq3, zq4, zq5, zq6]
                  refine zqk 13 rfl hS0 ?_
                  simp only [Act.put, zq1, zq2, zq3, zq4, zq5, zq6]
                  refine zqk 14 rfl hS0 ?_
                  simp only [Act.put, zq1, zq2, zq3, zq4, zq5, zq6]
                  refine zqk 15 rfl hS0 ?_
                  simp only [Act.put, zq1, zq2, zq3, zq4, zq5, zq6]
                  refine zqk 16 rfl hS0 ?_
                  simp only [Act.put, zq1, zq2, zq3, zq4, zq5, zq6]
                  refine zqr 17 rfl (fun K hK => ?_)
                  refine st_holdsW rfl 129 133 rfl rfl rfl (R := fun W' => Below Wz.heap.size Wz W') HHO.out ?_
                  rintro Wa ba
                  have hra := HRZ.out.kept ba
                  have hSa := HSS.out Wa hra
                  refine hK.out _ _ hSa fun _ => ?_
                  simp only [Act.put, zq1, zq2, zq3, zq4, zq5, zq6]
                  clear hK K ba
                  refine zqk 18 rfl hSa ?_
                  simp only [Act.put, zq1, zq2, zq3, zq4, zq5, zq6]
                  refine zqk 19 rfl hSa ?_
                  simp only [Act.put, zq1, zq2, zq3, zq4, zq5, zq6]
                  refine wpAnyH_done (by kernel_rfl) ?_ _
                  have h9 := HRST.out (.bool true) (.bool false) (.bool false) undef undef undef undef (.bool false) (.bool false) (.pointer (some ⟨gw, 0, none⟩)) (.pointer (some ⟨gw, 0, none⟩)) (.pointer (some ⟨gw, 0, none⟩)) (.pointer (some ⟨g, 0, none⟩)) (.pointer (some ⟨gw, 0, none⟩)) (.pointer (some ⟨gw, 0, none⟩)) (.pointer (some ⟨gw, 4, none⟩)) nv1 (.bool true) (.bool false) Wa hra
                  simp only [Act.put, zq1, zq2, zq3] at h9
                  exact h9
                | false =>
                  obtain rfl : cnt = wl.length := by
                    rcases HCL.out with h | h
                    · cases h
                    · exact h
                  have HSS : Hid (∀ W : World, MR w B10 B11 B12 B13 B14 gw g b base mA all lo hi l2 h2 stop (.slice aa m ca) (.func (.func 57) #[] #[.pointer (some ⟨mA, 0, none⟩), .pointer (some ⟨mA + 1, 0, none⟩), .pointer (some ⟨mA + 2, 0, none⟩)]) B16 B17 B18 (.slice wa wl.length wc) wl (wl.length : Int) false [D3, D2, D1] n1 nv1 ps1 W → W.cell? ⟨B18, 0, none⟩ = some (.bool false) ∧ W.cell? ⟨B17, 0, none⟩ = some (.int .i64 (wl.length : Int)) ∧ W.cell? ⟨B16, 0, none⟩ = some (.slice wa wl.length wc) ∧ W.cell? ⟨B13, 0, none⟩ = some (.pointer (some ⟨gw, 0, none⟩)) ∧ W.cell? ⟨gw, 0, none⟩ = some (.pointer (some ⟨g, 0, none⟩)) ∧ W.cell? ⟨gw, 4, none⟩ = some nv1) := fun W h => ⟨h.lft.cell 0 _ rfl, h.ctr.cell 0 _ rfl, h.wbx.cell 0 _ rfl, h.mw.wp.cell 0 _ rfl, h.mw.ws.wk.box.cell 0 _ rfl, h.mw.ws.wk.box.cell 4 _ rfl⟩
                  have hS0 := HSS.out Wz HRZ.out
                  refine regionIn_of1 (S := fun W : World => W.cell? ⟨B18, 0, none⟩ = some (.bool false) ∧ W.cell? ⟨B17, 0, none⟩ = some (.int .i64 (wl.length : Int)) ∧ W.cell? ⟨B16, 0, none⟩ = some (.slice wa wl.length wc) ∧ W.cell? ⟨B13, 0, none⟩ = some (.pointer (some ⟨gw, 0, none⟩)) ∧ W.cell? ⟨gw, 0, none⟩ = some (.pointer (some ⟨g, 0, none⟩)) ∧ W.cell? ⟨gw, 4, none⟩ = some nv1) (by kernel_rfl) (by kernel_rfl) (by rw [← hWz]; exact hS0) (fun _ => ?_)
                  rw [← hWz]
                  clear hWz
                  refine zqk 0 rfl hS0 ?_
                  simp only [Act.put, zq1, zq2, zq3, zq4, zq5]
                  refine zqk 1 rfl hS0 ?_
                  simp only [Act.put, zq1, zq2, zq3, zq4, zq5, zq6]
                  refine zqk 2 rfl hS0 ?_
                  simp only [Act.put, zq1, zq2, zq3, zq4, zq5, zq6]
                  refine zqk 3 rfl hS0 ?_
                  simp only [Act.put, zq1, zq2, zq3, zq4, zq5, zq6]
                  refine zqk 4 rfl hS0 ?_
                  simp only [Act.put, zq1, zq2, zq3, zq4, zq5, zq6]
                  refine zqk 5 rfl hS0 ?_
                  simp only [Act.put, zq1, zq2, zq3, zq4, zq5, zq6]
                  refine zqk 6 rfl hS0 ?_
                  simp only [Act.put, zq1, zq2, zq3, zq4, zq5, zq6]
                  refine zqk 7 rfl hS0 ?_
                  simp only [Act.put, zq1, zq2, zq3, zq4, zq5, zq6]
                  refine zqk 8 rfl hS0 ?_
                  simp only [Act.put, zq1, zq2, zq3, zq4, zq5, zq6]
                  refine zqk 9 rfl hS0 ?_
                  simp only [Act.put, zq1, zq2, zq3, zq4, zq5, zq6]
                  refine zqk 10 rfl hS0 ?_
                  simp only [Act.put, zq1, zq2, zq3, zq4, zq5, zq6]
                  refine zqk 11 rfl hS0 ?_
                  simp only [Act.put, zq1, zq2, zq3, zq4, zq5, zq6]
                  refine zqk 12 rfl hS0 ?_
                  simp only [Act.put, zq1, zq2, zq3, zq4, zq5, zq6]
                  refine zqk 13 rfl hS0 ?_
                  simp only [Act.put, zq1, zq2, zq3, zq4, zq5, zq6]
                  refine zqk 14 rfl hS0 ?_
                  simp only [Act.put, zq1, zq2, zq3, zq4, zq5, zq6]
                  refine zqk 15 rfl hS0 ?_
                  simp only [Act.put, zq1, zq2, zq3, zq4, zq5, zq6]
                  refine zqk 16 rfl hS0 ?_
                  simp only [Act.put, zq1, zq2, zq3, zq4, zq5, zq6]
                  refine zqr 17 rfl (fun K hK => ?_)
                  refine st_holdsW rfl 129 133 rfl rfl rfl (R := fun W' => Below Wz.heap.size Wz W') HHO.out ?_
                  rintro Wa ba
                  have hra := HRZ.out.kept ba
                  have hSa := HSS.out Wa hra
                  refine hK.out _ _ hSa fun _ => ?_
                  simp only [Act.put, zq1, zq2, zq3, zq4, zq5, zq6]
                  clear hK K ba
                  refine zqk 18 rfl hSa ?_
                  simp only [Act.put, zq1, zq2, zq3, zq4, zq5, zq6]
                  refine zqk 19 rfl hSa ?_
                  simp only [Act.put, zq1, zq2, zq3, zq4, zq5, zq6]
                  refine wpAnyH_done (by kernel_rfl) ?_ _
                  have h9 := HRST.out (.bool false) (.bool true) (.bool true) (.int .i64 (wl.length : Int)) (.slice wa wl.length wc) (.int .i64 (wl.length : Int)) (.bool false) (.bool false) (.bool false) (.pointer (some ⟨gw, 0, none⟩)) (.pointer (some ⟨gw, 0, none⟩)) (.pointer (some ⟨gw, 0, none⟩)) (.pointer (some ⟨g, 0, none⟩)) (.pointer (some ⟨gw, 0, none⟩)) (.pointer (some ⟨gw, 0, none⟩)) (.pointer (some ⟨gw, 4, none⟩)) nv1 (.bool true) (.bool false) Wa hra
                  simp only [Act.put, zq1, zq2, zq3] at h9
                  exact h9
            rw [← hA6] at HRST
            rw [← hA6]
            clear hK6 hA6
            have HHO : Hid (Calls Try.prog 39 #[.pointer (some ⟨g, 0, none⟩), nv1] Wz fun e w' => e = .returned (.bool true) ∧ Below Wz.heap.size Wz w') := ixholds_any g b base n1 ps1 _ Wz HRZ.out.mw.ws.mi HRZ.out.mw.ws.wk.pr (by have := HB1.out; omega) (by have := HB1.out; omega) (fun p hp => by
              have h9 := (HRZ.out.mw.ws.wf p hp).1
              simp [Lit.wf, IntKind.min, IntKind.max, IntKind.signed, IntKind.bits] at h9
              omega)
            cases lf with
            | true =>
              have HSS : Hid (∀ W : World, MR w B10 B11 B12 B13 B14 gw g b base mA all lo hi l2 h2 stop (.slice aa m ca) (.func (.func 57) #[] #[.pointer (some ⟨mA, 0, none⟩), .pointer (some ⟨mA + 1, 0, none⟩), .pointer (some ⟨mA + 2, 0, none⟩)]) B16 B17 B18 (.slice wa wl.length wc) wl (cnt : Int) true [D2, D1] n1 nv1 ps1 W → W.cell? ⟨B18, 0, none⟩ = some (.bool true) ∧ W.cell? ⟨B17, 0, none⟩ = some (.int .i64 (cnt : Int)) ∧ W.cell? ⟨B16, 0, none⟩ = some (.slice wa wl.length wc) ∧ W.cell? ⟨B13, 0, none⟩ = some (.pointer (some ⟨gw, 0, none⟩)) ∧ W.cell? ⟨gw, 0, none⟩ = some (.pointer (some ⟨g, 0, none⟩)) ∧ W.cell? ⟨gw, 4, none⟩ = some nv1) := fun W h => ⟨h.lft.cell 0 _ rfl, h.ctr.cell 0 _ rfl, h.wbx.cell 0 _ rfl, h.mw.wp.cell 0 _ rfl, h.mw.ws.wk.box.cell 0 _ rfl, h.mw.ws.wk.box.cell 4 _ rfl⟩
              have hS0 := HSS.out Wz HRZ.out
              refine regionIn_of1 (S := fun W : World => W.cell? ⟨B18, 0, none⟩ = some (.bool true) ∧ W.cell? ⟨B17, 0, none⟩ = some (.int .i64 (cnt : Int)) ∧ W.cell? ⟨B16, 0, none⟩ = some (.slice wa wl.length wc) ∧ W.cell? ⟨B13, 0, none⟩ = some (.pointer (some ⟨gw, 0, none⟩)) ∧ W.cell? ⟨gw, 0, none⟩ = some (.pointer (some ⟨g, 0, none⟩)) ∧ W.cell? ⟨gw, 4, none⟩ = some nv1) (by kernel_rfl) (by kernel_rfl) (by rw [← hWz]; exact hS0) (fun _ => ?_)
              rw [← hWz]
              clear hWz
              refine zqk 0 rfl hS0 ?_
              simp only [Act.put, zq1, zq2, zq3, zq4, zq5]
              refine zqk 1 rfl hS0 ?_
              simp only [Act.put, zq1, zq2, zq3, zq4, zq5, zq6]
              refine zqk 2 rfl hS0 ?_
              simp only [Act.put, zq1, zq2, zq3, zq4, zq5, zq6]
              refine zqn 3 rfl hS0 ?_
              simp only [Act.put, zq1, zq2, zq3, zq4, zq5, zq6]
              refine zqn 4 rfl hS0 ?_
              simp only [Act.put, zq1, zq2, zq3, zq4, zq5, zq6]
              refine zqn 5 rfl hS0 ?_
              simp only [Act.put, zq1, zq2, zq3, zq4, zq5, zq6]
              refine zqn 6 rfl hS0 ?_
              simp only [Act.put, zq1, zq2, zq3, zq4, zq5, zq6]
              refine zqk 7 rfl hS0 ?_
              simp only [Act.put, zq1, zq2, zq3, zq4, zq5, zq6]
              refine zqk 8 rfl hS0 ?_
              simp only [Act.put, zq1, zq2, zq3, zq4, zq5, zq6]
              refine zqk 9 rfl hS0 ?_
              simp only [Act.put, zq1, zq2, zq3, zq4, zq5, zq6]
              refine zqk 10 rfl hS0 ?_
              simp only [Act.put, zq1, zq2, zq3, zq4, zq5, zq6]
              refine zqk 11 rfl hS0 ?_
              simp only [Act.put, zq1, zq2, zq3, zq4, zq5, zq6]
              refine zqk 12 rfl hS0 ?_
              simp only [Act.put, zq1, zq2, zq3, zq4, zq5, zq6]
              refine zqk 13 rfl hS0 ?_
              simp only [Act.put, zq1, zq2, zq3, zq4, zq5, zq6]
              refine zqk 14 rfl hS0 ?_
              simp only [Act.put, zq1, zq2, zq3, zq4, zq5, zq6]
              refine zqk 15 rfl hS0 ?_
              simp only [Act.put, zq1, zq2, zq3, zq4, zq5, zq6]
              refine zqk 16 rfl hS0 ?_
              simp only [Act.put, zq1, zq2, zq3, zq4, zq5, zq6]
              refine zqr 17 rfl (fun K hK => ?_)
              refine st_holdsW rfl 129 133 rfl rfl rfl (R := fun W' => Below Wz.heap.size Wz W') HHO.out ?_
              rintro Wa ba
              have hra := HRZ.out.kept ba
              have hSa := HSS.out Wa hra
              refine hK.out _ _ hSa fun _ => ?_
              simp only [Act.put, zq1, zq2, zq3, zq4, zq5, zq6]
              clear hK K ba
              refine zqk 18 rfl hSa ?_
              simp only [Act.put, zq1, zq2, zq3, zq4, zq5, zq6]
              refine zqk 19 rfl hSa ?_
              simp only [Act.put, zq1, zq2, zq3, zq4, zq5, zq6]
              refine wpAnyH_done (by kernel_rfl) ?_ _
              have h9 := HRST.out (.bool true) (.bool false) (.bool false) undef undef undef undef (.bool false) (.bool false) (.pointer (some ⟨gw, 0, none⟩)) (.pointer (some ⟨gw, 0, none⟩)) (.pointer (some ⟨gw, 0, none⟩)) (.pointer (some ⟨g, 0, none⟩)) (.pointer (some ⟨gw, 0, none⟩)) (.pointer (some ⟨gw, 0, none⟩)) (.pointer (some ⟨gw, 4, none⟩)) nv1 (.bool true) (.bool false) Wa hra
              simp only [Act.put, zq1, zq2, zq3] at h9
              exact h9
            | false =>
              obtain rfl : cnt = wl.length := by
                rcases HCL.out with h | h
                · cases h
                · exact h
              have HSS : Hid (∀ W : World, MR w B10 B11 B12 B13 B14 gw g b base mA all lo hi l2 h2 stop (.slice aa m ca) (.func (.func 57) #[] #[.pointer (some ⟨mA, 0, none⟩), .pointer (some ⟨mA + 1, 0, none⟩), .pointer (some ⟨mA + 2, 0, none⟩)]) B16 B17 B18 (.slice wa wl.length wc) wl (wl.length : Int) false [D2, D1] n1 nv1 ps1 W → W.cell? ⟨B18, 0, none⟩ = some (.bool false) ∧ W.cell? ⟨B17, 0, none⟩ = some (.int .i64 (wl.length : Int)) ∧ W.cell? ⟨B16, 0, none⟩ = some (.slice wa wl.length wc) ∧ W.cell? ⟨B13, 0, none⟩ = some (.pointer (some ⟨gw, 0, none⟩)) ∧ W.cell? ⟨gw, 0, none⟩ = some (.pointer (some ⟨g, 0, none⟩)) ∧ W.cell? ⟨gw, 4, none⟩ = some nv1) := fun W h => ⟨h.lft.cell 0 _ rfl, h.ctr.cell 0 _ rfl, h.wbx.cell 0 _ rfl, h.mw.wp.cell 0 _ rfl, h.mw.ws.wk.box.cell 0 _ rfl, h.mw.ws.wk.box.cell 4 _ rfl⟩
              have hS0 := HSS.out Wz HRZ.out
              refine regionIn_of1 (S := fun W : World => W.cell? ⟨B18, 0, none⟩ = some (.bool false) ∧ W.cell? ⟨B17, 0, none⟩ = some (.int .i64 (wl.length : Int)) ∧ W.cell? ⟨B16, 0, none⟩ = some (.slice wa wl.length wc) ∧ W.cell? ⟨B13, 0, none⟩ = some (.pointer (some ⟨gw, 0, none⟩)) ∧ W.cell? ⟨gw, 0, none⟩ = some (.pointer (some ⟨g, 0, none⟩)) ∧ W.cell? ⟨gw, 4, none⟩ = some nv1) (by kernel_rfl) (by kernel_rfl) (by rw [← hWz]; exact hS0) (fun _ => ?_)
              rw [← hWz]
              clear hWz
              refine zqk 0 rfl hS0 ?_
              simp only [Act.put, zq1, zq2, zq3, zq4, zq5]
              refine zqk 1 rfl hS0 ?_
              simp only [Act.put, zq1, zq2, zq3, zq4, zq5, zq6]
              refine zqk 2 rfl hS0 ?_
              simp only [Act.put, zq1, zq2, zq3, zq4, zq5, zq6]
              refine zqk 3 rfl hS0 ?_
              simp only [Act.put, zq1, zq2, zq3, zq4, zq5, zq6]
              refine zqk 4 rfl hS0 ?_
              simp only [Act.put, zq1, zq2, zq3, zq4, zq5, zq6]
              refine zqk 5 rfl hS0 ?_
              simp only [Act.put, zq1, zq2, zq3, zq4, zq5, zq6]
              refine zqk 6 rfl hS0 ?_
              simp only [Act.put, zq1, zq2, zq3, zq4, zq5, zq6]
              refine zqk 7 rfl hS0 ?_
              simp only [Act.put, zq1, zq2, zq3, zq4, zq5, zq6]
              refine zqk 8 rfl hS0 ?_
              simp only [Act.put, zq1, zq2, zq3, zq4, zq5, zq6]
              refine zqk 9 rfl hS0 ?_
              simp only [Act.put, zq1, zq2, zq3, zq4, zq5, zq6]
              refine zqk 10 rfl hS0 ?_
              simp only [Act.put, zq1, zq2, zq3, zq4, zq5, zq6]
              refine zqk 11 rfl hS0 ?_
              simp only [Act.put, zq1, zq2, zq3, zq4, zq5, zq6]
              refine zqk 12 rfl hS0 ?_
              simp only [Act.put, zq1, zq2, zq3, zq4, zq5, zq6]
              refine zqk 13 rfl hS0 ?_
              simp only [Act.put, zq1, zq2, zq3, zq4, zq5, zq6]
              refine zqk 14 rfl hS0 ?_
              simp only [Act.put, zq1, zq2, zq3, zq4, zq5, zq6]
              refine zqk 15 rfl hS0 ?_
              simp only [Act.put, zq1, zq2, zq3, zq4, zq5, zq6]
              refine zqk 16 rfl hS0 ?_
              simp only [Act.put, zq1, zq2, zq3, zq4, zq5, zq6]
              refine zqr 17 rfl (fun K hK => ?_)
              refine st_holdsW rfl 129 133 rfl rfl rfl (R := fun W' => Below Wz.heap.size Wz W') HHO.out ?_
              rintro Wa ba
              have hra := HRZ.out.kept ba
              have hSa := HSS.out Wa hra
              refine hK.out _ _ hSa fun _ => ?_
              simp only [Act.put, zq1, zq2, zq3, zq4, zq5, zq6]
              clear hK K ba
              refine zqk 18 rfl hSa ?_
              simp only [Act.put, zq1, zq2, zq3, zq4, zq5, zq6]
              refine zqk 19 rfl hSa ?_
              simp only [Act.put, zq1, zq2, zq3, zq4, zq5, zq6]
              refine wpAnyH_done (by kernel_rfl) ?_ _
              have h9 := HRST.out (.bool false) (.bool true) (.bool true) (.int .i64 (wl.length : Int)) (.slice wa wl.length wc) (.int .i64 (wl.length : Int)) (.bool false) (.bool false) (.bool false) (.pointer (some ⟨gw, 0, none⟩)) (.pointer (some ⟨gw, 0, none⟩)) (.pointer (some ⟨gw, 0, none⟩)) (.pointer (some ⟨g, 0, none⟩)) (.pointer (some ⟨gw, 0, none⟩)) (.pointer (some ⟨gw, 0, none⟩)) (.pointer (some ⟨gw, 4, none⟩)) nv1 (.bool true) (.bool false) Wa hra
              simp only [Act.put, zq1, zq2, zq3] at h9
              exact h9
        rw [← hA6] at HRST
        rw [← hA6]
        clear hK6 hA6
        have HHO : Hid (Calls Try.prog 39 #[.pointer (some ⟨g, 0, none⟩), nv1] Wz fun e w' => e = .returned (.bool true) ∧ Below Wz.heap.size Wz w') := ixholds_any g b base n1 ps1 _ Wz HRZ.out.mw.ws.mi HRZ.out.mw.ws.wk.pr (by have := HB1.out; omega) (by have := HB1.out; omega) (fun p hp => by
          have h9 := (HRZ.out.mw.ws.wf p hp).1
          simp [Lit.wf, IntKind.min, IntKind.max, IntKind.signed, IntKind.bits] at h9
          omega)
        cases lf with
        | true =>
          have HSS : Hid (∀ W : World, MR w B10 B11 B12 B13 B14 gw g b base mA all lo hi l2 h2 stop (.slice aa m ca) (.func (.func 57) #[] #[.pointer (some ⟨mA, 0, none⟩), .pointer (some ⟨mA + 1, 0, none⟩), .pointer (some ⟨mA + 2, 0, none⟩)]) B16 B17 B18 (.slice wa wl.length wc) wl (cnt : Int) true [D1] n1 nv1 ps1 W → W.cell? ⟨B18, 0, none⟩ = some (.bool true) ∧ W.cell? ⟨B17, 0, none⟩ = some (.int .i64 (cnt : Int)) ∧ W.cell? ⟨B16, 0, none⟩ = some (.slice wa wl.length wc) ∧ W.cell? ⟨B13, 0, none⟩ = some (.pointer (some ⟨gw, 0, none⟩)) ∧ W.cell? ⟨gw, 0, none⟩ = some (.pointer (some ⟨g, 0, none⟩)) ∧ W.cell? ⟨gw, 4, none⟩ = some nv1) := fun W h => ⟨h.lft.cell 0 _ rfl, h.ctr.cell 0 _ rfl, h.wbx.cell 0 _ rfl, h.mw.wp.cell 0 _ rfl, h.mw.ws.wk.box.cell 0 _ rfl, h.mw.ws.wk.box.cell 4 _ rfl⟩
          have hS0 := HSS.out Wz HRZ.out
          refine regionIn_of1 (S := fun W : World => W.cell? ⟨B18, 0, none⟩ = some (.bool true) ∧ W.cell? ⟨B17, 0, none⟩ = some (.int .i64 (cnt : Int)) ∧ W.cell? ⟨B16, 0, none⟩ = some (.slice wa wl.length wc) ∧ W.cell? ⟨B13, 0, none⟩ = some (.pointer (some ⟨gw, 0, none⟩)) ∧ W.cell? ⟨gw, 0, none⟩ = some (.pointer (some ⟨g, 0, none⟩)) ∧ W.cell? ⟨gw, 4, none⟩ = some nv1) (by kernel_rfl) (by kernel_rfl) (by rw [← hWz]; exact hS0) (fun _ => ?_)
          rw [← hWz]
          clear hWz
          refine zqk 0 rfl hS0 ?_
          simp only [Act.put, zq1, zq2, zq3, zq4, zq5]
          refine zqk 1 rfl hS0 ?_
          simp only [Act.put, zq1, zq2, zq3, zq4, zq5, zq6]
          refine zqk 2 rfl hS0 ?_
          simp only [Act.put, zq1, zq2, zq3, zq4, zq5, zq6]
          refine zqn 3 rfl hS0 ?_
          simp only [Act.put, zq1, zq2, zq3, zq4, zq5, zq6]
          refine zqn 4 rfl hS0 ?_
          simp only [Act.put, zq1, zq2, zq3, zq4, zq5, zq6]
          refine zqn 5 rfl hS0 ?_
          simp only [Act.put, zq1, zq2, zq3, zq4, zq5, zq6]
          refine zqn 6 rfl hS0 ?_
          simp only [Act.put, zq1, zq2, zq3, zq4, zq5, zq6]
          refine zqk 7 rfl hS0 ?_
          simp only [Act.put, zq1, zq2, zq3, zq4, zq5, zq6]
          refine zqk 8 rfl hS0 ?_
          simp only [Act.put, zq1, zq2, zq3, zq4, zq5, zq6]
          refine zqk 9 rfl hS0 ?_
          simp only [Act.put, zq1, zq2, zq3, zq4, zq5, zq6]
          refine zqk 10 rfl hS0 ?_
          simp only [Act.put, zq1, zq2, zq3, zq4, zq5, zq6]
          refine zqk 11 rfl hS0 ?_
          simp only [Act.put, zq1, zq2, zq3, zq4, zq5, zq6]
          refine zqk 12 rfl hS0 ?_
          simp only [Act.put, zq1, zq2, zq3, zq4, zq5, zq6]
          refine zqk 13 rfl hS0 ?_
          simp only [Act.put, zq1, zq2, zq3, zq4, zq5, zq6]
          refine zqk 14 rfl hS0 ?_
          simp only [Act.put, zq1, zq2, zq3, zq4, zq5, zq6]
          refine zqk 15 rfl hS0 ?_
          simp only [Act.put, zq1, zq2, zq3, zq4, zq5, zq6]
          refine zqk 16 rfl hS0 ?_
          simp only [Act.put, zq1, zq2, zq3, zq4, zq5, zq6]
          refine zqr 17 rfl (fun K hK => ?_)
          refine st_holdsW rfl 129 133 rfl rfl rfl (R := fun W' => Below Wz.heap.size Wz W') HHO.out ?_
          rintro Wa ba
          have hra := HRZ.out.kept ba
          have hSa := HSS.out Wa hra
          refine hK.out _ _ hSa fun _ => ?_
          simp only [Act.put, zq1, zq2, zq3, zq4, zq5, zq6]
          clear hK K ba
          refine zqk 18 rfl hSa ?_
          simp only [Act.put, zq1, zq2, zq3, zq4, zq5, zq6]
          refine zqk 19 rfl hSa ?_
          simp only [Act.put, zq1, zq2, zq3, zq4, zq5, zq6]
          refine wpAnyH_done (by kernel_rfl) ?_ _
          have h9 := HRST.out (.bool true) (.bool false) (.bool false) undef undef undef undef (.bool false) (.bool false) (.pointer (some ⟨gw, 0, none⟩)) (.pointer (some ⟨gw, 0, none⟩)) (.pointer (some ⟨gw, 0, none⟩)) (.pointer (some ⟨g, 0, none⟩)) (.pointer (some ⟨gw, 0, none⟩)) (.pointer (some ⟨gw, 0, none⟩)) (.pointer (some ⟨gw, 4, none⟩)) nv1 (.bool true) (.bool false) Wa hra
          simp only [Act.put, zq1, zq2, zq3] at h9
          exact h9
        | false =>
          obtain rfl : cnt = wl.length := by
            rcases HCL.out with h | h
            · cases h
            · exact h
          have HSS : Hid (∀ W : World, MR w B10 B11 B12 B13 B14 gw g b base mA all lo hi l2 h2 stop (.slice aa m ca) (.func (.func 57) #[] #[.pointer (some ⟨mA, 0, none⟩), .pointer (some ⟨mA + 1, 0, none⟩), .pointer (some ⟨mA + 2, 0, none⟩)]) B16 B17 B18 (.slice wa wl.length wc) wl (wl.length : Int) false [D1] n1 nv1 ps1 W → W.cell? ⟨B18, 0, none⟩ = some (.bool false) ∧ W.cell? ⟨B17, 0, none⟩ = some (.int .i64 (wl.length : Int)) ∧ W.cell? ⟨B16, 0, none⟩ = some (.slice wa wl.length wc) ∧ W.cell? ⟨B13, 0, none⟩ = some (.pointer (some ⟨gw, 0, none⟩)) ∧ W.cell? ⟨gw, 0, none⟩ = some (.pointer (some ⟨g, 0, none⟩)) ∧ W.cell? ⟨gw, 4, none⟩ = some nv1) := fun W h => ⟨h.lft.cell 0 _ rfl, h.ctr.cell 0 _ rfl, h.wbx.cell 0 _ rfl, h.mw.wp.cell 0 _ rfl, h.mw.ws.wk.box.cell 0 _ rfl, h.mw.ws.wk.box.cell 4 _ rfl⟩
          have hS0 := HSS.out Wz HRZ.out
          refine regionIn_of1 (S := fun W : World => W.cell? ⟨B18, 0, none⟩ = some (.bool false) ∧ W.cell? ⟨B17, 0, none⟩ = some (.int .i64 (wl.length : Int)) ∧ W.cell? ⟨B16, 0, none⟩ = some (.slice wa wl.length wc) ∧ W.cell? ⟨B13, 0, none⟩ = some (.pointer (some ⟨gw, 0, none⟩)) ∧ W.cell? ⟨gw, 0, none⟩ = some (.pointer (some ⟨g, 0, none⟩)) ∧ W.cell? ⟨gw, 4, none⟩ = some nv1) (by kernel_rfl) (by kernel_rfl) (by rw [← hWz]; exact hS0) (fun _ => ?_)
          rw [← hWz]
          clear hWz
          refine zqk 0 rfl hS0 ?_
          simp only [Act.put, zq1, zq2, zq3, zq4, zq5]
          refine zqk 1 rfl hS0 ?_
          simp only [Act.put, zq1, zq2, zq3, zq4, zq5, zq6]
          refine zqk 2 rfl hS0 ?_
          simp only [Act.put, zq1, zq2, zq3, zq4, zq5, zq6]
          refine zqk 3 rfl hS0 ?_
          simp only [Act.put, zq1, zq2, zq3, zq4, zq5, zq6]
          refine zqk 4 rfl hS0 ?_
          simp only [Act.put, zq1, zq2, zq3, zq4, zq5, zq6]
          refine zqk 5 rfl hS0 ?_
          simp only [Act.put, zq1, zq2, zq3, zq4, zq5, zq6]
          refine zqk 6 rfl hS0 ?_
          simp only [Act.put, zq1, zq2, zq3, zq4, zq5, zq6]
          refine zqk 7 rfl hS0 ?_
          simp only [Act.put, zq1, zq2, zq3, zq4, zq5, zq6]
          refine zqk 8 rfl hS0 ?_
          simp only [Act.put, zq1, zq2, zq3, zq4, zq5, zq6]
          refine zqk 9 rfl hS0 ?_
          simp only [Act.put, zq1, zq2, zq3, zq4, zq5, zq6]
          refine zqk 10 rfl hS0 ?_
          simp only [Act.put, zq1, zq2, zq3, zq4, zq5, zq6]
          refine zqk 11 rfl hS0 ?_
          simp only [Act.put, zq1, zq2, zq3, zq4, zq5, zq6]
          refine zqk 12 rfl hS0 ?_
          simp only [Act.put, zq1, zq2, zq3, zq4, zq5, zq6]
          refine zqk 13 rfl hS0 ?_
          simp only [Act.put, zq1, zq2, zq3, zq4, zq5, zq6]
          refine zqk 14 rfl hS0 ?_
          simp only [Act.put, zq1, zq2, zq3, zq4, zq5, zq6]
          refine zqk 15 rfl hS0 ?_
          simp only [Act.put, zq1, zq2, zq3, zq4, zq5, zq6]
          refine zqk 16 rfl hS0 ?_
          simp only [Act.put, zq1, zq2, zq3, zq4, zq5, zq6]
          refine zqr 17 rfl (fun K hK => ?_)
          refine st_holdsW rfl 129 133 rfl rfl rfl (R := fun W' => Below Wz.heap.size Wz W') HHO.out ?_
          rintro Wa ba
          have hra := HRZ.out.kept ba
          have hSa := HSS.out Wa hra
          refine hK.out _ _ hSa fun _ => ?_
          simp only [Act.put, zq1, zq2, zq3, zq4, zq5, zq6]
          clear hK K ba
          refine zqk 18 rfl hSa ?_
          simp only [Act.put, zq1, zq2, zq3, zq4, zq5, zq6]
          refine zqk 19 rfl hSa ?_
          simp only [Act.put, zq1, zq2, zq3, zq4, zq5, zq6]
          refine wpAnyH_done (by kernel_rfl) ?_ _
          have h9 := HRST.out (.bool false) (.bool true) (.bool true) (.int .i64 (wl.length : Int)) (.slice wa wl.length wc) (.int .i64 (wl.length : Int)) (.bool false) (.bool false) (.bool false) (.pointer (some ⟨gw, 0, none⟩)) (.pointer (some ⟨gw, 0, none⟩)) (.pointer (some ⟨gw, 0, none⟩)) (.pointer (some ⟨g, 0, none⟩)) (.pointer (some ⟨gw, 0, none⟩)) (.pointer (some ⟨gw, 0, none⟩)) (.pointer (some ⟨gw, 4, none⟩)) nv1 (.bool true) (.bool false) Wa hra
          simp only [Act.put, zq1, zq2, zq3] at h9
          exact h9
    rw [← hA2] at HRS2
    rw [← hA2]
    clear hK4 hA2
    cases all with
    | false =>
      gi_wp2
      have h9 := HRS2.out (.bool false) undef undef undef undef undef mR lo hi W7 rfl rfl (HMW.out B14 mR lo hi _ W7 HL7.out.2.2.1 HL7.out.2.2.2.2 HL7.out.1 HL7.out.2.1)
      simp only [Act.put, zq1, zq2, zq3] at h9
      exact h9
    | true =>
      have hm7 := HMW.out B14 mR lo hi _ W7 HL7.out.2.2.1 HL7.out.2.2.2.2 HL7.out.1 HL7.out.2.1
      have y13 := hm7.wp.cell 0 _ rfl
      have yg0 := hm7.ws.wk.box.cell 0 _ rfl
      have HBW : Hid (B14 < W7.heap.size) := HL7.out.1.lt
      clear hm7
      gi_wp2
      refine ⟨trivial, (callsIn_wide.2 (ixall_any g W7)).mono ?_⟩
      rintro e W8 ⟨rfl, k1, k2, k3, b8⟩
      have l14 := HL7.out.1.kept b8
      have y14 := l14.cell 0 _ rfl
      have f14 := l14.free 0
      obtain ⟨mA, hmA⟩ : ∃ x, x = W7.heap.size := ⟨_, rfl⟩
      rw [← hmA] at k1 k2 k3 HBW ⊢
      have H9 : Hid (MW w B10 B11 B12 B13 B14 gw g b base mA true lo hi (-9223372036854775808) 9223372036854775807 stop (.slice aa m ca) (.func (.func 57) #[] #[.pointer (some ⟨mA, 0, none⟩), .pointer (some ⟨mA + 1, 0, none⟩), .pointer (some ⟨mA + 2, 0, none⟩)]) ps.length (.slice va ps.length vc) ps (W8.setCell ⟨B14, 0, none⟩ (.func (.func 57) #[] #[.pointer (some ⟨mA, 0, none⟩), .pointer (some ⟨mA + 1, 0, none⟩), .pointer (some ⟨mA + 2, 0, none⟩)]))) := by
        have hb := HBW.out
        have far : ∀ {q : Nat} {t : TypeId} {D : List Value}, LB W8 q t D → mA ≤ q → LB (W8.setCell ⟨B14, 0, none⟩ (.func (.func 57) #[] #[.pointer (some ⟨mA, 0, none⟩), .pointer (some ⟨mA + 1, 0, none⟩), .pointer (some ⟨mA + 2, 0, none⟩)])) q t D := fun {q t D} L hq => (show _ = _ from set_other _ _ _ _ (show q ≠ B14 by omega)).trans L
        exact HMW.out B14 mA _ _ _ _ ((andThen HL7.out.2.2.1 b8).setCell (p := ⟨B14, 0, none⟩) HL7.out.2.2.2.1 _) (by have := HL7.out.2.2.1.size; omega) (l14.set 0 _) ⟨far k1 (by omega), far k2 (by omega), far k3 (by omega)⟩
      clear k1 k2 k3 b8 l14 y13 yg0 hmA
      gi_wp2
      have h9 := HRS2.out (.bool true) (.pointer (some ⟨gw, 0, none⟩)) (.pointer (some ⟨gw, 0, none⟩)) (.pointer (some ⟨gw, 0, none⟩)) (.pointer (some ⟨g, 0, none⟩)) (.func (.func 57) #[] #[.pointer (some ⟨mA, 0, none⟩), .pointer (some ⟨mA + 1, 0, none⟩), .pointer (some ⟨mA + 2, 0, none⟩)]) mA (-9223372036854775808) 9223372036854775807 _ rfl rfl H9.out
      simp only [Act.put, zq1, zq2, zq3] at h9
      exact h9
  have L10 := (HL1.out.1.kept HM2.out.2.1).kept HL3.out.2.2
  have y10 := L10.cell 0 _ rfl
  have f10 := L10.free 0
  rw [← hA] at HREST
  rw [← hA]
  have HL10 : Hid (LB W3 B10 76 [.slice aa acts.length ca]) := L10
  clear hK2 hA L10
  by_cases hgt : acts.length ≤ 40
  · have hd : (40 < (acts.length : Int)) = False := by simp; omega
    gi_wp2
    have h9 := HREST.out (.slice aa acts.length ca) (.int .i64 (acts.length : Int)) (.bool false) undef undef acts.length W3 (by omega) HL10.out (Nat.le_refl _) ⟨rfl, rfl, rfl⟩ fun _ _ => rfl
    simp only [Act.put, zq1, zq2, zq3] at h9
    exact h9
  · have hd : (40 < (acts.length : Int)) = True := by simp; omega
    gi_wp2
    have h9 := HREST.out (.slice aa acts.length ca) (.int .i64 (acts.length : Int)) (.bool true) (.slice aa acts.length ca) (.slice aa 40 ca) 40 (W3.setCell ⟨B10, 0, none⟩ (.slice aa 40 ca)) (by omega) (HL10.out.set 0 _) (by simp [World.setCell]) ⟨rfl, rfl, rfl⟩ fun q hq => set_other _ _ _ _ hq
    simp only [Act.put, zq1, zq2, zq3] at h9
    exact h9
end Go.Proofs.Ytceokpklcfmadaa
