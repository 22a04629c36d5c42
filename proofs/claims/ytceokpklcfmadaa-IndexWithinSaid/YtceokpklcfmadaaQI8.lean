import Derived.Sort.MapsRangeIn
import Derived.Test.YtceokpklcfmadaaQI7
/-
  Package index: Encode.
-/
namespace Go.Proofs.Ytceokpklcfmadaa
open Go Go.RowKit Go.ChangeShapes
open Wb
attribute [local go_sem] Oper.semAt_some

theorem has_size (kvs : Ix.Gm) : Maps.size (Ix.dm kvs) = kvs.length := by
  unfold Ix.dm
  rw [Maps.size_eq, List.length_map]
def allE (kvs : Ix.Gm) : List (Int × Int) := prs (within kvs (-9223372036854775808) 9223372036854775807)
/-- what Encode answers -/
def EnPost (kvs : Ix.Gm) (w : World) (e : Ending) (w' : World) : Prop := Below w.heap.size w w' ∧ ((∃ s, Ix.encF kvs (allE kvs) = .ok s ∧ ∃ ad, ∃ m c : Nat, e = .returned (.tuple #[.slice ad m c, .int .i64 0]) ∧ Wb.Own w.heap.size w' (.slice ad m c) s.1) ∨ (∃ (er : Nat) (pre : List (Int × Int)), pre <+: allE kvs ∧ Ix.encF kvs pre = .error er ∧ e = .returned (.tuple #[.slice none 0 0, .int .i64 (er : Int)])))
section
variable (w : World) (g b base n : Nat) (kvs : Ix.Gm) (B1 B2 B3 B4 B5 B6 : Nat)
def IE (pre : List PI) (W : World) : Prop := ∃ (o : List Nat) (key off : Int), Ix.encF kvs (pre.map (·.1)) = .ok (o, key, off) ∧ ES w g b base n kvs B1 B2 B3 B4 B5 B6 o key off W ∧ o.length ≤ 10 + 30 * pre.length
def IXE (c : Code) (pre : List PI) (W : World) : Prop := c = .ret ∧ ∃ (er : Nat) (x : Value) (key off : Int), Ix.encF kvs (pre.map (·.1)) = .error er ∧ ES0 w g b base n kvs B1 B2 B3 B4 B5 B6 x key off (.slice none 0 0) (er : Int) W
end
theorem IE_own (w : World) (g b base n : Nat) (kvs : Ix.Gm) (B1 B2 B3 B4 B5 B6 Z : Nat) (hm : MI w g b base n kvs) (hZ : w.heap.size ≤ Z) : OwnFrom Z (IE w g b base n kvs B1 B2 B3 B4 B5 B6) := by
  rintro s A A' row ⟨o, key, off, e1, ⟨ad, m, c, h1, h2⟩, e2⟩ hg hr
  refine ⟨o, key, off, e1, ⟨ad, m, c, h1.other hm hg fun r e => ?_, ?_⟩, e2⟩
  · obtain ⟨hB, ob, h3, h4⟩ := hr r e
    exact ⟨Nat.le_trans hZ hB, h1.nonc h3 h4⟩
  · refine ⟨h2.row.kept hg ?_, h2.good⟩
    cases eb : (Value.slice ad m c).ownBlock with
    | none => exact .inl rfl
    | some q =>
      refine .inr fun e3 => ?_
      obtain ⟨-, ob, h3, h4⟩ := hr q e3.symm
      rcases h2.row.2 with ⟨e5, -⟩ | ⟨g', cap, cur, e5, -, hh, -⟩
      · rw [e5] at eb
        cases eb
      · rw [e5] at eb
        obtain rfl := Option.some.inj eb
        rw [hh] at h3
        obtain rfl := Option.some.inj h3
        cases h4
theorem IXE_own (w : World) (g b base n : Nat) (kvs : Ix.Gm) (B1 B2 B3 B4 B5 B6 Z : Nat) (hm : MI w g b base n kvs) (hZ : w.heap.size ≤ Z) (c : Code) : OwnFrom Z (IXE w g b base n kvs B1 B2 B3 B4 B5 B6 c) := by
  rintro s A A' row ⟨hc, er, x, key, off, e1, h1⟩ hg hr
  refine ⟨hc, er, x, key, off, e1, h1.other hm hg fun r e => ?_⟩
  obtain ⟨hB, ob, h3, h4⟩ := hr r e
  exact ⟨Nat.le_trans hZ hB, h1.nonc h3 h4⟩
theorem kpI_b {fx : Nat → Prop} {tb : TypeId} (W : World) (l : Nat) (o o' : Obj) (h : W.heap[l]? = some o) (hc : o.isCells = false) : KpI fx tb W (W.putObj l o') := by
  have hg := grownBy_putObj' W l o'
  refine ⟨hg.os, hg.tape, hg.output, hg.size, fun k cs t z e _ _ => (hg.block k (Array.getElem?_eq_some_iff.1 e).1 fun e2 => ?_).trans e⟩
  obtain rfl := Option.some.inj e2
  rw [e] at h
  obtain rfl := Option.some.inj h
  cases hc
theorem own_setB {B : Nat} {W : World} {v : Value} {l : List Nat} (h : Wb.Own B W v l) {q : Nat} {t : TypeId} {D : List Value} (L : LB W q t D) (ht : t ≠ 5) (x : Value) : Wb.Own B (W.setCell ⟨q, 0, none⟩ x) v l := by
  refine ⟨⟨h.row.1, ?_⟩, h.good⟩
  rcases h.row.2 with h1 | ⟨g, cap, cur, rfl, h1, hg, rest⟩
  · exact .inl h1
  · refine .inr ⟨g, cap, cur, rfl, h1, (set_other _ _ _ _ ?_).trans hg, rest⟩
    rintro rfl
    unfold LB at L
    rw [L] at hg
    simp at hg
    exact ht hg.2
theorem own_putObj {B : Nat} {W : World} {v : Value} {l : List Nat} (h : Wb.Own B W v l) {D : Nat} {o : Obj} (hK : W.heap[D]? = some o) (hc : o.isCells = false) (o' : Obj) : Wb.Own B (W.putObj D o') v l := by
  refine ⟨⟨h.row.1, ?_⟩, h.good⟩
  rcases h.row.2 with h1 | ⟨g, cap, cur, rfl, h1, hg, rest⟩
  · exact .inl h1
  · refine .inr ⟨g, cap, cur, rfl, h1, ((grownBy_putObj' W D o').block g (Array.getElem?_eq_some_iff.1 hg).1 fun e => ?_).trans hg, rest⟩
    obtain rfl := Option.some.inj e
    rw [hg] at hK
    obtain rfl := Option.some.inj hK
    cases hc
theorem Ix.u64_eq (x : Int) : IntKind.u64.wrap (IntKind.i64.wrap x) = (Ix.u64 x : Int) := by
  unfold Ix.u64
  generalize IntKind.i64.wrap x = y
  have : 0 ≤ IntKind.u64.wrap y := by
    simp only [IntKind.wrap, IntKind.bits, IntKind.signed]
    simp
    omega
  omega
theorem uint_ne (y : Nat) : Wn.uint y ≠ [] := fun e => by have := Wn.uint_pos y; rw [e] at this; simp at this
set_option maxRecDepth 100000 in
set_option maxHeartbeats 4000000 in
theorem ixenc_any (g b base n : Nat) (kvs : Ix.Gm) (w : World) (h : MI w g b base n kvs) (hk : kvs.length ≤ 1000000) (hN : (allE kvs).length ≤ 1000000) (hnb : n < 1000000000) :
    Calls Try.prog 24 #[.pointer (some ⟨g, 0, none⟩)] w fun e w' => EnPost kvs w e w' := by
  refine callsIn_wide (n := 5) |>.1 ?_
  have HM : Hid (MI w g b base n kvs) := h
  have HNB : Hid (n < 1000000000) := hnb
  clear hnb
  have hwk : IntKind.u64.wrap (kvs.length : Int) = (kvs.length : Int) := IntWalk.u64_in _ (by omega)
  have hsz := has_size kvs
  have HW1 : Hid (∀ W, W = ((w.alloc (.cells #[.pointer (some ⟨g, 0, none⟩)] 23)).alloc (.cells #[.slice none 0 0] 44)).alloc (.cells #[.int .i64 0] 45) → LB W w.heap.size 23 [.pointer (some ⟨g, 0, none⟩)] ∧ LB W (w.heap.size + 1) 44 [.slice none 0 0] ∧ LB W (w.heap.size + 2) 45 [.int .i64 0] ∧ Below w.heap.size w W ∧ W.heap.size = w.heap.size + 3) := fun W e => by
    subst e
    have h1 := lb_new w [.pointer (some ⟨g, 0, none⟩)] 23
    have h2 := lb_new (w.alloc (.cells #[.pointer (some ⟨g, 0, none⟩)] 23)) [.slice none 0 0] 44
    have h3 := lb_new ((w.alloc (.cells #[.pointer (some ⟨g, 0, none⟩)] 23)).alloc (.cells #[.slice none 0 0] 44)) [.int .i64 0] 45
    rw [heap_one] at h2 h3
    rw [heap_one] at h3
    exact ⟨(h1.kept (up0 _ _)).kept (up0 _ _), h2.kept (up0 _ _), h3, up (up (up0 _ _) _) _, by rw [heap_one, heap_one, heap_one]⟩
  clear h
  refine callsIn_of_wp_marks Try.func24 rfl trivial ?_ rfl
  simp only [Try.ntmps24, List.size_toArray, List.length_cons, List.length_nil, Nat.reduceAdd, Nat.reduceSub, Array.replicate_succ, Array.replicate_zero, List.push_toArray, List.append_toArray, List.nil_append, List.cons_append]
  gi_upto_region 3 with fail
  obtain ⟨W1, hW1⟩ : ∃ W1, W1 = ((w.alloc (.cells #[.pointer (some ⟨g, 0, none⟩)] 23)).alloc (.cells #[.slice none 0 0] 44)).alloc (.cells #[.int .i64 0] 45) := ⟨_, rfl⟩
  obtain ⟨l1, l2, l3, b1, s1⟩ := HW1.out _ hW1
  rw [← hW1]
  clear hW1 HW1
  have m1 : MI W1 g b base n kvs := HM.out.kept b1
  have y1 := l1.cell 0 _ rfl
  have yg := m1.box.cell 0 _ rfl
  have H1 : Hid (LB W1 w.heap.size 23 [.pointer (some ⟨g, 0, none⟩)] ∧ LB W1 (w.heap.size + 1) 44 [.slice none 0 0] ∧ LB W1 (w.heap.size + 2) 45 [.int .i64 0] ∧ Below w.heap.size w W1 ∧ W1.heap.size = w.heap.size + 3 ∧ MI W1 g b base n kvs) := ⟨l1, l2, l3, b1, s1, m1⟩
  have HOW : Hid (W1.ownsMap Try.prog 3 (rowE W1 base b) b n (Ix.dm kvs)) := m1.ownsE
  clear l1 l2 l3 b1 s1 m1
  gi_wp2_with (gi_at_len; refine wpListIn_len_own _ rfl _ 97 rfl 3 35 Try.underlying97 _ b n _ rfl HOW.out ?_)
  refine ⟨trivial, (callsIn_wide.2 (uint_any kvs.length W1 (by omega))).mono ?_⟩
  rintro e W2 ⟨v2, rfl, o2, b2⟩
  obtain ⟨a2, c2, e2, -⟩ := o2.bs.shape
  subst e2
  obtain ⟨m2, hm2⟩ : ∃ m2, (Wn.uint kvs.length).length = m2 := ⟨_, rfl⟩
  rw [hm2] at o2 ⊢
  have hlen2 : (Wn.uint kvs.length).length ≤ 10 := Wn.uint_len10 _ (by omega)
  have HW3 : Hid (∀ W, W = ((W2.alloc (.cells #[.slice a2 m2 c2] 44)).alloc (.cells #[.int .i64 0] 3)).alloc (.cells #[.int .i64 0] 3) → ES0 w g b base n kvs w.heap.size (w.heap.size + 1) (w.heap.size + 1 + 1) W2.heap.size (W2.heap.size + 1) (W2.heap.size + 1 + 1) (.slice a2 m2 c2) 0 0 (.slice none 0 0) 0 W ∧ Wb.Own w.heap.size W (.slice a2 m2 c2) (Wn.uint kvs.length) ∧ Bxs w w.heap.size (w.heap.size + 1) (w.heap.size + 1 + 1) W2.heap.size (W2.heap.size + 1) (W2.heap.size + 1 + 1) ∧ W.heap.size = W2.heap.size + 3) := fun W e => by
    subst e
    have h1 := lb_new W2 [.slice a2 m2 c2] 44
    have h2 := lb_new (W2.alloc (.cells #[.slice a2 m2 c2] 44)) [.int .i64 0] 3
    have h3 := lb_new ((W2.alloc (.cells #[.slice a2 m2 c2] 44)).alloc (.cells #[.int .i64 0] 3)) [.int .i64 0] 3
    rw [heap_one] at h2 h3
    rw [heap_one] at h3
    have hb : Below W2.heap.size W2 (((W2.alloc (.cells #[.slice a2 m2 c2] 44)).alloc (.cells #[.int .i64 0] 3)).alloc (.cells #[.int .i64 0] 3)) := up (up (up0 _ _) _) _
    have hs := b2.size
    have h9 := H1.out.2.2.2.2.1
    refine ⟨⟨(H1.out.1.kept b2).kept hb, (H1.out.2.1.kept b2).kept hb, (H1.out.2.2.1.kept b2).kept hb, (h1.kept (up0 _ _)).kept (up0 _ _), h2.kept (up0 _ _), h3, (H1.out.2.2.2.2.2.kept b2).kept hb, andThen (andThen H1.out.2.2.2.1 b2) hb⟩, (o2.mono H1.out.2.2.2.1.size).kept hb, ⟨⟨Nat.le_refl _, by omega, by omega, by omega, by omega, by omega⟩, by omega, by omega⟩, by rw [heap_one, heap_one, heap_one]⟩
  clear o2 b2 y1 yg HOW hsz hwk
  gi_upto_region 5 with fail
  obtain ⟨W3, hW3⟩ : ∃ W3, W3 = ((W2.alloc (.cells #[.slice a2 m2 c2] 44)).alloc (.cells #[.int .i64 0] 3)).alloc (.cells #[.int .i64 0] 3) := ⟨_, rfl⟩
  obtain ⟨es3, o3, bx3, s3⟩ := HW3.out _ hW3
  rw [← hW3]
  clear hW3 HW3
  have y1 := es3.m.cell 0 _ rfl
  have H3 : Hid (ES0 w g b base n kvs w.heap.size (w.heap.size + 1) (w.heap.size + 1 + 1) W2.heap.size (W2.heap.size + 1) (W2.heap.size + 1 + 1) (.slice a2 m2 c2) 0 0 (.slice none 0 0) 0 W3 ∧ Wb.Own w.heap.size W3 (.slice a2 m2 c2) (Wn.uint kvs.length)) := ⟨es3, o3⟩
  have HBX : Hid (Bxs w w.heap.size (w.heap.size + 1) (w.heap.size + 1 + 1) W2.heap.size (W2.heap.size + 1) (W2.heap.size + 1 + 1)) := bx3
  have HS3 : Hid (W3.heap.size = W2.heap.size + 3) := s3
  clear es3 o3 bx3 s3
  gi_wp2
  refine ⟨trivial, (callsIn_wide.2 (ixall_any g W3)).mono ?_⟩
  rintro e W4 ⟨rfl, k1, k2, k3, b4⟩
  obtain ⟨bm, hbm⟩ : ∃ bm, W3.heap.size = bm := ⟨_, rfl⟩
  rw [hbm] at k1 k2 k3 ⊢
  have H4 : Hid (ES0 w g b base n kvs w.heap.size (w.heap.size + 1) (w.heap.size + 1 + 1) W2.heap.size (W2.heap.size + 1) (W2.heap.size + 1 + 1) (.slice a2 m2 c2) 0 0 (.slice none 0 0) 0 W4 ∧ Wb.Own w.heap.size W4 (.slice a2 m2 c2) (Wn.uint kvs.length) ∧ LB W4 bm 23 [.pointer (some ⟨g, 0, none⟩)] ∧ LB W4 (bm + 1) 3 [.int .i64 (-9223372036854775808)] ∧ LB W4 (bm + 2) 3 [.int .i64 9223372036854775807] ∧ bm = W2.heap.size + 3 ∧ bm ≤ W4.heap.size) := ⟨H3.out.1.kept b4, H3.out.2.kept b4, k1, k2, k3, by rw [← hbm]; exact HS3.out, by rw [← hbm]; exact b4.size⟩
  clear k1 k2 k3 b4 H3 y1 hbm
  gi_wp2
  generalize w.heap.size + 1 + 1 = B3 at H4 HBX ⊢
  generalize w.heap.size + 1 = B2 at H4 HBX ⊢
  generalize W2.heap.size + 1 + 1 = B6 at H4 HBX ⊢
  generalize W2.heap.size + 1 = B5 at H4 HBX ⊢
  generalize W2.heap.size = B4 at H4 HBX ⊢
  obtain ⟨fxx, hfxx⟩ : ∃ fxx, fxx = fxE B2 B3 B4 B5 B6 := ⟨_, rfl⟩
  have HFX : Hid (fxx B4) := by show fxx B4; rw [hfxx]; exact .inr (.inr (.inl rfl))
  have HF5 : Hid (fxx B5 ∧ fxx B6 ∧ fxx B2 ∧ fxx B3) := by show _ ∧ _; rw [hfxx]; exact ⟨.inr (.inr (.inr (.inl rfl))), .inr (.inr (.inr (.inr rfl))), .inl rfl, .inr (.inl rfl)⟩
  have HFK : Hid (∀ W, Below W4.heap.size W4 W → ∀ k, fxx k → k < W.heap.size ∧ ¬ Mrow W b k) := fun W hW k hk => by
    rw [hfxx] at hk
    have es := H4.out.1.kept hW
    have hB := HBX.out.le
    rcases hk with rfl | rfl | rfl | rfl | rfl
    · exact ⟨es.r1.lt, (es.away HM.out hB.2.1).2.2⟩
    · exact ⟨es.r2.lt, (es.away HM.out hB.2.2.1).2.2⟩
    · exact ⟨es.o.lt, (es.away HM.out hB.2.2.2.1).2.2⟩
    · exact ⟨es.k.lt, (es.away HM.out hB.2.2.2.2.1).2.2⟩
    · exact ⟨es.f.lt, (es.away HM.out hB.2.2.2.2.2).2.2⟩
  clear hfxx
  refine wpIn_rangeFunc_ownF rfl (by omega) (gf := 57) (lb := #[.pointer (some ⟨bm, 0, none⟩), .pointer (some ⟨bm + 1, 0, none⟩), .pointer (some ⟨bm + 2, 0, none⟩)]) rfl trivial (enters_of Try.func57 (by kernel_rfl) rfl) (encs := encsP) (Kp := KpI fxx 5) (S := fun xs : List PI => xs.map (·.1) = allE kvs) (Sp := fun pre : List PI => pre.map (·.1) <+: allE kvs) (N := (allE kvs).length) (w0 := W4) ?seq KpI.trans (fun W l o o' _ h1 h2 _ => kpI_b W l o o' h1 h2) (Below.refl _ _) (fun _ => rfl) (IE w g b base n kvs w.heap.size B2 B3 B4 B5 B6) (IXE w g b base n kvs w.heap.size B2 B3 B4 B5 B6) (IE_own w g b base n kvs w.heap.size B2 B3 B4 B5 B6 W4.heap.size HM.out H4.out.1.bel.size) (IXE_own w g b base n kvs w.heap.size B2 B3 B4 B5 B6 W4.heap.size HM.out H4.out.1.bel.size) ?h0 (fun x => { tmps := #[.pointer (some ⟨g, 0, none⟩), .pointer (some ⟨w.heap.size, 0, none⟩), .pointer (some ⟨B2, 0, none⟩), .pointer (some ⟨B3, 0, none⟩), .pointer (some ⟨B4, 0, none⟩), .pointer (some ⟨B5, 0, none⟩), .pointer (some ⟨B6, 0, none⟩), .int .i64 x.1.1, .int .i64 x.1.2, undef, .pointer (some ⟨g, 0, none⟩), .bool false, .pointer (some ⟨g, 0, none⟩), .pointer (some ⟨g, 0, none⟩), .pointer (some ⟨g, 0, none⟩), .map (some b), .int .i64 (kvs.length : Int), .int .u64 (kvs.length : Int), .slice a2 m2 c2, .pointer (some ⟨g, 0, none⟩), .func (.func 57) #[] #[.pointer (some ⟨bm, 0, none⟩), .pointer (some ⟨bm + 1, 0, none⟩), .pointer (some ⟨bm + 2, 0, none⟩)], .int .i64 x.1.1, .int .i64 x.1.2, undef, undef, undef, undef, undef, undef, undef, undef, undef, undef, undef, undef, undef, undef, undef, undef, undef, undef, undef, undef, undef, undef, undef, undef, undef, undef, undef, undef, undef, undef, undef, undef, undef, undef, undef, undef, undef, undef, undef, undef, undef, undef, undef, undef, undef, undef], defers := [] }) ?assign ?body ?done ?stop
  case seq =>
    intro l J Jx W hW hJ _ hY h0
    exact ixrange1_in 4 l fxx 5 g b base n kvs _ _ bm (bm + 1) (bm + 2) W (H4.out.1.mi.kept hW) (by omega) ((H4.out.2.2.1.kept hW).cell 0 _ rfl) ((H4.out.2.2.2.1.kept hW).cell 0 _ rfl) ((H4.out.2.2.2.2.1.kept hW).cell 0 _ rfl) (HFK.out W hW) (by decide) (by decide) J Jx hJ hY h0
  case h0 => exact ⟨Wn.uint kvs.length, 0, 0, rfl, ⟨a2, m2, c2, H4.out.1, H4.out.2.1⟩, by simpa using hlen2⟩
  case assign =>
    intro l x W K hK
    unfold encsP
    gi_wp2
    exact hK
  case done =>
    rintro D ys W hD hS ⟨o, key, off, e1, ⟨ad, m, c, st, ow⟩, -⟩ hK
    have y4 := st.o.cell 0 _ rfl
    have y2 := st.r1.cell 0 _ rfl
    have f2 := st.r1.free 0
    have st1 := st.setR1 HM.out HBX.out (.slice ad m c)
    have y3 := st1.r2.cell 0 _ rfl
    have f3 := st1.r2.free 0
    have st2 := st1.setR2 HM.out HBX.out 0
    have hK2 := ((KeepsOthers.setCell W ⟨B2, 0, none⟩ (.slice ad m c)).trans (KeepsOthers.setCell _ ⟨B3, 0, none⟩ (.int .i64 0))).same D _ hK rfl
    have H9 : Hid (ES0 w g b base n kvs w.heap.size B2 B3 B4 B5 B6 (.slice ad m c) key off (.slice ad m c) 0 ((W.setCell ⟨B2, 0, none⟩ (.slice ad m c)).setCell ⟨B3, 0, none⟩ (.int .i64 0)) ∧ Wb.Own w.heap.size ((W.setCell ⟨B2, 0, none⟩ (.slice ad m c)).setCell ⟨B3, 0, none⟩ (.int .i64 0)) (.slice ad m c) o) := ⟨st2, own_setB (own_setB ow st.r1 (by decide) _) st1.r2 (by decide) _⟩
    clear st st1 st2 ow
    gi_wp2
    refine ⟨by simp, .inl ⟨_, _, rfl, run_takeDeferred hK2, ?_⟩⟩
    have st9 := H9.out.1.other HM.out (grownBy_putObj' _ D (.deferred none)) (fun r e => by cases e; exact ⟨Nat.le_trans H4.out.1.bel.size hD, H9.out.1.nonc hK2 rfl⟩)
    have ow9 := own_putObj H9.out.2 hK2 rfl (.deferred none)
    have z2 := st9.r1.cell 0 _ rfl
    have z3 := st9.r2.cell 0 _ rfl
    refine ⟨.tuple #[.slice ad m c, .int .i64 0], ?_, st9.bel, .inl ⟨(o, key, off), by rw [← hS]; exact e1, ad, m, c, rfl, ow9⟩⟩
    simp [results, Try.f24, go_sem, z2, z3]
  case stop =>
    rintro D c pre W hD hSp ⟨rfl, er, x, key, off, e1, st⟩ hK
    have H9 : Hid (ES0 w g b base n kvs w.heap.size B2 B3 B4 B5 B6 x key off (.slice none 0 0) (er : Int) W) := st
    clear st
    gi_wp2
    refine ⟨by simp, .inl ⟨_, _, rfl, run_takeDeferred hK, ?_⟩⟩
    have st9 := H9.out.other HM.out (grownBy_putObj' _ D (.deferred none)) (fun r e => by cases e; exact ⟨Nat.le_trans H4.out.1.bel.size hD, H9.out.nonc hK rfl⟩)
    have z2 := st9.r1.cell 0 _ rfl
    have z3 := st9.r2.cell 0 _ rfl
    refine ⟨.tuple #[.slice none 0 0, .int .i64 (er : Int)], ?_, st9.bel, .inr ⟨er, pre.map (·.1), hSp, e1, rfl⟩⟩
    simp [results, Try.f24, go_sem, z2, z3]
  case body =>
    rintro l pre ⟨⟨k, v⟩, hwk, hwv⟩ WW ⟨o, key, off, e1, hES, hol⟩ hlen
    have hsn := Ix.encF_snoc kvs (pre.map (·.1)) (k, v)
    rw [e1] at hsn
    change Ix.encF kvs (pre.map (·.1) ++ [(k, v)]) = Ix.encS kvs (o, key, off) (k, v) at hsn
    have HSN : Hid (∀ R, Ix.encS kvs (o, key, off) (k, v) = R → Ix.encF kvs ((pre ++ [(⟨(k, v), hwk, hwv⟩ : PI)]).map (·.1)) = R) := fun R hR => by
      rw [List.map_append]
      exact hsn.trans hR
    have HLN : Hid (o.length ≤ 10 + 30 * pre.length ∧ pre.length < 1000000) := ⟨hol, by omega⟩
    have HES : Hid (ES w g b base n kvs w.heap.size B2 B3 B4 B5 B6 o key off WW) := hES
    have y5 : WW.cell? ⟨B5, 0, none⟩ = some (.int .i64 key) := by obtain ⟨ad0, m0, c0, st, -⟩ := HES.out; exact st.k.cell 0 _ rfl
    have y6 : WW.cell? ⟨B6, 0, none⟩ = some (.int .i64 off) := by obtain ⟨ad0, m0, c0, st, -⟩ := HES.out; exact st.f.cell 0 _ rfl
    clear hsn hES hol hlen e1
    unfold Ix.encS at HSN
    dsimp only at HSN
    by_cases hk1 : k < 1
    · have h1 : (k < 1) = True := by simp [hk1]
      have HSE : Hid (Ix.encF kvs ((pre ++ [(⟨(k, v), hwk, hwv⟩ : PI)]).map (·.1)) = .error 50) := HSN.out _ (by rw [if_pos hk1])
      obtain ⟨ad0, m0, c0, st, ow⟩ := HES.out
      have y2 := st.r1.cell 0 _ rfl
      have f2 := st.r1.free 0
      have st1 := st.setR1 HM.out HBX.out (.slice none 0 0)
      have y3 := st1.r2.cell 0 _ rfl
      have f3 := st1.r2.free 0
      have H9 : Hid (ES0 w g b base n kvs w.heap.size B2 B3 B4 B5 B6 (.slice ad0 m0 c0) (key) (off) (.slice none 0 0) 50 ((WW.setCell ⟨B2, 0, none⟩ (.slice none 0 0)).setCell ⟨B3, 0, none⟩ (.int .i64 50)) ∧ KeepsOthers WW ((WW.setCell ⟨B2, 0, none⟩ (.slice none 0 0)).setCell ⟨B3, 0, none⟩ (.int .i64 50))) := ⟨st1.setR2 HM.out HBX.out 50, ((KeepsOthers.setCell WW ⟨B2, 0, none⟩ (.slice none 0 0)).trans (KeepsOthers.setCell _ ⟨B3, 0, none⟩ (.int .i64 50)))⟩
      clear st st1 ow
      gi_wp2
      exact ⟨H9.out.2, rfl, 50, _, _, _, HSE.out, H9.out.1⟩
    · have h1 : (k < 1) = False := by simp [hk1]
      rw [if_neg hk1] at HSN
      by_cases hkk : k = key
      · have hne : (k != key) = false := by simp [hkk]
        rw [if_neg (by simpa using hkk)] at HSN
        by_cases hv : v ≤ off
        · have HSE : Hid (Ix.encF kvs ((pre ++ [(⟨(k, v), hwk, hwv⟩ : PI)]).map (·.1)) = .error 52) := HSN.out _ (by rw [if_pos hv])
          clear hkk
          by_cases hv2 : v < off
          · have hv3 : (v < off) = True := by simp [hv2]
            obtain ⟨ad0, m0, c0, st, ow⟩ := HES.out
            have y2 := st.r1.cell 0 _ rfl
            have f2 := st.r1.free 0
            have st1 := st.setR1 HM.out HBX.out (.slice none 0 0)
            have y3 := st1.r2.cell 0 _ rfl
            have f3 := st1.r2.free 0
            have H9 : Hid (ES0 w g b base n kvs w.heap.size B2 B3 B4 B5 B6 (.slice ad0 m0 c0) (key) (off) (.slice none 0 0) 52 ((WW.setCell ⟨B2, 0, none⟩ (.slice none 0 0)).setCell ⟨B3, 0, none⟩ (.int .i64 52)) ∧ KeepsOthers WW ((WW.setCell ⟨B2, 0, none⟩ (.slice none 0 0)).setCell ⟨B3, 0, none⟩ (.int .i64 52))) := ⟨st1.setR2 HM.out HBX.out 52, ((KeepsOthers.setCell WW ⟨B2, 0, none⟩ (.slice none 0 0)).trans (KeepsOthers.setCell _ ⟨B3, 0, none⟩ (.int .i64 52)))⟩
            clear st st1 ow
            gi_wp2
            exact ⟨H9.out.2, rfl, 52, _, _, _, HSE.out, H9.out.1⟩
          · have hv3 : (v < off) = False := by simp [hv2]
            have hv4 : (v == off) = true := by simp; omega
            obtain ⟨ad0, m0, c0, st, ow⟩ := HES.out
            have y2 := st.r1.cell 0 _ rfl
            have f2 := st.r1.free 0
            have st1 := st.setR1 HM.out HBX.out (.slice none 0 0)
            have y3 := st1.r2.cell 0 _ rfl
            have f3 := st1.r2.free 0
            have H9 : Hid (ES0 w g b base n kvs w.heap.size B2 B3 B4 B5 B6 (.slice ad0 m0 c0) (key) (off) (.slice none 0 0) 52 ((WW.setCell ⟨B2, 0, none⟩ (.slice none 0 0)).setCell ⟨B3, 0, none⟩ (.int .i64 52)) ∧ KeepsOthers WW ((WW.setCell ⟨B2, 0, none⟩ (.slice none 0 0)).setCell ⟨B3, 0, none⟩ (.int .i64 52))) := ⟨st1.setR2 HM.out HBX.out 52, ((KeepsOthers.setCell WW ⟨B2, 0, none⟩ (.slice none 0 0)).trans (KeepsOthers.setCell _ ⟨B3, 0, none⟩ (.int .i64 52)))⟩
            clear st st1 ow
            gi_wp2
            exact ⟨H9.out.2, rfl, 52, _, _, _, HSE.out, H9.out.1⟩
        · have hv3 : (v < off) = False := by simp; omega
          have hv4 : (v == off) = false := by simp; omega
          obtain ⟨y2, hy2, hyv⟩ : ∃ y2 : Nat, IntKind.u64.wrap (IntKind.i64.wrap (v - off)) = (y2 : Int) ∧ y2 = Ix.u64 (v - off) := ⟨Ix.u64 (v - off), Ix.u64_eq _, rfl⟩
          have HY2 : Hid (y2 < 18446744073709551616) := by show y2 < _; rw [hyv]; exact Ix.u64_lt _
          have HSE : Hid (Ix.encF kvs ((pre ++ [(⟨(k, v), hwk, hwv⟩ : PI)]).map (·.1)) = .ok (o ++ Wn.uint y2, key, v)) := HSN.out _ (by rw [if_neg hv, hyv])
          clear hv hkk hyv
          gi_upto_region 17 with fail
          gi_cut [8] from 60 (fun s8 wx => s8 = .int .i64 v ∧ ES w g b base n kvs w.heap.size B2 B3 B4 B5 B6 (o ++ Wn.uint y2) key off wx ∧ RL w fxx WW wx)
          case first =>
            have HSS : Hid (∀ (xx : Value) (V : World), ES0 w g b base n kvs w.heap.size B2 B3 B4 B5 B6 xx key off (.slice none 0 0) 0 V → V.cell? ⟨B6, 0, none⟩ = some (.int .i64 off)) := fun xx V st => st.f.cell 0 _ rfl
            have HLB : Hid ((o).length + (Wn.uint y2).length ≤ 1000000000000) := by
              have h7 := Wn.uint_len10 y2 HY2.out
              have h8 := HLN.out
              show _ ≤ _
              omega
            obtain ⟨ad0, m0, c0, st00, ow00⟩ := HES.out
            have st0 := st00.kept (W' := WW.drew) (Below.drew (Below.refl _ _))
            have ow0 := ow00.kept (w' := WW.drew) (Below.drew (Below.refl _ _))
            have rl0 : RL w fxx WW WW.drew := (RL.refl w fxx WW).trans (RL.of (Below.drew (Below.refl _ _)) (by obtain ⟨_, _, _, s9, _⟩ := HES.out; exact s9.bel.size))
            clear st00 ow00
            refine regionIn_of (S := fun W' : World => W'.cell? ⟨B6, 0, none⟩ = some (.int .i64 off)) (by rintro ⟨_, _, h⟩; exact h) (by kernel_rfl) (by kernel_rfl) (HSS.out _ _ st0) (fun hH => ?_)
            obtain ⟨V0, hV0⟩ : ∃ V0, V0 = WW.drew := ⟨_, rfl⟩
            rw [← hV0] at st0 ow0 rl0 hH ⊢
            clear hV0
            refine zqk 1 rfl hH ?_
            simp only [Act.put, List.setIfInBounds_toArray, List.set_cons_zero, List.set_cons_succ, List.getElem_toArray, List.getElem_cons_zero, List.getElem_cons_succ]
            refine zqk 2 rfl hH ?_
            simp only [Act.put, List.setIfInBounds_toArray, List.set_cons_zero, List.set_cons_succ, List.getElem_toArray, List.getElem_cons_zero, List.getElem_cons_succ]
            refine zqk 3 rfl hH ?_
            simp only [Act.put, List.setIfInBounds_toArray, List.set_cons_zero, List.set_cons_succ, List.getElem_toArray, List.getElem_cons_zero, List.getElem_cons_succ]
            refine zqk 4 rfl hH ?_
            simp only [Act.put, List.setIfInBounds_toArray, List.set_cons_zero, List.set_cons_succ, List.getElem_toArray, List.getElem_cons_zero, List.getElem_cons_succ]
            refine wpAnyH_ready (rs := [0, 5]) (by kernel_rfl) (by simp) ?_
            refine AllReadyH.cons rfl (fun K hK => ?_) (AllReadyH.cons rfl (fun K hK => ?_) AllReadyH.nil)
            · refine st_ld rfl 4 rfl rfl (st0.o.cell 0 _ rfl) ?_
              refine hK.out _ _ hH (fun hH => ?_)
              clear hK K
              simp only [Act.put, List.setIfInBounds_toArray, List.set_cons_zero, List.set_cons_succ, List.getElem_toArray, List.getElem_cons_zero]
              refine zqr 5 rfl (fun K hK => ?_)
              refine st_uint rfl 64 rfl rfl HY2.out ?_
              intro V5 ad5 m5 c5 ou b5
              have st := st0.kept b5
              have ow := ow0.kept b5
              have rl5 := rl0.trans (RL.of b5 st0.bel.size)
              refine hK.out _ _ (HSS.out _ _ st) (fun hH => ?_)
              clear hK K st0 ow0 rl0 b5
              simp only [Act.put, List.setIfInBounds_toArray, List.set_cons_zero, List.set_cons_succ, List.getElem_toArray, List.getElem_cons_zero, List.getElem_cons_succ]
              obtain ⟨ad6, m6, c6, V6, hr6, ow6, st6, rl6⟩ := st.app HM.out ow ou (uint_ne _) (HLB.out) fxx
              refine zqr 6 rfl (fun K hK => ?_)
              refine st_appR rfl 44 (.tmp 60) (.tmp 65) rfl rfl rfl hr6 ?_
              refine hK.out _ _ (HSS.out _ _ st6) (fun hH => ?_)
              clear hK K hr6
              simp only [Act.put, List.setIfInBounds_toArray, List.set_cons_zero, List.set_cons_succ, List.getElem_toArray, List.getElem_cons_zero, List.getElem_cons_succ]
              refine zqr 7 rfl (fun K hK => ?_)
              refine st_st rfl 4 66 rfl rfl rfl st6.o ?_
              have st7 := st6.setO HM.out HBX.out (.slice ad6 m6 c6)
              have ow7 : Wb.Own w.heap.size (V6.setCell ⟨B4, 0, none⟩ (.slice ad6 m6 c6)) (.slice ad6 m6 c6) (o ++ Wn.uint y2) := own_setB ow6 st6.o (by decide) _
              have rl7 : RL w fxx WW (V6.setCell ⟨B4, 0, none⟩ (.slice ad6 m6 c6)) := rl5.trans (rl6.trans (RL.set (w := w) (fx := fxx) (A := V6) B4 0 (.slice ad6 m6 c6) HFX.out HBX.out.le.2.2.2.1))
              generalize V6.setCell ⟨B4, 0, none⟩ (.slice ad6 m6 c6) = V7 at st7 ow7 rl7 ⊢
              refine hK.out _ _ (HSS.out _ _ st7) (fun hH => ?_)
              clear hK K
              simp only [Act.put, List.getElem_toArray, List.getElem_cons_zero, List.getElem_cons_succ]
              refine wpAnyH_done (by kernel_rfl) ?_ _
              have H7 : Hid (ES w g b base n kvs w.heap.size B2 B3 B4 B5 B6 (o ++ Wn.uint y2) key off V7 ∧ RL w fxx WW V7) := ⟨⟨ad6, m6, c6, st7, ow7⟩, rl7⟩
              clear st7 ow7 rl7 st6 ow6 rl6 st ow ou rl5 hH
              gi_wp2
              gi_meet
              exact ⟨rfl, H7.out.1, H7.out.2⟩
            · refine st_uint rfl 64 rfl rfl HY2.out ?_
              intro V5 ad5 m5 c5 ou b5
              have st := st0.kept b5
              have ow := ow0.kept b5
              have rl5 := rl0.trans (RL.of b5 st0.bel.size)
              refine hK.out _ _ (HSS.out _ _ st) (fun hH => ?_)
              clear hK K st0 ow0 rl0 b5
              simp only [Act.put, List.setIfInBounds_toArray, List.set_cons_zero, List.set_cons_succ, List.getElem_toArray, List.getElem_cons_zero, List.getElem_cons_succ]
              refine zqr 0 rfl (fun K hK => ?_)
              refine st_ld rfl 4 rfl rfl (st.o.cell 0 _ rfl) ?_
              refine hK.out _ _ hH (fun hH => ?_)
              clear hK K
              simp only [Act.put, List.setIfInBounds_toArray, List.set_cons_zero, List.set_cons_succ, List.getElem_toArray, List.getElem_cons_zero]
              obtain ⟨ad6, m6, c6, V6, hr6, ow6, st6, rl6⟩ := st.app HM.out ow ou (uint_ne _) (HLB.out) fxx
              refine zqr 6 rfl (fun K hK => ?_)
              refine st_appR rfl 44 (.tmp 60) (.tmp 65) rfl rfl rfl hr6 ?_
              refine hK.out _ _ (HSS.out _ _ st6) (fun hH => ?_)
              clear hK K hr6
              simp only [Act.put, List.setIfInBounds_toArray, List.set_cons_zero, List.set_cons_succ, List.getElem_toArray, List.getElem_cons_zero, List.getElem_cons_succ]
              refine zqr 7 rfl (fun K hK => ?_)
              refine st_st rfl 4 66 rfl rfl rfl st6.o ?_
              have st7 := st6.setO HM.out HBX.out (.slice ad6 m6 c6)
              have ow7 : Wb.Own w.heap.size (V6.setCell ⟨B4, 0, none⟩ (.slice ad6 m6 c6)) (.slice ad6 m6 c6) (o ++ Wn.uint y2) := own_setB ow6 st6.o (by decide) _
              have rl7 : RL w fxx WW (V6.setCell ⟨B4, 0, none⟩ (.slice ad6 m6 c6)) := rl5.trans (rl6.trans (RL.set (w := w) (fx := fxx) (A := V6) B4 0 (.slice ad6 m6 c6) HFX.out HBX.out.le.2.2.2.1))
              generalize V6.setCell ⟨B4, 0, none⟩ (.slice ad6 m6 c6) = V7 at st7 ow7 rl7 ⊢
              refine hK.out _ _ (HSS.out _ _ st7) (fun hH => ?_)
              clear hK K
              simp only [Act.put, List.getElem_toArray, List.getElem_cons_zero, List.getElem_cons_succ]
              refine wpAnyH_done (by kernel_rfl) ?_ _
              have H7 : Hid (ES w g b base n kvs w.heap.size B2 B3 B4 B5 B6 (o ++ Wn.uint y2) key off V7 ∧ RL w fxx WW V7) := ⟨⟨ad6, m6, c6, st7, ow7⟩, rl7⟩
              clear st7 ow7 rl7 st6 ow6 rl6 st ow ou rl5 hH
              gi_wp2
              gi_meet
              exact ⟨rfl, H7.out.1, H7.out.2⟩
          case rest =>
            obtain ⟨rfl, es7, rl7⟩ := hcut
            obtain ⟨ad7, m7, c7, st7, ow7⟩ := es7
            have y6 := st7.f.cell 0 _ rfl
            have f6 := st7.f.free 0
            have H8 : Hid (ES w g b base n kvs w.heap.size B2 B3 B4 B5 B6 (o ++ Wn.uint y2) key v (wc.setCell ⟨B6, 0, none⟩ (.int .i64 v)) ∧ RL w fxx WW (wc.setCell ⟨B6, 0, none⟩ (.int .i64 v))) := ⟨⟨ad7, m7, c7, st7.setF HM.out HBX.out v, own_setB ow7 st7.f (by decide) _⟩, rl7.trans (RL.set (w := w) (fx := fxx) (A := wc) B6 0 (.int .i64 v) HF5.out.2.1 HBX.out.le.2.2.2.2.2)⟩
            have HLE : Hid ((o ++ Wn.uint y2).length ≤ 10 + 30 * (pre.length + 1)) := by
              have h7 := Wn.uint_len10 y2 HY2.out
              have h8 := HLN.out
              show _ ≤ _
              rw [List.length_append]
              omega
            clear st7 ow7 rl7
            gi_wp2
            refine ⟨H8.out.2.ko, H8.out.2.kp, o ++ Wn.uint y2, key, v, ?_, H8.out.1, by have h := HLE.out; simp only [List.length_append, List.length_cons, List.length_nil] at h ⊢; omega⟩
            exact HSE.out
      · have hne : (k != key) = true := by simp [hkk]
        rw [if_pos hkk] at HSN
        obtain ⟨y1, hy1, hyu⟩ : ∃ y1 : Nat, IntKind.u64.wrap (IntKind.i64.wrap (k - key)) = (y1 : Int) ∧ y1 = Ix.u64 (k - key) := ⟨Ix.u64 (k - key), Ix.u64_eq _, rfl⟩
        have HY : Hid (y1 < 18446744073709551616) := by show y1 < _; rw [hyu]; exact Ix.u64_lt _
        rw [← hyu] at HSN
        obtain ⟨ll, hll⟩ : ∃ ll, (Ix.get kvs k).length = ll := ⟨_, rfl⟩
        rw [hll] at HSN
        have HLK : Hid (∀ (xx : Value) (V : World), ES0 w g b base n kvs w.heap.size B2 B3 B4 B5 B6 xx key off (.slice none 0 0) 0 V → ∃ al cl, (Instr.lookup 97 (.map (some b)) (.int .i64 k) false).run Try.prog V = .ok (.slice al ll cl) V) := fun xx V st => by
          obtain ⟨v9, hr9, hoi9, -⟩ := st.mi.at k hwk HNB.out
          obtain ⟨c9, e9⟩ := ints_shape hoi9
          have e8 : c9.2.1 = ll := by
            rcases hoi9.1.2 with ⟨e7, h7⟩ | ⟨g7, c7, u7, e7, -⟩
            · rw [e9] at e7
              simp only [Value.slice.injEq] at e7
              omega
            · rw [e9] at e7
              simp only [Value.slice.injEq] at e7
              omega
          rw [e9, e8] at hr9
          exact ⟨_, _, hr9⟩
        have hll2 : ll < 1000000000 := by
          obtain ⟨ad0, m0, c0, st, -⟩ := HES.out
          obtain ⟨v9, -, -, h9, -⟩ := st.mi.at k hwk HNB.out
          have := HNB.out
          omega
        have hwl : IntKind.u64.wrap (ll : Int) = (ll : Int) := IntWalk.u64_in _ (by omega)
        clear hkk hyu hll
        gi_upto_region 12 with fail
        gi_cut [9] from 29 (fun s9 wx => s9 = .bool true ∧ ES w g b base n kvs w.heap.size B2 B3 B4 B5 B6 (o ++ Wn.uint y1) key off wx ∧ RL w fxx WW wx)
        case first =>
          have HSS : Hid (∀ (xx : Value) (V : World), ES0 w g b base n kvs w.heap.size B2 B3 B4 B5 B6 xx key off (.slice none 0 0) 0 V → V.cell? ⟨B5, 0, none⟩ = some (.int .i64 key)) := fun xx V st => st.k.cell 0 _ rfl
          have HLB : Hid (o.length + (Wn.uint y1).length ≤ 1000000000000) := by
            have h7 := Wn.uint_len10 y1 HY.out
            have h8 := HLN.out
            show _ ≤ _
            omega
          obtain ⟨ad0, m0, c0, st00, ow00⟩ := HES.out
          have st0 := st00.kept (W' := WW.drew) (Below.drew (Below.refl _ _))
          have ow0 := ow00.kept (w' := WW.drew) (Below.drew (Below.refl _ _))
          have rl0 : RL w fxx WW WW.drew := RL.of (Below.drew (Below.refl _ _)) (by obtain ⟨_, _, _, s9, _⟩ := HES.out; exact s9.bel.size)
          clear st00 ow00
          refine regionIn_of (S := fun W' : World => W'.cell? ⟨B5, 0, none⟩ = some (.int .i64 key)) (by rintro ⟨_, _, h⟩; exact h) (by kernel_rfl) (by kernel_rfl) (HSS.out _ _ st0) (fun hH => ?_)
          obtain ⟨V0, hV0⟩ : ∃ V0, V0 = WW.drew := ⟨_, rfl⟩
          rw [← hV0] at st0 ow0 rl0 hH ⊢
          clear hV0
          refine zqk 1 rfl hH ?_
          simp only [Act.put, List.setIfInBounds_toArray, List.set_cons_zero, List.set_cons_succ, List.getElem_toArray, List.getElem_cons_zero, List.getElem_cons_succ]
          refine zqk 2 rfl hH ?_
          simp only [Act.put, List.setIfInBounds_toArray, List.set_cons_zero, List.set_cons_succ, List.getElem_toArray, List.getElem_cons_zero, List.getElem_cons_succ]
          refine zqk 3 rfl hH ?_
          simp only [Act.put, List.setIfInBounds_toArray, List.set_cons_zero, List.set_cons_succ, List.getElem_toArray, List.getElem_cons_zero, List.getElem_cons_succ]
          refine zqk 4 rfl hH ?_
          simp only [Act.put, List.setIfInBounds_toArray, List.set_cons_zero, List.set_cons_succ, List.getElem_toArray, List.getElem_cons_zero, List.getElem_cons_succ]
          refine wpAnyH_ready (rs := [0, 5]) (by kernel_rfl) (by simp) ?_
          refine AllReadyH.cons rfl (fun K hK => ?_) (AllReadyH.cons rfl (fun K hK => ?_) AllReadyH.nil)
          · refine st_ld rfl 4 rfl rfl (st0.o.cell 0 _ rfl) ?_
            refine hK.out _ _ hH (fun hH => ?_)
            clear hK K
            simp only [Act.put, List.setIfInBounds_toArray, List.set_cons_zero, List.set_cons_succ, List.getElem_toArray, List.getElem_cons_zero]
            refine zqr 5 rfl (fun K hK => ?_)
            refine st_uint rfl 33 rfl rfl HY.out ?_
            intro V5 ad5 m5 c5 ou b5
            have st := st0.kept b5
            have ow := ow0.kept b5
            have rl5 := rl0.trans (RL.of b5 st0.bel.size)
            refine hK.out _ _ (HSS.out _ _ st) (fun hH => ?_)
            clear hK K st0 ow0 rl0 b5
            simp only [Act.put, List.setIfInBounds_toArray, List.set_cons_zero, List.set_cons_succ, List.getElem_toArray, List.getElem_cons_zero, List.getElem_cons_succ]
            obtain ⟨ad6, m6, c6, V6, hr6, ow6, st6, rl6⟩ := st.app HM.out ow ou (uint_ne _) (HLB.out) fxx
            refine zqr 6 rfl (fun K hK => ?_)
            refine st_appR rfl 44 (.tmp 29) (.tmp 34) rfl rfl rfl hr6 ?_
            refine hK.out _ _ (HSS.out _ _ st6) (fun hH => ?_)
            clear hK K hr6
            simp only [Act.put, List.setIfInBounds_toArray, List.set_cons_zero, List.set_cons_succ, List.getElem_toArray, List.getElem_cons_zero, List.getElem_cons_succ]
            refine zqr 7 rfl (fun K hK => ?_)
            refine st_st rfl 4 35 rfl rfl rfl st6.o ?_
            have st7 := st6.setO HM.out HBX.out (.slice ad6 m6 c6)
            have ow7 : Wb.Own w.heap.size (V6.setCell ⟨B4, 0, none⟩ (.slice ad6 m6 c6)) (.slice ad6 m6 c6) (o ++ Wn.uint y1) := own_setB ow6 st6.o (by decide) _
            have rl7 : RL w fxx WW (V6.setCell ⟨B4, 0, none⟩ (.slice ad6 m6 c6)) := rl5.trans (rl6.trans (RL.set (w := w) (fx := fxx) (A := V6) B4 0 (.slice ad6 m6 c6) HFX.out HBX.out.le.2.2.2.1))
            generalize V6.setCell ⟨B4, 0, none⟩ (.slice ad6 m6 c6) = V7 at st7 ow7 rl7 ⊢
            refine hK.out _ _ (HSS.out _ _ st7) (fun hH => ?_)
            clear hK K
            simp only [Act.put, List.getElem_toArray, List.getElem_cons_zero, List.getElem_cons_succ]
            refine wpAnyH_done (by kernel_rfl) ?_ _
            have H7 : Hid (ES w g b base n kvs w.heap.size B2 B3 B4 B5 B6 (o ++ Wn.uint y1) key off V7 ∧ RL w fxx WW V7) := ⟨⟨ad6, m6, c6, st7, ow7⟩, rl7⟩
            clear st7 ow7 rl7 st6 ow6 rl6 st ow ou rl5 hH
            gi_wp2
            gi_meet
            exact ⟨rfl, H7.out.1, H7.out.2⟩
          · refine st_uint rfl 33 rfl rfl HY.out ?_
            intro V5 ad5 m5 c5 ou b5
            have st := st0.kept b5
            have ow := ow0.kept b5
            have rl5 := rl0.trans (RL.of b5 st0.bel.size)
            refine hK.out _ _ (HSS.out _ _ st) (fun hH => ?_)
            clear hK K st0 ow0 rl0 b5
            simp only [Act.put, List.setIfInBounds_toArray, List.set_cons_zero, List.set_cons_succ, List.getElem_toArray, List.getElem_cons_zero, List.getElem_cons_succ]
            refine zqr 0 rfl (fun K hK => ?_)
            refine st_ld rfl 4 rfl rfl (st.o.cell 0 _ rfl) ?_
            refine hK.out _ _ hH (fun hH => ?_)
            clear hK K
            simp only [Act.put, List.setIfInBounds_toArray, List.set_cons_zero, List.set_cons_succ, List.getElem_toArray, List.getElem_cons_zero]
            obtain ⟨ad6, m6, c6, V6, hr6, ow6, st6, rl6⟩ := st.app HM.out ow ou (uint_ne _) (HLB.out) fxx
            refine zqr 6 rfl (fun K hK => ?_)
            refine st_appR rfl 44 (.tmp 29) (.tmp 34) rfl rfl rfl hr6 ?_
            refine hK.out _ _ (HSS.out _ _ st6) (fun hH => ?_)
            clear hK K hr6
            simp only [Act.put, List.setIfInBounds_toArray, List.set_cons_zero, List.set_cons_succ, List.getElem_toArray, List.getElem_cons_zero, List.getElem_cons_succ]
            refine zqr 7 rfl (fun K hK => ?_)
            refine st_st rfl 4 35 rfl rfl rfl st6.o ?_
            have st7 := st6.setO HM.out HBX.out (.slice ad6 m6 c6)
            have ow7 : Wb.Own w.heap.size (V6.setCell ⟨B4, 0, none⟩ (.slice ad6 m6 c6)) (.slice ad6 m6 c6) (o ++ Wn.uint y1) := own_setB ow6 st6.o (by decide) _
            have rl7 : RL w fxx WW (V6.setCell ⟨B4, 0, none⟩ (.slice ad6 m6 c6)) := rl5.trans (rl6.trans (RL.set (w := w) (fx := fxx) (A := V6) B4 0 (.slice ad6 m6 c6) HFX.out HBX.out.le.2.2.2.1))
            generalize V6.setCell ⟨B4, 0, none⟩ (.slice ad6 m6 c6) = V7 at st7 ow7 rl7 ⊢
            refine hK.out _ _ (HSS.out _ _ st7) (fun hH => ?_)
            clear hK K
            simp only [Act.put, List.getElem_toArray, List.getElem_cons_zero, List.getElem_cons_succ]
            refine wpAnyH_done (by kernel_rfl) ?_ _
            have H7 : Hid (ES w g b base n kvs w.heap.size B2 B3 B4 B5 B6 (o ++ Wn.uint y1) key off V7 ∧ RL w fxx WW V7) := ⟨⟨ad6, m6, c6, st7, ow7⟩, rl7⟩
            clear st7 ow7 rl7 st6 ow6 rl6 st ow ou rl5 hH
            gi_wp2
            gi_meet
            exact ⟨rfl, H7.out.1, H7.out.2⟩
        case rest =>
          obtain ⟨rfl, es1, rl1⟩ := hcut
          have HE1 : Hid (ES w g b base n kvs w.heap.size B2 B3 B4 B5 B6 (o ++ Wn.uint y1) key off wc ∧ RL w fxx WW wc) := ⟨es1, rl1⟩
          clear es1 rl1 y5 y6
          gi_upto_region 13 with fail
          gi_cut [9] from 36 (fun s9 wx => s9 = .bool true ∧ ES w g b base n kvs w.heap.size B2 B3 B4 B5 B6 (o ++ Wn.uint y1 ++ Wn.uint ll) key off wx ∧ RL w fxx WW wx)
          case first =>
            have HSS : Hid (∀ (xx : Value) (V : World), ES0 w g b base n kvs w.heap.size B2 B3 B4 B5 B6 xx key off (.slice none 0 0) 0 V → V.cell? ⟨w.heap.size, 0, none⟩ = some (.pointer (some ⟨g, 0, none⟩)) ∧ V.cell? ⟨g, 0, none⟩ = some (.map (some b))) := fun xx V st => ⟨st.m.cell 0 _ rfl, st.mi.box.cell 0 _ rfl⟩
            have HYL : Hid (ll < 18446744073709551616) := by show ll < _; omega
            have HLB : Hid ((o ++ Wn.uint y1).length + (Wn.uint ll).length ≤ 1000000000000) := by
              have h7 := Wn.uint_len10 y1 HY.out
              have h9 := Wn.uint_len10 ll HYL.out
              have h8 := HLN.out
              show _ ≤ _
              rw [List.length_append]
              omega
            obtain ⟨ad0, m0, c0, st00, ow00⟩ := HE1.out.1
            have st0 := st00.kept (W' := wc.drew) (Below.drew (Below.refl _ _))
            have ow0 := ow00.kept (w' := wc.drew) (Below.drew (Below.refl _ _))
            have rl0 : RL w fxx WW wc.drew := HE1.out.2.trans (RL.of (Below.drew (Below.refl _ _)) (by obtain ⟨_, _, _, s9, _⟩ := HE1.out.1; exact s9.bel.size))
            clear st00 ow00
            refine regionIn_of (S := fun W' : World => W'.cell? ⟨w.heap.size, 0, none⟩ = some (.pointer (some ⟨g, 0, none⟩)) ∧ W'.cell? ⟨g, 0, none⟩ = some (.map (some b))) (by rintro ⟨_, _, h⟩; exact h) (by kernel_rfl) (by kernel_rfl) (HSS.out _ _ st0) (fun hH => ?_)
            obtain ⟨V0, hV0⟩ : ∃ V0, V0 = wc.drew := ⟨_, rfl⟩
            rw [← hV0] at st0 ow0 rl0 hH ⊢
            clear hV0
            refine zqk 1 rfl hH ?_
            simp only [Act.put, List.setIfInBounds_toArray, List.set_cons_zero, List.set_cons_succ, List.getElem_toArray, List.getElem_cons_zero, List.getElem_cons_succ]
            refine zqk 2 rfl hH ?_
            simp only [Act.put, List.setIfInBounds_toArray, List.set_cons_zero, List.set_cons_succ, List.getElem_toArray, List.getElem_cons_zero, List.getElem_cons_succ]
            refine zqk 3 rfl hH ?_
            simp only [Act.put, List.setIfInBounds_toArray, List.set_cons_zero, List.set_cons_succ, List.getElem_toArray, List.getElem_cons_zero, List.getElem_cons_succ]
            refine zqk 4 rfl hH ?_
            simp only [Act.put, List.setIfInBounds_toArray, List.set_cons_zero, List.set_cons_succ, List.getElem_toArray, List.getElem_cons_zero, List.getElem_cons_succ]
            refine zqk 5 rfl hH ?_
            simp only [Act.put, List.setIfInBounds_toArray, List.set_cons_zero, List.set_cons_succ, List.getElem_toArray, List.getElem_cons_zero, List.getElem_cons_succ]
            refine wpAnyH_ready (rs := [0, 6]) (by kernel_rfl) (by simp) ?_
            refine AllReadyH.cons rfl (fun K hK => ?_) (AllReadyH.cons rfl (fun K hK => ?_) AllReadyH.nil)
            · refine st_ld rfl 4 rfl rfl (st0.o.cell 0 _ rfl) ?_
              refine hK.out _ _ hH (fun hH => ?_)
              clear hK K
              simp only [Act.put, List.setIfInBounds_toArray, List.set_cons_zero, List.set_cons_succ, List.getElem_toArray, List.getElem_cons_zero]
              refine zqr 6 rfl (fun K hK => ?_)
              obtain ⟨al, cl, hrl⟩ := HLK.out _ _ st0
              refine st_look rfl 97 (.tmp 40) (.tmp 41) false rfl rfl rfl hrl ?_
              refine hK.out _ _ hH (fun hH => ?_)
              clear hK K hrl
              simp only [Act.put, List.setIfInBounds_toArray, List.set_cons_zero, List.set_cons_succ, List.getElem_toArray, List.getElem_cons_zero, List.getElem_cons_succ]
              refine zqk 7 rfl hH ?_
              simp only [Act.put, List.setIfInBounds_toArray, List.set_cons_zero, List.set_cons_succ, List.getElem_toArray, List.getElem_cons_zero, List.getElem_cons_succ]
              refine zqk 8 rfl hH ?_
              simp only [Act.put, List.setIfInBounds_toArray, List.set_cons_zero, List.set_cons_succ, List.getElem_toArray, List.getElem_cons_zero, List.getElem_cons_succ]
              refine zqr 9 rfl (fun K hK => ?_)
              refine st_uint rfl 44 rfl rfl HYL.out ?_
              intro V5 ad5 m5 c5 ou b5
              have st := st0.kept b5
              have ow := ow0.kept b5
              have rl5 := rl0.trans (RL.of b5 st0.bel.size)
              refine hK.out _ _ (HSS.out _ _ st) (fun hH => ?_)
              clear hK K st0 ow0 rl0 b5
              simp only [Act.put, List.setIfInBounds_toArray, List.set_cons_zero, List.set_cons_succ, List.getElem_toArray, List.getElem_cons_zero, List.getElem_cons_succ]
              obtain ⟨ad6, m6, c6, V6, hr6, ow6, st6, rl6⟩ := st.app HM.out ow ou (uint_ne _) (HLB.out) fxx
              refine zqr 10 rfl (fun K hK => ?_)
              refine st_appR rfl 44 (.tmp 36) (.tmp 45) rfl rfl rfl hr6 ?_
              refine hK.out _ _ (HSS.out _ _ st6) (fun hH => ?_)
              clear hK K hr6
              simp only [Act.put, List.setIfInBounds_toArray, List.set_cons_zero, List.set_cons_succ, List.getElem_toArray, List.getElem_cons_zero, List.getElem_cons_succ]
              refine zqr 11 rfl (fun K hK => ?_)
              refine st_st rfl 4 46 rfl rfl rfl st6.o ?_
              have st7 := st6.setO HM.out HBX.out (.slice ad6 m6 c6)
              have ow7 : Wb.Own w.heap.size (V6.setCell ⟨B4, 0, none⟩ (.slice ad6 m6 c6)) (.slice ad6 m6 c6) (o ++ Wn.uint y1 ++ Wn.uint ll) := own_setB ow6 st6.o (by decide) _
              have rl7 : RL w fxx WW (V6.setCell ⟨B4, 0, none⟩ (.slice ad6 m6 c6)) := rl5.trans (rl6.trans (RL.set (w := w) (fx := fxx) (A := V6) B4 0 (.slice ad6 m6 c6) HFX.out HBX.out.le.2.2.2.1))
              generalize V6.setCell ⟨B4, 0, none⟩ (.slice ad6 m6 c6) = V7 at st7 ow7 rl7 ⊢
              refine hK.out _ _ (HSS.out _ _ st7) (fun hH => ?_)
              clear hK K
              simp only [Act.put, List.getElem_toArray, List.getElem_cons_zero, List.getElem_cons_succ]
              refine wpAnyH_done (by kernel_rfl) ?_ _
              have H7 : Hid (ES w g b base n kvs w.heap.size B2 B3 B4 B5 B6 (o ++ Wn.uint y1 ++ Wn.uint ll) key off V7 ∧ RL w fxx WW V7) := ⟨⟨ad6, m6, c6, st7, ow7⟩, rl7⟩
              clear st7 ow7 rl7 st6 ow6 rl6 st ow ou rl5 hH
              gi_wp2
              gi_meet
              exact ⟨rfl, H7.out.1, H7.out.2⟩
            · obtain ⟨al, cl, hrl⟩ := HLK.out _ _ st0
              refine st_look rfl 97 (.tmp 40) (.tmp 41) false rfl rfl rfl hrl ?_
              refine hK.out _ _ hH (fun hH => ?_)
              clear hK K hrl
              simp only [Act.put, List.setIfInBounds_toArray, List.set_cons_zero, List.set_cons_succ, List.getElem_toArray, List.getElem_cons_zero, List.getElem_cons_succ]
              refine zqk 7 rfl hH ?_
              simp only [Act.put, List.setIfInBounds_toArray, List.set_cons_zero, List.set_cons_succ, List.getElem_toArray, List.getElem_cons_zero, List.getElem_cons_succ]
              refine zqk 8 rfl hH ?_
              simp only [Act.put, List.setIfInBounds_toArray, List.set_cons_zero, List.set_cons_succ, List.getElem_toArray, List.getElem_cons_zero, List.getElem_cons_succ]
              refine wpAnyH_ready (rs := [0, 9]) (by kernel_rfl) (by simp) ?_
              refine AllReadyH.cons rfl (fun K hK => ?_) (AllReadyH.cons rfl (fun K hK => ?_) AllReadyH.nil)
              · refine st_ld rfl 4 rfl rfl (st0.o.cell 0 _ rfl) ?_
                refine hK.out _ _ hH (fun hH => ?_)
                clear hK K
                simp only [Act.put, List.setIfInBounds_toArray, List.set_cons_zero, List.set_cons_succ, List.getElem_toArray, List.getElem_cons_zero]
                refine zqr 9 rfl (fun K hK => ?_)
                refine st_uint rfl 44 rfl rfl HYL.out ?_
                intro V5 ad5 m5 c5 ou b5
                have st := st0.kept b5
                have ow := ow0.kept b5
                have rl5 := rl0.trans (RL.of b5 st0.bel.size)
                refine hK.out _ _ (HSS.out _ _ st) (fun hH => ?_)
                clear hK K st0 ow0 rl0 b5
                simp only [Act.put, List.setIfInBounds_toArray, List.set_cons_zero, List.set_cons_succ, List.getElem_toArray, List.getElem_cons_zero, List.getElem_cons_succ]
                obtain ⟨ad6, m6, c6, V6, hr6, ow6, st6, rl6⟩ := st.app HM.out ow ou (uint_ne _) (HLB.out) fxx
                refine zqr 10 rfl (fun K hK => ?_)
                refine st_appR rfl 44 (.tmp 36) (.tmp 45) rfl rfl rfl hr6 ?_
                refine hK.out _ _ (HSS.out _ _ st6) (fun hH => ?_)
                clear hK K hr6
                simp only [Act.put, List.setIfInBounds_toArray, List.set_cons_zero, List.set_cons_succ, List.getElem_toArray, List.getElem_cons_zero, List.getElem_cons_succ]
                refine zqr 11 rfl (fun K hK => ?_)
                refine st_st rfl 4 46 rfl rfl rfl st6.o ?_
                have st7 := st6.setO HM.out HBX.out (.slice ad6 m6 c6)
                have ow7 : Wb.Own w.heap.size (V6.setCell ⟨B4, 0, none⟩ (.slice ad6 m6 c6)) (.slice ad6 m6 c6) (o ++ Wn.uint y1 ++ Wn.uint ll) := own_setB ow6 st6.o (by decide) _
                have rl7 : RL w fxx WW (V6.setCell ⟨B4, 0, none⟩ (.slice ad6 m6 c6)) := rl5.trans (rl6.trans (RL.set (w := w) (fx := fxx) (A := V6) B4 0 (.slice ad6 m6 c6) HFX.out HBX.out.le.2.2.2.1))
                generalize V6.setCell ⟨B4, 0, none⟩ (.slice ad6 m6 c6) = V7 at st7 ow7 rl7 ⊢
                refine hK.out _ _ (HSS.out _ _ st7) (fun hH => ?_)
                clear hK K
                simp only [Act.put, List.getElem_toArray, List.getElem_cons_zero, List.getElem_cons_succ]
                refine wpAnyH_done (by kernel_rfl) ?_ _
                have H7 : Hid (ES w g b base n kvs w.heap.size B2 B3 B4 B5 B6 (o ++ Wn.uint y1 ++ Wn.uint ll) key off V7 ∧ RL w fxx WW V7) := ⟨⟨ad6, m6, c6, st7, ow7⟩, rl7⟩
                clear st7 ow7 rl7 st6 ow6 rl6 st ow ou rl5 hH
                gi_wp2
                gi_meet
                exact ⟨rfl, H7.out.1, H7.out.2⟩
              · refine st_uint rfl 44 rfl rfl HYL.out ?_
                intro V5 ad5 m5 c5 ou b5
                have st := st0.kept b5
                have ow := ow0.kept b5
                have rl5 := rl0.trans (RL.of b5 st0.bel.size)
                refine hK.out _ _ (HSS.out _ _ st) (fun hH => ?_)
                clear hK K st0 ow0 rl0 b5
                simp only [Act.put, List.setIfInBounds_toArray, List.set_cons_zero, List.set_cons_succ, List.getElem_toArray, List.getElem_cons_zero, List.getElem_cons_succ]
                refine zqr 0 rfl (fun K hK => ?_)
                refine st_ld rfl 4 rfl rfl (st.o.cell 0 _ rfl) ?_
                refine hK.out _ _ hH (fun hH => ?_)
                clear hK K
                simp only [Act.put, List.setIfInBounds_toArray, List.set_cons_zero, List.set_cons_succ, List.getElem_toArray, List.getElem_cons_zero]
                obtain ⟨ad6, m6, c6, V6, hr6, ow6, st6, rl6⟩ := st.app HM.out ow ou (uint_ne _) (HLB.out) fxx
                refine zqr 10 rfl (fun K hK => ?_)
                refine st_appR rfl 44 (.tmp 36) (.tmp 45) rfl rfl rfl hr6 ?_
                refine hK.out _ _ (HSS.out _ _ st6) (fun hH => ?_)
                clear hK K hr6
                simp only [Act.put, List.setIfInBounds_toArray, List.set_cons_zero, List.set_cons_succ, List.getElem_toArray, List.getElem_cons_zero, List.getElem_cons_succ]
                refine zqr 11 rfl (fun K hK => ?_)
                refine st_st rfl 4 46 rfl rfl rfl st6.o ?_
                have st7 := st6.setO HM.out HBX.out (.slice ad6 m6 c6)
                have ow7 : Wb.Own w.heap.size (V6.setCell ⟨B4, 0, none⟩ (.slice ad6 m6 c6)) (.slice ad6 m6 c6) (o ++ Wn.uint y1 ++ Wn.uint ll) := own_setB ow6 st6.o (by decide) _
                have rl7 : RL w fxx WW (V6.setCell ⟨B4, 0, none⟩ (.slice ad6 m6 c6)) := rl5.trans (rl6.trans (RL.set (w := w) (fx := fxx) (A := V6) B4 0 (.slice ad6 m6 c6) HFX.out HBX.out.le.2.2.2.1))
                generalize V6.setCell ⟨B4, 0, none⟩ (.slice ad6 m6 c6) = V7 at st7 ow7 rl7 ⊢
                refine hK.out _ _ (HSS.out _ _ st7) (fun hH => ?_)
                clear hK K
                simp only [Act.put, List.getElem_toArray, List.getElem_cons_zero, List.getElem_cons_succ]
                refine wpAnyH_done (by kernel_rfl) ?_ _
                have H7 : Hid (ES w g b base n kvs w.heap.size B2 B3 B4 B5 B6 (o ++ Wn.uint y1 ++ Wn.uint ll) key off V7 ∧ RL w fxx WW V7) := ⟨⟨ad6, m6, c6, st7, ow7⟩, rl7⟩
                clear st7 ow7 rl7 st6 ow6 rl6 st ow ou rl5 hH
                gi_wp2
                gi_meet
                exact ⟨rfl, H7.out.1, H7.out.2⟩
          case rest =>
            obtain ⟨rfl, es2, rl2⟩ := hcut
            obtain ⟨ad3, m3, c3, st3, ow3⟩ := es2
            have y5 := st3.k.cell 0 _ rfl
            have f5 := st3.k.free 0
            have st4 := st3.setK HM.out HBX.out k
            have y6 := st4.f.cell 0 _ rfl
            have f6 := st4.f.free 0
            have HE3 : Hid (∀ X, X = (wc.setCell ⟨B5, 0, none⟩ (.int .i64 k)).setCell ⟨B6, 0, none⟩ (.int .i64 0) → ES w g b base n kvs w.heap.size B2 B3 B4 B5 B6 (o ++ Wn.uint y1 ++ Wn.uint ll) k 0 X ∧ RL w fxx WW X) := fun X e => by
              subst e
              exact ⟨⟨ad3, m3, c3, st4.setF HM.out HBX.out 0, own_setB (own_setB ow3 st3.k (by decide) _) st4.f (by decide) _⟩, rl2.trans ((RL.set (w := w) (fx := fxx) (A := wc) B5 0 (.int .i64 k) HF5.out.1 HBX.out.le.2.2.2.2.1).trans (RL.set (w := w) (fx := fxx) (A := wc.setCell ⟨B5, 0, none⟩ (.int .i64 k)) B6 0 (.int .i64 0) HF5.out.2.1 HBX.out.le.2.2.2.2.2))⟩
            clear st3 st4 ow3 rl2
            gi_upto_region 15 with fail
            obtain ⟨X, hX⟩ : ∃ X, X = (wc.setCell ⟨B5, 0, none⟩ (.int .i64 k)).setCell ⟨B6, 0, none⟩ (.int .i64 0) := ⟨_, rfl⟩
            have HE4 : Hid (ES w g b base n kvs w.heap.size B2 B3 B4 B5 B6 (o ++ Wn.uint y1 ++ Wn.uint ll) k 0 X ∧ RL w fxx WW X) := HE3.out _ hX
            rw [← hX]
            clear hX HE3 y5 f5 y6 f6
            have y6 : X.cell? ⟨B6, 0, none⟩ = some (.int .i64 0) := by obtain ⟨ad0, m0, c0, st, -⟩ := HE4.out.1; exact st.f.cell 0 _ rfl
            have hll3 : (Wn.uint ll).length ≤ 10 := Wn.uint_len10 ll (by omega)
            have hyy3 : (Wn.uint y1).length ≤ 10 := Wn.uint_len10 y1 HY.out
            by_cases hv : v < 0
            · have hv3 : (v < 0) = True := by simp [hv]
              have HSE : Hid (Ix.encF kvs ((pre ++ [(⟨(k, v), hwk, hwv⟩ : PI)]).map (·.1)) = .error 52) := HSN.out _ (by rw [if_pos hv])
              obtain ⟨ad0, m0, c0, st, ow⟩ := HE4.out.1
              have y2 := st.r1.cell 0 _ rfl
              have f2 := st.r1.free 0
              have st1 := st.setR1 HM.out HBX.out (.slice none 0 0)
              have y3 := st1.r2.cell 0 _ rfl
              have f3 := st1.r2.free 0
              have H9 : Hid (ES0 w g b base n kvs w.heap.size B2 B3 B4 B5 B6 (.slice ad0 m0 c0) (k) (0) (.slice none 0 0) 52 ((X.setCell ⟨B2, 0, none⟩ (.slice none 0 0)).setCell ⟨B3, 0, none⟩ (.int .i64 52)) ∧ KeepsOthers WW ((X.setCell ⟨B2, 0, none⟩ (.slice none 0 0)).setCell ⟨B3, 0, none⟩ (.int .i64 52))) := ⟨st1.setR2 HM.out HBX.out 52, HE4.out.2.ko.trans ((KeepsOthers.setCell X ⟨B2, 0, none⟩ (.slice none 0 0)).trans (KeepsOthers.setCell _ ⟨B3, 0, none⟩ (.int .i64 52)))⟩
              clear st st1 ow
              gi_wp2
              exact ⟨H9.out.2, rfl, 52, _, _, _, HSE.out, H9.out.1⟩
            · have hv3 : (v < 0) = False := by simp [hv]
              obtain ⟨y2, hy2, hyv⟩ : ∃ y2 : Nat, IntKind.u64.wrap (IntKind.i64.wrap (v - 0)) = (y2 : Int) ∧ y2 = Ix.u64 (v - 0) := ⟨Ix.u64 (v - 0), Ix.u64_eq _, rfl⟩
              have HY2 : Hid (y2 < 18446744073709551616) := by show y2 < _; rw [hyv]; exact Ix.u64_lt _
              have hy3 : IntKind.u64.wrap (IntKind.i64.wrap v) = (y2 : Int) := by rw [← hy2, Int.sub_zero]
              have HSE : Hid (Ix.encF kvs ((pre ++ [(⟨(k, v), hwk, hwv⟩ : PI)]).map (·.1)) = .ok (o ++ Wn.uint y1 ++ Wn.uint ll ++ Wn.uint y2, k, v)) := HSN.out _ (by rw [if_neg hv, hyv])
              clear hv hyv
              obtain ⟨bz, hbz⟩ : ∃ bz, (v == 0) = bz := ⟨_, rfl⟩
              cases bz
              all_goals
                gi_upto_region 17 with fail
                gi_cut [8] from 60 (fun s8 wx => s8 = .int .i64 v ∧ ES w g b base n kvs w.heap.size B2 B3 B4 B5 B6 (o ++ Wn.uint y1 ++ Wn.uint ll ++ Wn.uint y2) k 0 wx ∧ RL w fxx WW wx)
                case first =>
                  have HSS : Hid (∀ (xx : Value) (V : World), ES0 w g b base n kvs w.heap.size B2 B3 B4 B5 B6 xx k 0 (.slice none 0 0) 0 V → V.cell? ⟨B6, 0, none⟩ = some (.int .i64 0)) := fun xx V st => st.f.cell 0 _ rfl
                  have HLB : Hid ((o ++ Wn.uint y1 ++ Wn.uint ll).length + (Wn.uint y2).length ≤ 1000000000000) := by
                    have h7 := Wn.uint_len10 y2 HY2.out
                    have h8 := HLN.out
                    show _ ≤ _
                    simp only [List.length_append]
                    omega
                  obtain ⟨ad0, m0, c0, st00, ow00⟩ := HE4.out.1
                  have st0 := st00.kept (W' := X.drew) (Below.drew (Below.refl _ _))
                  have ow0 := ow00.kept (w' := X.drew) (Below.drew (Below.refl _ _))
                  have rl0 : RL w fxx WW X.drew := HE4.out.2.trans (RL.of (Below.drew (Below.refl _ _)) (by obtain ⟨_, _, _, s9, _⟩ := HE4.out.1; exact s9.bel.size))
                  clear st00 ow00
                  refine regionIn_of (S := fun W' : World => W'.cell? ⟨B6, 0, none⟩ = some (.int .i64 0)) (by rintro ⟨_, _, h⟩; exact h) (by kernel_rfl) (by kernel_rfl) (HSS.out _ _ st0) (fun hH => ?_)
                  obtain ⟨V0, hV0⟩ : ∃ V0, V0 = X.drew := ⟨_, rfl⟩
                  rw [← hV0] at st0 ow0 rl0 hH ⊢
                  clear hV0
                  refine zqk 1 rfl hH ?_
                  simp only [Act.put, List.setIfInBounds_toArray, List.set_cons_zero, List.set_cons_succ, List.getElem_toArray, List.getElem_cons_zero, List.getElem_cons_succ]
                  refine zqk 2 rfl hH ?_
                  simp only [Act.put, List.setIfInBounds_toArray, List.set_cons_zero, List.set_cons_succ, List.getElem_toArray, List.getElem_cons_zero, List.getElem_cons_succ]
                  refine zqk 3 rfl hH ?_
                  simp only [Act.put, List.setIfInBounds_toArray, List.set_cons_zero, List.set_cons_succ, List.getElem_toArray, List.getElem_cons_zero, List.getElem_cons_succ]
                  refine zqk 4 rfl hH ?_
                  simp only [Act.put, List.setIfInBounds_toArray, List.set_cons_zero, List.set_cons_succ, List.getElem_toArray, List.getElem_cons_zero, List.getElem_cons_succ]
                  refine wpAnyH_ready (rs := [0, 5]) (by kernel_rfl) (by simp) ?_
                  refine AllReadyH.cons rfl (fun K hK => ?_) (AllReadyH.cons rfl (fun K hK => ?_) AllReadyH.nil)
                  · refine st_ld rfl 4 rfl rfl (st0.o.cell 0 _ rfl) ?_
                    refine hK.out _ _ hH (fun hH => ?_)
                    clear hK K
                    simp only [Act.put, List.setIfInBounds_toArray, List.set_cons_zero, List.set_cons_succ, List.getElem_toArray, List.getElem_cons_zero]
                    refine zqr 5 rfl (fun K hK => ?_)
                    refine st_uint rfl 64 rfl rfl HY2.out ?_
                    intro V5 ad5 m5 c5 ou b5
                    have st := st0.kept b5
                    have ow := ow0.kept b5
                    have rl5 := rl0.trans (RL.of b5 st0.bel.size)
                    refine hK.out _ _ (HSS.out _ _ st) (fun hH => ?_)
                    clear hK K st0 ow0 rl0 b5
                    simp only [Act.put, List.setIfInBounds_toArray, List.set_cons_zero, List.set_cons_succ, List.getElem_toArray, List.getElem_cons_zero, List.getElem_cons_succ]
                    obtain ⟨ad6, m6, c6, V6, hr6, ow6, st6, rl6⟩ := st.app HM.out ow ou (uint_ne _) (HLB.out) fxx
                    refine zqr 6 rfl (fun K hK => ?_)
                    refine st_appR rfl 44 (.tmp 60) (.tmp 65) rfl rfl rfl hr6 ?_
                    refine hK.out _ _ (HSS.out _ _ st6) (fun hH => ?_)
                    clear hK K hr6
                    simp only [Act.put, List.setIfInBounds_toArray, List.set_cons_zero, List.set_cons_succ, List.getElem_toArray, List.getElem_cons_zero, List.getElem_cons_succ]
                    refine zqr 7 rfl (fun K hK => ?_)
                    refine st_st rfl 4 66 rfl rfl rfl st6.o ?_
                    have st7 := st6.setO HM.out HBX.out (.slice ad6 m6 c6)
                    have ow7 : Wb.Own w.heap.size (V6.setCell ⟨B4, 0, none⟩ (.slice ad6 m6 c6)) (.slice ad6 m6 c6) (o ++ Wn.uint y1 ++ Wn.uint ll ++ Wn.uint y2) := own_setB ow6 st6.o (by decide) _
                    have rl7 : RL w fxx WW (V6.setCell ⟨B4, 0, none⟩ (.slice ad6 m6 c6)) := rl5.trans (rl6.trans (RL.set (w := w) (fx := fxx) (A := V6) B4 0 (.slice ad6 m6 c6) HFX.out HBX.out.le.2.2.2.1))
                    generalize V6.setCell ⟨B4, 0, none⟩ (.slice ad6 m6 c6) = V7 at st7 ow7 rl7 ⊢
                    refine hK.out _ _ (HSS.out _ _ st7) (fun hH => ?_)
                    clear hK K
                    simp only [Act.put, List.getElem_toArray, List.getElem_cons_zero, List.getElem_cons_succ]
                    refine wpAnyH_done (by kernel_rfl) ?_ _
                    have H7 : Hid (ES w g b base n kvs w.heap.size B2 B3 B4 B5 B6 (o ++ Wn.uint y1 ++ Wn.uint ll ++ Wn.uint y2) k 0 V7 ∧ RL w fxx WW V7) := ⟨⟨ad6, m6, c6, st7, ow7⟩, rl7⟩
                    clear st7 ow7 rl7 st6 ow6 rl6 st ow ou rl5 hH
                    gi_wp2
                    gi_meet
                    exact ⟨rfl, H7.out.1, H7.out.2⟩
                  · refine st_uint rfl 64 rfl rfl HY2.out ?_
                    intro V5 ad5 m5 c5 ou b5
                    have st := st0.kept b5
                    have ow := ow0.kept b5
                    have rl5 := rl0.trans (RL.of b5 st0.bel.size)
                    refine hK.out _ _ (HSS.out _ _ st) (fun hH => ?_)
                    clear hK K st0 ow0 rl0 b5
                    simp only [Act.put, List.setIfInBounds_toArray, List.set_cons_zero, List.set_cons_succ, List.getElem_toArray, List.getElem_cons_zero, List.getElem_cons_succ]
                    refine zqr 0 rfl (fun K hK => ?_)
                    refine st_ld rfl 4 rfl rfl (st.o.cell 0 _ rfl) ?_
                    refine hK.out _ _ hH (fun hH => ?_)
                    clear hK K
                    simp only [Act.put, List.setIfInBounds_toArray, List.set_cons_zero, List.set_cons_succ, List.getElem_toArray, List.getElem_cons_zero]
                    obtain ⟨ad6, m6, c6, V6, hr6, ow6, st6, rl6⟩ := st.app HM.out ow ou (uint_ne _) (HLB.out) fxx
                    refine zqr 6 rfl (fun K hK => ?_)
                    refine st_appR rfl 44 (.tmp 60) (.tmp 65) rfl rfl rfl hr6 ?_
                    refine hK.out _ _ (HSS.out _ _ st6) (fun hH => ?_)
                    clear hK K hr6
                    simp only [Act.put, List.setIfInBounds_toArray, List.set_cons_zero, List.set_cons_succ, List.getElem_toArray, List.getElem_cons_zero, List.getElem_cons_succ]
                    refine zqr 7 rfl (fun K hK => ?_)
                    refine st_st rfl 4 66 rfl rfl rfl st6.o ?_
                    have st7 := st6.setO HM.out HBX.out (.slice ad6 m6 c6)
                    have ow7 : Wb.Own w.heap.size (V6.setCell ⟨B4, 0, none⟩ (.slice ad6 m6 c6)) (.slice ad6 m6 c6) (o ++ Wn.uint y1 ++ Wn.uint ll ++ Wn.uint y2) := own_setB ow6 st6.o (by decide) _
                    have rl7 : RL w fxx WW (V6.setCell ⟨B4, 0, none⟩ (.slice ad6 m6 c6)) := rl5.trans (rl6.trans (RL.set (w := w) (fx := fxx) (A := V6) B4 0 (.slice ad6 m6 c6) HFX.out HBX.out.le.2.2.2.1))
                    generalize V6.setCell ⟨B4, 0, none⟩ (.slice ad6 m6 c6) = V7 at st7 ow7 rl7 ⊢
                    refine hK.out _ _ (HSS.out _ _ st7) (fun hH => ?_)
                    clear hK K
                    simp only [Act.put, List.getElem_toArray, List.getElem_cons_zero, List.getElem_cons_succ]
                    refine wpAnyH_done (by kernel_rfl) ?_ _
                    have H7 : Hid (ES w g b base n kvs w.heap.size B2 B3 B4 B5 B6 (o ++ Wn.uint y1 ++ Wn.uint ll ++ Wn.uint y2) k 0 V7 ∧ RL w fxx WW V7) := ⟨⟨ad6, m6, c6, st7, ow7⟩, rl7⟩
                    clear st7 ow7 rl7 st6 ow6 rl6 st ow ou rl5 hH
                    gi_wp2
                    gi_meet
                    exact ⟨rfl, H7.out.1, H7.out.2⟩
                case rest =>
                  obtain ⟨rfl, es7, rl7⟩ := hcut
                  obtain ⟨ad7, m7, c7, st7, ow7⟩ := es7
                  have y6 := st7.f.cell 0 _ rfl
                  have f6 := st7.f.free 0
                  have H8 : Hid (ES w g b base n kvs w.heap.size B2 B3 B4 B5 B6 (o ++ Wn.uint y1 ++ Wn.uint ll ++ Wn.uint y2) k v (wc.setCell ⟨B6, 0, none⟩ (.int .i64 v)) ∧ RL w fxx WW (wc.setCell ⟨B6, 0, none⟩ (.int .i64 v))) := ⟨⟨ad7, m7, c7, st7.setF HM.out HBX.out v, own_setB ow7 st7.f (by decide) _⟩, rl7.trans (RL.set (w := w) (fx := fxx) (A := wc) B6 0 (.int .i64 v) HF5.out.2.1 HBX.out.le.2.2.2.2.2)⟩
                  have HLE : Hid ((o ++ Wn.uint y1 ++ Wn.uint ll ++ Wn.uint y2).length ≤ 10 + 30 * (pre.length + 1)) := by
                    have h7 := Wn.uint_len10 y2 HY2.out
                    have h8 := HLN.out
                    show _ ≤ _
                    rw [List.length_append]
                    simp only [List.length_append]
                    omega
                  clear st7 ow7 rl7
                  gi_wp2
                  refine ⟨H8.out.2.ko, H8.out.2.kp, o ++ Wn.uint y1 ++ Wn.uint ll ++ Wn.uint y2, k, v, ?_, H8.out.1, by have h := HLE.out; simp only [List.length_append, List.length_cons, List.length_nil] at h ⊢; omega⟩
                  exact HSE.out
end Go.Proofs.Ytceokpklcfmadaa
