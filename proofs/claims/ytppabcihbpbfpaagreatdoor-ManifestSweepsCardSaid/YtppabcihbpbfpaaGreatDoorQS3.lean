import Derived.Test.YtppabcihbpbfpaaGreatDoorQS2
/-
  ManifestSweeps: the walk.
-/
namespace Go.Proofs.YtppabcihbpbfpaaGreatDoor
open Go Go.RowKit Go.ChangeShapes
open Wb
open Rd
/-- the manifest in its box -/
def MB (w : World) (p5 : Nat) (mg mv mx mt : Int) (l : List Sg) (ao : Option Addr) (nl cap : Nat) (wx : World) : Prop := LB wx p5 24 [.int .i64 mg, .int .i64 mv, .int .i64 mx, .int .i64 mt, .slice ao nl cap] ∧ SgsAt wx (.slice ao nl cap) l ∧ nl = l.length ∧ chkM ⟨mg, mv, mx, mt, l⟩ = 0 ∧ Below w.heap.size w wx
theorem MB.kept {w wx W : World} {p5 : Nat} {mg mv mx mt : Int} {l : List Sg} {ao : Option Addr} {nl cap : Nat} (h : MB w p5 mg mv mx mt l ao nl cap wx) (hb : Below wx.heap.size wx W) : MB w p5 mg mv mx mt l ao nl cap W := ⟨h.1.kept hb, h.2.1.kept hb, h.2.2.1, h.2.2.2.1, andThen h.2.2.2.2 hb⟩
abbrev TT : Nat → Prop := fun _ => True
/-- files with bytes wherever they lie -/
theorem fls_row {B : Nat} {w : World} {o : Value} {xs : List FX} (hrow : w.ownsRow B 34 2 o xs.length (xs.flatMap enF)) (hes : ∀ x ∈ xs, Bs w x.2.1 x.2.2) : Fls TT w o (xs.map fun x => (x.1, x.2.2)) := by
  obtain ⟨a, c, e, h1, h2⟩ := Mg.row_shape hrow
  refine ⟨a, c, by rw [List.length_map]; exact e, by rw [List.length_map]; exact h1, h2, fun hne => ?_⟩
  have hne2 : xs ≠ [] := fun e2 => hne (by rw [e2]; rfl)
  rcases hrow.2 with ⟨e3, h0⟩ | ⟨b, c', cur, e3, hB, -⟩
  · exact absurd (List.eq_nil_of_length_eq_zero h0) hne2
  · rw [e] at e3
    simp only [Value.slice.injEq] at e3
    refine ⟨b, 0, e3.1, trivial, fun j hj => ?_⟩
    have hj2 : j < xs.length := by rw [List.length_map] at hj; exact hj
    obtain ⟨f0, f1⟩ := flatF_at xs j hj2
    have hr := hrow
    rw [e, e3.1] at hr
    have c0 := World.ownsRow.cellAt hr (j * 2) (by omega)
    have c1 := World.ownsRow.cellAt hr (j * 2 + 1) (by omega)
    rw [f0] at c0
    rw [f1] at c1
    simp only [List.getElem_map, Nat.zero_add]
    exact ⟨c0, xs[j].2.1, c1, hes _ (List.getElem_mem hj2), fun _ _ _ _ _ => trivial⟩
theorem fls_lit {w : World} {g : Nat} {es : List FX} (hL : LB w g 34 (es.flatMap enF)) (n : Nat) (hn : n = es.length) (hl : n ≤ 100) (hes : ∀ x ∈ es, Bs w x.2.1 x.2.2) : Fls TT w (.slice (some ⟨g, 0, none⟩) n n) (es.map fun x => (x.1, x.2.2)) := by
  subst hn
  refine ⟨some ⟨g, 0, none⟩, es.length, by rw [List.length_map], by rw [List.length_map]; exact Nat.le_refl _, by unfold maxLen; omega, fun _ => ⟨g, 0, rfl, trivial, fun j hj => ?_⟩⟩
  have hj2 : j < es.length := by rw [List.length_map] at hj; exact hj
  obtain ⟨f0, f1⟩ := flatF_at es j hj2
  simp only [List.getElem_map, Nat.zero_add]
  exact ⟨hL.cell _ _ f0, es[j].2.1, hL.cell _ _ f1, hes _ (List.getElem_mem hj2), fun _ _ _ _ _ => trivial⟩
theorem FO.apps {B : Nat} {w : World} {o : Value} {xs : List FX} (h : FO B w o xs) (ty : TypeId) (es : List FX) (hes : ∀ x ∈ es, Bs w x.2.1 x.2.2 ∧ ∀ q, (∃ off n c, x.2.1 = .slice (some ⟨q, off, none⟩) n c) → o.ownBlock ≠ some q) (g k : Nat) (hc : LB w g 34 (es.flatMap enF)) (hmax : xs.length + es.length ≤ 1000000000) (hB : B ≤ w.heap.size) : ∃ o' w', (Builtin.append_ #[25, 25] ty #[o, .slice (some ⟨g, 0, none⟩) es.length k]).run Tryz.prog w = .ok o' w' ∧ (∃ a n c, o' = .slice a n c) ∧ Fls TT w' o' ((xs ++ es).map fun x => (x.1, x.2.2)) ∧ Below B w w' := by
  have hone : ∀ x ∈ es, ∀ u ∈ enF x, u.oneCell' = true := fun x hx u hu => by
    obtain ⟨a, c, e, -⟩ := (hes x hx).1.shape
    unfold enF enS at hu
    rcases List.mem_cons.1 hu with e1 | e1
    · rw [e1]
      rfl
    · rw [List.mem_singleton.1 e1, e]
      rfl
  obtain ⟨v', w', hr, r1, r2, r3⟩ := row_app tiF2 (fun _ => rfl) h.row ⟨g, 0, none⟩ k hone (fun j u hu => by
    rw [Addr.add_lit, Nat.zero_add]
    exact hc.cell j u hu) hmax hB ty
  obtain ⟨a9, c9, e9, -⟩ := Mg.row_shape r1
  refine ⟨v', w', hr, ⟨a9, _, c9, e9⟩, fls_row r1 fun x hx => ?_, r3⟩
  rcases List.mem_append.1 hx with e | e
  · exact (Mg.row_other (h.own x e).row r2 fun q e1 e2 => Mg.kinds_apart (h.own x e).row h.row (by decide) q e1 e2 : _) |> fun hr => (⟨hr, (h.own x e).good⟩ : Own B w' x.2.1 x.2.2).bs
  · exact bs_blk (hes x e).1 fun q hq hlt => r2.block q hlt fun e1 => (hes x e).2 q hq (by rw [e1])
theorem conv1 (w : World) (x : Nat) : (convert 32 32 (.slice (some ⟨w.heap.size, 0, none⟩) 1 1)).run Tryz.prog (w.alloc (.cells #[.int .u8 (x : Int)] 5)) = .ok (.slice (some ⟨w.heap.size, 0, none⟩) 1 1) (w.alloc (.cells #[.int .u8 (x : Int)] 5 (1, 2))) := Lib.run_convert_bytes_const (P := Tryz.prog) w 32 5 #[.int .u8 (x : Int)] 1 1 Tryz.underlying32 Tryz.underlying5
theorem conv_bs (w : World) (x : Nat) (hx : x < 256) : Bs (w.alloc (.cells #[.int .u8 (x : Int)] 5 (1, 2))) (.slice (some ⟨w.heap.size, 0, none⟩) 1 1) [x] := by
  refine ⟨⟨some ⟨w.heap.size, 0, none⟩, 1, rfl, Nat.le_refl _, by simp [maxLen], fun e => (by cases e), fun _ => ⟨w.heap.size, 0, rfl, fun j hj => ?_⟩⟩, fun y hy => by rw [List.mem_singleton.1 hy]; exact hx⟩
  have hj5 : j < 1 := hj
  rw [Nat.zero_add]
  have hh : (w.alloc (.cells #[.int .u8 (x : Int)] 5 (1, 2))).heap[w.heap.size]? = some (.cells #[.int .u8 (x : Int)] 5 (1, 2)) := Array.getElem?_push_size
  match j, hj5 with
  | 0, _ => unfold World.cell?; rw [hh]; rfl
def nA : List UInt8 := [115, 49, 48, 57, 57, 53, 49, 49, 54, 50, 55, 55, 55, 54]
/-- the disk and what was loaded into it -/
structure AL (w : World) (oa : Option Addr) (N oc g : Nat) (fsx : List (List UInt8 × List Nat)) (S : Dk.DS) (M : Mm) (W0 wx : World) : Prop where
  fl : ∀ W, Below W0.heap.size W0 W → Fls TT W (.slice oa N oc) fsx
  n : N = fsx.length
  dm : DM W0.heap.size wx g S M
  wf : Dk.WF S fsx.length
  rl : Rl S (rbgn 4194304 fsx)
  e : rldE 4194304 fsx = 0
  len : fsx.length ≤ 43
  a : ∃ x ∈ fsx, x.1 = nA
  b : Below w.heap.size w W0
  bel : Below W0.heap.size W0 wx
theorem al_load {w W : World} {oa : Option Addr} {N oc : Nat} {fsx : List (List UInt8 × List Nat)} (hfl : Fls TT W (.slice oa N oc) fsx) (hN : N = fsx.length) (hnm : ∀ x ∈ fsx, x.1.length ≤ maxLen) (hlen : fsx.length ≤ 43) (ha : ∃ x ∈ fsx, x.1 = nA) (hb : Below w.heap.size w W) :
    Calls Tryz.prog 8 #[.int .i64 4194304, .slice oa N oc] W fun e w' => Below W.heap.size W w' ∧ ((rldE 4194304 fsx ≠ 0 ∧ e = .returned (.tuple #[.pointer none, .int .i64 (rldE 4194304 fsx)])) ∨ ∃ g S M, e = .returned (.tuple #[.pointer (some ⟨g, 0, none⟩), .int .i64 0]) ∧ AL w oa N oc g fsx S M W w') :=
  (dkload_rl 4194304 _ _ _ W hfl (by omega) hnm).mono fun e w' ⟨h1, h2⟩ => ⟨h1, by
    rcases h2 with h2 | ⟨h2, g, S, M, h3, h4, h5, h6⟩
    · exact .inl h2
    · exact .inr ⟨g, S, M, h3, fun W2 hW2 => hfl.kept hW2, hN, h4, h5, h6, h2, hlen, ha, hb, h1⟩⟩
theorem old_nA {l : List Sg} (h : ∀ s ∈ l, Sg.fit s ∧ s.n < 1099511627776) : Sw.old (cnd l) nA = true := by
  have e1 : mNum nA = (1099511627776, true) := by decide +kernel
  have e2 : cnd l 1099511627776 = false := by
    unfold cnd
    rw [List.any_eq_false]
    intro s hs
    have := (h s hs).2
    simp
    omega
  unfold Sw.old
  rw [e1, e2]
  simp
theorem swR_wf {S : Dk.DS} {N : Nat} (h : Dk.WF S N) (m : Mf) : Dk.WF (Sw.swR S m).1 (N + N) := by
  have mono : ∀ {S' : Dk.DS} {K : Nat}, K ≤ N + N → Dk.WF S' K → Dk.WF S' (N + N) := fun hk k => ⟨k.q, k.tk, k.live, k.inj, k.nm, k.la, k.ch, k.fl, k.ar, by have := k.n1; omega, by have := k.n2; omega, by have := k.n3; omega⟩
  have hl : ((Dk.lst S).filter (Sw.old (cnd m.l))).length ≤ N := by
    refine Nat.le_trans (List.length_filter_le _ _) ?_
    unfold Dk.lst
    split
    · exact Nat.zero_le _
    · rw [List.length_map]
      exact h.n1
  unfold Sw.swR
  split
  · exact mono (by omega) h
  · split
    · exact mono (by omega) h
    · simp only
      split
      · exact mono (by omega) (Dk.WF.rms _ h)
      · split
        · exact mono (by omega) h
        · split
          · exact mono (by omega) (Dk.WF.rms _ h).sd
          · exact mono (by omega) (Dk.WF.rms _ h).sd
theorem cts_pre {w : World} {a : Option Addr} {N c : Nat} {cs : List (Int × Int)} (h : CtS w (.slice a N c) cs) (m : Nat) (hm : m ≤ cs.length) : CtS w (.slice a m c) (cs.take m) := by
  obtain ⟨a', c', e, h1, h2, h3⟩ := h
  simp only [Value.slice.injEq] at e
  obtain ⟨rfl, rfl, rfl⟩ := e
  have hl : (cs.take m).length = m := by rw [List.length_take, Nat.min_eq_left hm]
  refine ⟨a, c, by rw [hl], by rw [hl]; omega, h2, fun hne => ?_⟩
  obtain ⟨b, off, e2, hc⟩ := h3 (by intro e; subst e; simp at hne)
  refine ⟨b, off, e2, fun j hj => ?_⟩
  have hj' : j < cs.length := by rw [hl] at hj; omega
  rw [List.getElem_take]
  exact hc j hj'
theorem fls_slice {ok : Nat → Prop} {w : World} {v : Value} {fs : List (List UInt8 × List Nat)} (h : Fls ok w v fs) : ∃ a c, v = .slice a fs.length c := by
  obtain ⟨a, c, e, -⟩ := h.sh
  exact ⟨a, c, e⟩
def lit3 : List (List UInt8 × List Nat) := [(nA, []), ([77, 65, 78, 73, 70, 69, 83, 84, 46, 116, 109, 112], []), ([115, 49], [121])]
theorem lit3_ok : rldE 4194304 lit3 = 0 := by decide +kernel
theorem al_lit {w W : World} (hb : Below w.heap.size w W) :
    Calls Tryz.prog 8 #[.int .i64 4194304, .slice (some ⟨W.heap.size + 1, 0, none⟩) 3 3] ((W.alloc (.cells #[.int .u8 121] 5 (1, 2))).alloc (.cells #[.string ⟨#[115, 49, 48, 57, 57, 53, 49, 49, 54, 50, 55, 55, 55, 54]⟩, .slice none 0 0, .string ⟨#[77, 65, 78, 73, 70, 69, 83, 84, 46, 116, 109, 112]⟩, .slice none 0 0, .string ⟨#[115, 49]⟩, .slice (some ⟨W.heap.size, 0, none⟩) 1 1] 34)) fun e w' => Below W.heap.size W w' ∧ ∃ g S M W0, e = .returned (.tuple #[.pointer (some ⟨g, 0, none⟩), .int .i64 0]) ∧ AL w (some ⟨W.heap.size + 1, 0, none⟩) 3 3 g lit3 S M W0 w' ∧ Below W.heap.size W W0 := by
  obtain ⟨WB, hWB⟩ : ∃ W1, W1 = W.alloc (.cells #[.int .u8 121] 5 (1, 2)) := ⟨_, rfl⟩
  have hbs : Bs WB (.slice (some ⟨W.heap.size, 0, none⟩) 1 1) [121] := by
    rw [hWB]
    exact conv_bs W 121 (by omega)
  have hb1 : Below W.heap.size W WB := by
    rw [hWB]
    exact up0 _ _
  have hsz : WB.heap.size = W.heap.size + 1 := by
    rw [hWB, heap_one]
  rw [← hWB]
  have hc7 : LB (WB.alloc (.cells #[.string ⟨#[115, 49, 48, 57, 57, 53, 49, 49, 54, 50, 55, 55, 55, 54]⟩, .slice none 0 0, .string ⟨#[77, 65, 78, 73, 70, 69, 83, 84, 46, 116, 109, 112]⟩, .slice none 0 0, .string ⟨#[115, 49]⟩, .slice (some ⟨W.heap.size, 0, none⟩) 1 1] 34)) WB.heap.size 34 ([((nA, .slice none 0 0, []) : FX), ([77, 65, 78, 73, 70, 69, 83, 84, 46, 116, 109, 112], .slice none 0 0, []), ([115, 49], .slice (some ⟨W.heap.size, 0, none⟩) 1 1, [121])].flatMap enF) := lb_new WB [.string ⟨#[115, 49, 48, 57, 57, 53, 49, 49, 54, 50, 55, 55, 55, 54]⟩, .slice none 0 0, .string ⟨#[77, 65, 78, 73, 70, 69, 83, 84, 46, 116, 109, 112]⟩, .slice none 0 0, .string ⟨#[115, 49]⟩, .slice (some ⟨W.heap.size, 0, none⟩) 1 1] 34
  obtain ⟨W7, hW7⟩ : ∃ W1, W1 = WB.alloc (.cells #[.string ⟨#[115, 49, 48, 57, 57, 53, 49, 49, 54, 50, 55, 55, 55, 54]⟩, .slice none 0 0, .string ⟨#[77, 65, 78, 73, 70, 69, 83, 84, 46, 116, 109, 112]⟩, .slice none 0 0, .string ⟨#[115, 49]⟩, .slice (some ⟨W.heap.size, 0, none⟩) 1 1] 34) := ⟨_, rfl⟩
  have hb2 : Below WB.heap.size WB W7 := by
    rw [hW7]
    exact up0 _ _
  rw [← hW7] at hc7 ⊢
  rw [hsz] at hc7
  have h67 : Below W.heap.size W W7 := andThen hb1 hb2
  have hfl := fls_lit hc7 3 rfl (by omega) (fun x hx => by
    simp only [List.mem_cons, List.not_mem_nil, or_false] at hx
    rcases hx with rfl | rfl | rfl
    · exact (Own.nil 0 _).bs
    · exact (Own.nil 0 _).bs
    · exact hbs.kept hb2)
  exact (al_load (fsx := lit3) hfl rfl (fun x hx => by
    simp only [lit3, List.mem_cons, List.not_mem_nil, or_false] at hx
    rcases hx with rfl | rfl | rfl <;> (simp [nA, maxLen])) (by simp [lit3]) ⟨_, List.mem_cons_self, rfl⟩ (andThen hb h67)).mono fun e w' ⟨h1, h2⟩ => ⟨andThen h67 h1, by
      rcases h2 with ⟨h2, -⟩ | ⟨g, S, M, h3, h4⟩
      · exact absurd lit3_ok h2
      · exact ⟨g, S, M, W7, h3, h4, h67⟩⟩
set_option maxRecDepth 100000 in
set_option maxHeartbeats 32000000 in
theorem manifestSweeps_walk (m : Mf) (sv vf vc : Value) (ok1 : Nat → Prop) (fs : List (List UInt8 × List Nat)) (n keep : Int) (cs : List (Int × Int)) (w : World) (hm : SgsAt w sv m.l) (hf : Fls ok1 w vf fs) (hnm : ∀ x ∈ fs, x.1.length ≤ maxLen) (hc : CtS w vc cs) (hT : NTab w) (hn : n ≤ 9223372036854775807) :
    Calls Tryz.prog 3 #[mfv m sv, vf, .int .i64 n, .int .i64 keep, vc] w fun e w' => e = .returned (.bool true) ∧ Below w.heap.size w w' := by
  obtain ⟨mg, mv, mx, mt, l⟩ := m
  obtain ⟨ao, cap, rfl, hm1, hm2, -⟩ := id hm
  simp only at hm hm1
  unfold maxLen at hm2
  obtain ⟨fa, fc, hvf, hf1, hf2, -⟩ := hf.sh
  subst hvf
  obtain ⟨ca, cc, rfl, hc1, hc2, hc3⟩ := id hc
  unfold maxLen at hc2
  have HTT : Hid (∀ W, Below w.heap.size w W → NTab W) := fun W hW => hT.kept hW
  have HFF : Hid (∀ W, Below w.heap.size w W → Fls ok1 W (.slice fa fs.length fc) fs) := fun W hW => hf.kept hW
  have HCC : Hid (∀ W, Below w.heap.size w W → CtS W (.slice ca cs.length cc) cs) := fun W hW => hc.kept hW
  have HNM : Hid (∀ x ∈ fs, x.1.length ≤ maxLen) := hnm
  have HCS := cutSegs_any ⟨mg, mv, mx, mt, l⟩ (.slice ao l.length cap) w
  obtain ⟨nl, hnl⟩ : ∃ n, n = l.length := ⟨_, rfl⟩
  obtain ⟨F, hF⟩ : ∃ n, n = fs.length := ⟨_, rfl⟩
  obtain ⟨Q, hQ⟩ : ∃ n, n = cs.length := ⟨_, rfl⟩
  have HLL : Hid (nl = l.length ∧ F = fs.length ∧ Q = cs.length) := ⟨hnl, hF, hQ⟩
  unfold mfv at HCS ⊢
  simp only at HCS ⊢
  rw [← hnl] at HCS hm hm1 ⊢
  rw [← hF] at HFF hf1 ⊢
  rw [← hQ] at HCC hc1 ⊢
  obtain ⟨p5, hp5⟩ : ∃ p, p = w.heap.size := ⟨_, rfl⟩
  obtain ⟨W1, hW1⟩ : ∃ W, W = w.alloc (.cells #[.int .i64 mg, .int .i64 mv, .int .i64 mx, .int .i64 mt, .slice ao nl cap] 24) := ⟨_, rfl⟩
  have H1 : Hid (LB W1 p5 24 [.int .i64 mg, .int .i64 mv, .int .i64 mx, .int .i64 mt, .slice ao nl cap] ∧ Below w.heap.size w W1 ∧ w.heap.size ≤ p5) := by
    rw [hW1, hp5]
    exact ⟨lb_new w [.int .i64 mg, .int .i64 mv, .int .i64 mx, .int .i64 mt, .slice ao nl cap] 24, up0 _ _, Nat.le_refl _⟩
  have HW1 : Hid (w.alloc (.cells #[.int .i64 mg, .int .i64 mv, .int .i64 mx, .int .i64 mt, .slice ao nl cap] 24) = W1 ∧ w.heap.size = p5) := ⟨hW1.symm, hp5.symm⟩
  have HCU : Hid (Calls Tryz.prog 4 #[.agg #[.int .i64 mg, .int .i64 mv, .int .i64 mx, .int .i64 mt, .slice ao nl cap]] W1 fun e w' => ∃ ao2 n2 cap2, e = .returned (.agg #[.int .i64 mg, .int .i64 mv, .int .i64 mx, .int .i64 mt, .slice ao2 n2 cap2]) ∧ n2 = (l.take 300).length ∧ (∀ W, Below w.heap.size w W → SgsAt W (.slice ao2 n2 cap2) (l.take 300)) ∧ Below W1.heap.size W1 w') := (HCS W1 hm).mono fun e w' ⟨v', e1, e2, e3⟩ => by
    obtain ⟨a2, c2, rfl, -⟩ := e2 w (Below.refl _ _)
    exact ⟨a2, _, c2, e1, rfl, e2, e3⟩
  clear hm hf hc hnm hT HCS hc3 hnl hF hQ hW1 hp5
  go_enter Tryz.func3, Tryz.ntmps3
  go_upto_region 1 with fail
  rw [HW1.out.1, HW1.out.2]
  clear HW1
  have y0 := H1.out.1.cell 0 _ rfl
  have y1 := H1.out.1.cell 1 _ rfl
  have y2 := H1.out.1.cell 2 _ rfl
  have y3 := H1.out.1.cell 3 _ rfl
  have y4 := H1.out.1.cell 4 _ rfl
  go_wp2_with fail
  refine HCU.out.mono ?_
  rintro e W2 ⟨ao2, n2, cap2, rfl, hn2, hsg2, b2⟩
  have hL2 := H1.out.1.kept b2
  have u0 := hL2.free 0
  have u1 := hL2.free 1
  have u2 := hL2.free 2
  have u3 := hL2.free 3
  have u4 := hL2.free 4
  have z0 := hL2.cell 0 _ rfl
  have z1 := hL2.cell 1 _ rfl
  have z2 := hL2.cell 2 _ rfl
  have z3 := hL2.cell 3 _ rfl
  have z4 := hL2.cell 4 _ rfl
  obtain ⟨W3, hW3⟩ : ∃ W, W = (((((W2.setCell ⟨p5, 0, none⟩ (.int .i64 mg)).setCell ⟨p5, 1, none⟩ (.int .i64 mv)).setCell ⟨p5, 2, none⟩ (.int .i64 mx)).setCell ⟨p5, 3, none⟩ (.int .i64 mt)).setCell ⟨p5, 4, none⟩ (.slice ao2 n2 cap2)) := ⟨_, rfl⟩
  have H3 : Hid (LB W3 p5 24 [.int .i64 mg, .int .i64 mv, .int .i64 mx, .int .i64 mt, .slice ao2 n2 cap2] ∧ Below w.heap.size w W3 ∧ SgsAt W3 (.slice ao2 n2 cap2) (l.take 300) ∧ n2 = (l.take 300).length) := by
    have h1 : LB (((((W2.setCell ⟨p5, 0, none⟩ (.int .i64 mg)).setCell ⟨p5, 1, none⟩ (.int .i64 mv)).setCell ⟨p5, 2, none⟩ (.int .i64 mx)).setCell ⟨p5, 3, none⟩ (.int .i64 mt)).setCell ⟨p5, 4, none⟩ (.slice ao2 n2 cap2)) p5 24 [.int .i64 mg, .int .i64 mv, .int .i64 mx, .int .i64 mt, .slice ao2 n2 cap2] := hL2.sets [.int .i64 mg, .int .i64 mv, .int .i64 mx, .int .i64 mt, .slice ao2 n2 cap2] rfl
    have h2 : Below w.heap.size w W3 := by
      rw [hW3]
      exact (((((andThen H1.out.2.1 b2).setCell H1.out.2.2 _).setCell H1.out.2.2 _).setCell H1.out.2.2 _).setCell H1.out.2.2 _).setCell H1.out.2.2 _
    rw [← hW3] at h1
    exact ⟨h1, h2, hsg2 W3 h2, hn2⟩
  have HW3 : Hid ((((((W2.setCell ⟨p5, 0, none⟩ (.int .i64 mg)).setCell ⟨p5, 1, none⟩ (.int .i64 mv)).setCell ⟨p5, 2, none⟩ (.int .i64 mx)).setCell ⟨p5, 3, none⟩ (.int .i64 mt)).setCell ⟨p5, 4, none⟩ (.slice ao2 n2 cap2)) = W3) := hW3.symm
  clear y0 y1 y2 y3 y4 hsg2 b2 hn2 hL2 HCU hW3
  go_upto_region 2 with fail
  rw [HW3.out]
  clear HW3 u0 u1 u2 u3 u4 z0 z1 z2 z3 z4
  obtain ⟨CK, hCK⟩ : ∃ c : Int, c = (chkM ⟨mg, mv, mx, mt, l.take 300⟩ : Int) := ⟨_, rfl⟩
  have HCK : Hid (CK = (chkM ⟨mg, mv, mx, mt, l.take 300⟩ : Int)) := hCK
  have HCH : Hid (Calls Tryz.prog 5 #[.agg #[.int .i64 mg, .int .i64 mv, .int .i64 mx, .int .i64 mt, .slice ao2 n2 cap2]] W3 fun e w' => e = .returned (.int .i64 CK) ∧ Below W3.heap.size W3 w') := by
    rw [hCK]
    exact check_any ⟨mg, mv, mx, mt, l.take 300⟩ _ W3 H3.out.2.2.1
  have y0 := H3.out.1.cell 0 _ rfl
  have y1 := H3.out.1.cell 1 _ rfl
  have y2 := H3.out.1.cell 2 _ rfl
  have y3 := H3.out.1.cell 3 _ rfl
  have y4 := H3.out.1.cell 4 _ rfl
  clear hCK
  go_wp2_with fail
  refine HCH.out.mono ?_
  rintro e W4 ⟨rfl, b4⟩
  have H4 : Hid (LB W4 p5 24 [.int .i64 mg, .int .i64 mv, .int .i64 mx, .int .i64 mt, .slice ao2 n2 cap2] ∧ Below w.heap.size w W4 ∧ SgsAt W4 (.slice ao2 n2 cap2) (l.take 300) ∧ n2 = (l.take 300).length) := ⟨H3.out.1.kept b4, andThen H3.out.2.1 b4, H3.out.2.2.1.kept b4, H3.out.2.2.2⟩
  have HP5 : Hid (w.heap.size ≤ p5) := H1.out.2.2
  clear y0 y1 y2 y3 y4 b4 HCH H3 H1
  obtain ⟨D, hD⟩ : ∃ D, (CK != 0) = D := ⟨_, rfl⟩
  have HD : Hid ((CK != 0) = D) := hD
  go_upto_if 33 with fail
  clear hD
  go_cut [] from 34 to 34 (fun wx => ∃ mg mv mx mt l ao nl cap, MB w p5 mg mv mx mt l ao nl cap wx)
  case first =>
    cases D with
    | false =>
      have HZ : Hid (chkM ⟨mg, mv, mx, mt, l.take 300⟩ = 0) := by
        have h9 := HCK.out
        have h8 := bne_eq_false_iff_eq.1 HD.out
        rw [h8] at h9
        show _ = _
        omega
      go_wp2_with fail
      go_meet
      exact ⟨mg, mv, mx, mt, _, ao2, n2, cap2, H4.out.1, H4.out.2.2.1, H4.out.2.2.2, HZ.out, H4.out.2.1⟩
    | true =>
      have HSM : Hid (Calls Tryz.prog 6 #[] W4 fun e w' => ∃ b3, e = .returned (.agg #[.int .i64 1, .int .i64 3, .int .i64 2, .int .i64 0, .slice (some ⟨b3, 0, none⟩) 1 1]) ∧ W4.heap.size ≤ b3 ∧ SgsAt w' (.slice (some ⟨b3, 0, none⟩) 1 1) smallM.l ∧ Below W4.heap.size W4 w') := small_new W4
      go_wp2_with fail
      refine HSM.out.mono ?_
      rintro e W5 ⟨b3, rfl, hb3, hsg, b5⟩
      have HB3 : Hid (b3 ≠ p5) := by
        have := H4.out.1.lt
        show b3 ≠ p5
        omega
      have hL2 := H4.out.1.kept b5
      have u0 := hL2.free 0
      have u1 := hL2.free 1
      have u2 := hL2.free 2
      have u3 := hL2.free 3
      have u4 := hL2.free 4
      have z0 := hL2.cell 0 _ rfl
      have z1 := hL2.cell 1 _ rfl
      have z2 := hL2.cell 2 _ rfl
      have z3 := hL2.cell 3 _ rfl
      have z4 := hL2.cell 4 _ rfl
      have H5 : Hid (LB W5 p5 24 [.int .i64 mg, .int .i64 mv, .int .i64 mx, .int .i64 mt, .slice ao2 n2 cap2] ∧ SgsAt W5 (.slice (some ⟨b3, 0, none⟩) 1 1) smallM.l ∧ Below w.heap.size w W5) := ⟨hL2, hsg, andThen H4.out.2.1 b5⟩
      clear hL2 hsg b5 HSM hb3
      have HE : Hid (MB w p5 1 3 2 0 smallM.l (some ⟨b3, 0, none⟩) 1 1 (((((W5.setCell ⟨p5, 0, none⟩ (.int .i64 1)).setCell ⟨p5, 1, none⟩ (.int .i64 3)).setCell ⟨p5, 2, none⟩ (.int .i64 2)).setCell ⟨p5, 3, none⟩ (.int .i64 0)).setCell ⟨p5, 4, none⟩ (.slice (some ⟨b3, 0, none⟩) 1 1))) := by
        have h1 : LB (((((W5.setCell ⟨p5, 0, none⟩ (.int .i64 1)).setCell ⟨p5, 1, none⟩ (.int .i64 3)).setCell ⟨p5, 2, none⟩ (.int .i64 2)).setCell ⟨p5, 3, none⟩ (.int .i64 0)).setCell ⟨p5, 4, none⟩ (.slice (some ⟨b3, 0, none⟩) 1 1)) p5 24 [.int .i64 1, .int .i64 3, .int .i64 2, .int .i64 0, .slice (some ⟨b3, 0, none⟩) 1 1] := H5.out.1.sets [.int .i64 1, .int .i64 3, .int .i64 2, .int .i64 0, .slice (some ⟨b3, 0, none⟩) 1 1] rfl
        have h2 : ∀ q, q ≠ p5 → (((((W5.setCell ⟨p5, 0, none⟩ (.int .i64 1)).setCell ⟨p5, 1, none⟩ (.int .i64 3)).setCell ⟨p5, 2, none⟩ (.int .i64 2)).setCell ⟨p5, 3, none⟩ (.int .i64 0)).setCell ⟨p5, 4, none⟩ (.slice (some ⟨b3, 0, none⟩) 1 1)).heap[q]? = W5.heap[q]? := fun q hq => (set_other _ _ _ _ hq).trans ((set_other _ _ _ _ hq).trans ((set_other _ _ _ _ hq).trans ((set_other _ _ _ _ hq).trans (set_other _ _ _ _ hq))))
        refine ⟨h1, H5.out.2.1.blk (h2 b3 HB3.out), rfl, small_chk, ((((H5.out.2.2.setCell HP5.out _).setCell HP5.out _).setCell HP5.out _).setCell HP5.out _).setCell HP5.out _⟩
      go_wp2_with fail
      go_meet
      exact ⟨1, 3, 2, 0, _, some ⟨b3, 0, none⟩, 1, 1, HE.out⟩
  case rest =>
    obtain ⟨ng, nv, nx, nt, sl, sao, snl, scap, hmb⟩ := hcut
    have HMB : Hid (MB w p5 ng nv nx nt sl sao snl scap wc) := hmb
    have HCF : Hid (Calls Tryz.prog 7 #[.slice fa F fc] wc fun e w' => ∃ a6 n6 c6 ys, e = .returned (.slice a6 n6 c6) ∧ FO wc.heap.size w' (.slice a6 n6 c6) ys ∧ (ys.map fun x => (x.1, x.2.2)) = cutF fs ∧ Below wc.heap.size wc w') := (cutFiles_any _ _ _ wc (HFF.out wc hmb.2.2.2.2)).mono fun e w' ⟨v', ys, e1, e2, e3, e4⟩ => by
      obtain ⟨a6, c6, e9, -⟩ := Mg.row_shape e2.row
      subst e9
      exact ⟨a6, _, c6, ys, e1, e2, e3, e4⟩
    clear hmb H4 HCK HD
    go_wp2_with fail
    refine HCF.out.mono ?_
    rintro e W6 ⟨a6, n6, c6, ys, rfl, f6, hys, b6⟩
    have H6 : Hid (MB w p5 ng nv nx nt sl sao snl scap W6) := HMB.out.kept b6
    have hyl : ys.length ≤ 40 := by
      have h9 := congrArg List.length hys
      unfold cutF at h9
      rw [List.length_map, List.length_map, List.length_take] at h9
      omega
    have hynm : ∀ x ∈ ys, x.1.length ≤ maxLen := fun x hx => by
      have h9 : (x.1, x.2.2) ∈ ys.map fun x => (x.1, x.2.2) := List.mem_map.2 ⟨x, hx, rfl⟩
      rw [hys] at h9
      unfold cutF at h9
      obtain ⟨y, hy, e⟩ := List.mem_map.1 h9
      have e1 := congrArg Prod.fst e
      simp only at e1
      rw [← e1]
      exact HNM.out y (List.mem_of_mem_take hy)
    have HAP : Hid (∃ o7 n7 c7 W8, (Builtin.append_ #[25, 25] 25 #[.slice a6 n6 c6, .slice (some ⟨W6.heap.size + 1, 0, none⟩) 3 3]).run Tryz.prog ((W6.alloc (.cells #[.int .u8 120] 5 (1, 2))).alloc (.cells #[.string ⟨#[115, 49, 48, 57, 57, 53, 49, 49, 54, 50, 55, 55, 55, 54]⟩, .slice none 0 0, .string ⟨#[77, 65, 78, 73, 70, 69, 83, 84]⟩, .slice (some ⟨W6.heap.size, 0, none⟩) 1 1, .string ⟨#[115, 48]⟩, .slice none 0 0] 34)) = .ok (.slice o7 n7 c7) W8 ∧ MB w p5 ng nv nx nt sl sao snl scap W8 ∧ ∃ fsx, Fls TT W8 (.slice o7 n7 c7) fsx ∧ n7 = fsx.length ∧ (∀ x ∈ fsx, x.1.length ≤ maxLen) ∧ fsx.length ≤ 43 ∧ ∃ x ∈ fsx, x.1 = nA) := by
      obtain ⟨WB, hWB⟩ : ∃ W, W = W6.alloc (.cells #[.int .u8 120] 5 (1, 2)) := ⟨_, rfl⟩
      have hbs : Bs WB (.slice (some ⟨W6.heap.size, 0, none⟩) 1 1) [120] := by
        rw [hWB]
        exact conv_bs W6 120 (by omega)
      have hb1 : Below W6.heap.size W6 WB := by
        rw [hWB]
        exact up0 _ _
      have hsz : WB.heap.size = W6.heap.size + 1 := by
        rw [hWB, heap_one]
      rw [← hWB]
      have hc7 : LB (WB.alloc (.cells #[.string ⟨#[115, 49, 48, 57, 57, 53, 49, 49, 54, 50, 55, 55, 55, 54]⟩, .slice none 0 0, .string ⟨#[77, 65, 78, 73, 70, 69, 83, 84]⟩, .slice (some ⟨W6.heap.size, 0, none⟩) 1 1, .string ⟨#[115, 48]⟩, .slice none 0 0] 34)) WB.heap.size 34 ([((nA, .slice none 0 0, []) : FX), ([77, 65, 78, 73, 70, 69, 83, 84], .slice (some ⟨W6.heap.size, 0, none⟩) 1 1, [120]), ([115, 48], .slice none 0 0, [])].flatMap enF) := lb_new WB [.string ⟨#[115, 49, 48, 57, 57, 53, 49, 49, 54, 50, 55, 55, 55, 54]⟩, .slice none 0 0, .string ⟨#[77, 65, 78, 73, 70, 69, 83, 84]⟩, .slice (some ⟨W6.heap.size, 0, none⟩) 1 1, .string ⟨#[115, 48]⟩, .slice none 0 0] 34
      obtain ⟨W7, hW7⟩ : ∃ W, W = WB.alloc (.cells #[.string ⟨#[115, 49, 48, 57, 57, 53, 49, 49, 54, 50, 55, 55, 55, 54]⟩, .slice none 0 0, .string ⟨#[77, 65, 78, 73, 70, 69, 83, 84]⟩, .slice (some ⟨W6.heap.size, 0, none⟩) 1 1, .string ⟨#[115, 48]⟩, .slice none 0 0] 34) := ⟨_, rfl⟩
      have hb2 : Below WB.heap.size WB W7 := by
        rw [hW7]
        exact up0 _ _
      rw [← hW7] at hc7 ⊢
      rw [hsz] at hc7
      have h67 : Below W6.heap.size W6 W7 := andThen hb1 hb2
      have hes : ∀ x ∈ ([((nA, .slice none 0 0, []) : FX), ([77, 65, 78, 73, 70, 69, 83, 84], .slice (some ⟨W6.heap.size, 0, none⟩) 1 1, [120]), ([115, 48], .slice none 0 0, [])] : List FX), Bs W7 x.2.1 x.2.2 ∧ ∀ q, (∃ off n c, x.2.1 = .slice (some ⟨q, off, none⟩) n c) → (Value.slice a6 n6 c6).ownBlock ≠ some q := fun x hx => by
        simp only [List.mem_cons, List.not_mem_nil, or_false] at hx
        rcases hx with rfl | rfl | rfl
        · exact ⟨(Own.nil 0 _).bs, fun q ⟨_, _, _, e⟩ => by cases e⟩
        · refine ⟨hbs.kept hb2, fun q ⟨_, _, _, e⟩ e2 => ?_⟩
          simp only [Value.slice.injEq, Option.some.injEq, Addr.mk.injEq] at e
          have h9 := (World.ownsRow.lt f6.row q e2).2
          omega
        · exact ⟨(Own.nil 0 _).bs, fun q ⟨_, _, _, e⟩ => by cases e⟩
      obtain ⟨v8, W8, hr, ⟨o7, n7, c7, e7⟩, f8, b8⟩ := (f6.kept h67).apps 25 _ hes (W6.heap.size + 1) 3 hc7 (by simp; omega) (Nat.le_trans b6.size h67.size)
      subst e7
      obtain ⟨a9, c9, e9, -⟩ := f8.sh
      simp only [Value.slice.injEq] at e9
      refine ⟨o7, n7, c7, W8, hr, HMB.out.kept ((andThen b6 h67).trans b8), _, f8, e9.2.1, fun x hx => ?_, by simp; omega, ⟨_, List.mem_map.2 ⟨_, List.mem_append_right _ (List.mem_cons_self), rfl⟩, rfl⟩⟩
      obtain ⟨y, hy, rfl⟩ := List.mem_map.1 hx
      rcases List.mem_append.1 hy with e | e
      · exact hynm y e
      · simp only [List.mem_cons, List.not_mem_nil, or_false] at e
        rcases e with rfl | rfl | rfl <;> (simp [nA, maxLen])
    clear f6 hys b6 hyl hynm H6 HCF HMB
    have kc : (convert 32 32 (.slice (some ⟨W6.heap.size, 0, none⟩) 1 1)).run Tryz.prog (W6.alloc (.cells #[.int .u8 120] 5)) = .ok (.slice (some ⟨W6.heap.size, 0, none⟩) 1 1) (W6.alloc (.cells #[.int .u8 120] 5 (1, 2))) := conv1 W6 120
    obtain ⟨o7, n7, c7, W8, hr, hmb8, fsx, f8, hn7, hnm7, hl7, ha7⟩ := HAP.out
    have H8 : Hid (MB w p5 ng nv nx nt sl sao snl scap W8) := hmb8
    have HLD : Hid (Calls Tryz.prog 8 #[.int .i64 4194304, .slice o7 n7 c7] W8 fun e w' => Below W8.heap.size W8 w' ∧ ∃ v12 E, e = .returned (.tuple #[v12, .int .i64 E]) ∧ (E = 0 → ∃ g S M, v12 = .pointer (some ⟨g, 0, none⟩) ∧ AL w o7 n7 c7 g fsx S M W8 w')) := (al_load f8 hn7 hnm7 hl7 ha7 hmb8.2.2.2.2).mono fun e w' ⟨h1, h2⟩ => ⟨h1, by
      rcases h2 with ⟨h2, h3⟩ | ⟨g, S, M, h3, h4⟩
      · exact ⟨_, _, h3, fun e => absurd e h2⟩
      · exact ⟨_, _, h3, fun _ => ⟨g, S, M, rfl, h4⟩⟩⟩
    clear hmb8 f8 hn7 hnm7 hl7 ha7 HAP
    go_upto_region 5 with (at_builtin; refine wpList_appRun rfl (.tmp 36) (.tmp 42) 25 rfl rfl rfl hr ?_)
    clear hr kc
    go_wp2_with fail
    refine HLD.out.mono ?_
    rintro e W9 ⟨b9, v12, E, rfl, hal⟩
    have H9 : Hid (E = 0 → ∃ g S M, v12 = .pointer (some ⟨g, 0, none⟩) ∧ AL w o7 n7 c7 g fsx S M W8 W9) := hal
    have HM9 : Hid (MB w p5 ng nv nx nt sl sao snl scap W9) := H8.out.kept b9
    have HM8 : Hid (MB w p5 ng nv nx nt sl sao snl scap W8) := H8.out
    clear hal b9 H8 HLD
    obtain ⟨D2, hD2⟩ : ∃ D, (E != 0) = D := ⟨_, rfl⟩
    have HD2 : Hid ((E != 0) = D2) := hD2
    go_upto_if 50 with fail
    clear hD2
    go_cut [11, 12, 13] from 51 to 61 (fun s11 s12 s13 wx => s13 = .int .i64 0 ∧ ∃ oa N oc g fsx S M W0, s11 = .slice oa N oc ∧ s12 = .pointer (some ⟨g, 0, none⟩) ∧ MB w p5 ng nv nx nt sl sao snl scap W0 ∧ AL w oa N oc g fsx S M W0 wx)
    case first =>
      cases D2 with
      | false =>
        have h8 := bne_eq_false_iff_eq.1 HD2.out
        subst h8
        obtain ⟨g, S, M, rfl, hal⟩ := H9.out rfl
        have HAL : Hid (AL w o7 n7 c7 g fsx S M W8 W9) := hal
        clear hal H9
        go_wp2_with fail
        go_meet
        exact ⟨rfl, o7, n7, c7, g, fsx, S, M, W8, rfl, rfl, HM8.out, HAL.out⟩
      | true =>
        have HLL2 : Hid (Calls Tryz.prog 8 #[.int .i64 4194304, .slice (some ⟨W9.heap.size + 1, 0, none⟩) 3 3] ((W9.alloc (.cells #[.int .u8 121] 5 (1, 2))).alloc (.cells #[.string ⟨#[115, 49, 48, 57, 57, 53, 49, 49, 54, 50, 55, 55, 55, 54]⟩, .slice none 0 0, .string ⟨#[77, 65, 78, 73, 70, 69, 83, 84, 46, 116, 109, 112]⟩, .slice none 0 0, .string ⟨#[115, 49]⟩, .slice (some ⟨W9.heap.size, 0, none⟩) 1 1] 34)) fun e w' => Below W9.heap.size W9 w' ∧ ∃ g S M W0, e = .returned (.tuple #[.pointer (some ⟨g, 0, none⟩), .int .i64 0]) ∧ AL w (some ⟨W9.heap.size + 1, 0, none⟩) 3 3 g lit3 S M W0 w' ∧ Below W9.heap.size W9 W0) := al_lit HM9.out.2.2.2.2
        clear H9
        have kc : (convert 32 32 (.slice (some ⟨W9.heap.size, 0, none⟩) 1 1)).run Tryz.prog (W9.alloc (.cells #[.int .u8 121] 5)) = .ok (.slice (some ⟨W9.heap.size, 0, none⟩) 1 1) (W9.alloc (.cells #[.int .u8 121] 5 (1, 2))) := conv1 W9 121
        go_wp2_with fail
        refine HLL2.out.mono ?_
        rintro e W10 ⟨-, g, S, M, W0, rfl, hal, b10⟩
        have HAL : Hid (AL w (some ⟨W9.heap.size + 1, 0, none⟩) 3 3 g lit3 S M W0 W10) := hal
        have HM10 : Hid (MB w p5 ng nv nx nt sl sao snl scap W0) := HM9.out.kept b10
        clear hal b10 kc
        go_wp2_with fail
        go_meet
        exact ⟨rfl, _, _, _, g, _, S, M, W0, rfl, rfl, HM10.out, HAL.out⟩
    case rest =>
      obtain ⟨rfl, oa, N, oc, g, fsx2, S, M, W0, rfl, rfl, hmb, hal⟩ := hcut
      have HAL : Hid (AL w oa N oc g fsx2 S M W0 wc) := hal
      have HFS : Hid (∀ W, Below W0.heap.size W0 W → Fls TT W (.slice oa N oc) fsx2) := hal.fl
      have HMB : Hid (∀ W, Below W0.heap.size W0 W → MB w p5 ng nv nx nt sl sao snl scap W) := fun W hW => hmb.kept hW
      have HBB : Hid (Below w.heap.size w W0 ∧ N = fsx2.length ∧ N ≤ 43 ∧ W0.heap.size ≤ wc.heap.size) := ⟨hal.b, hal.n, by rw [hal.n]; exact hal.len, hal.bel.size⟩
      have HNB : Hid (fsx2.length + fsx2.length ≤ 1000000) := by
        show _ ≤ _
        have := hal.len
        omega
      have HWF : Hid (Dk.WF (Dk.arm S n) fsx2.length) := hal.wf.arm n hn
      have HAR : Hid (Calls Tryz.prog 9 #[.pointer (some ⟨g, 0, none⟩), .int .i64 n] wc fun e w' => e = .returned (.tuple #[]) ∧ DM W0.heap.size w' g (Dk.arm S n) M ∧ Below W0.heap.size W0 w') := (dkarm_any _ _ _ _ _ _ hal.dm).mono fun e w' ⟨h1, h2, h3⟩ => ⟨h1, h2, hal.bel.trans (h3.below _ hal.bel.size fun k e => by rw [e]; exact hal.dm.gB)⟩
      have HSW : Hid (∀ keep2 cs2, Sw.SwF fsx2 ⟨ng, nv, nx, nt, sl⟩ (Sw.swR (Dk.arm S n) ⟨ng, nv, nx, nt, sl⟩).1 (Sw.swR (Dk.arm S n) ⟨ng, nv, nx, nt, sl⟩).2.1 (Sw.swR (Dk.arm S n) ⟨ng, nv, nx, nt, sl⟩).2.2 keep2 cs2) := fun k2 c2 => Sw.sweep_left hal.e hal.rl hal.wf.nm hal.dm.nm.1 (hal.rl.down.symm.trans rfl) hmb.2.2.2.1 (by
        obtain ⟨x, hx, e⟩ := hal.a
        refine ⟨x, hx, ?_⟩
        rw [e]
        exact old_nA (chk_fit hmb.2.2.2.1).1) k2 c2
      have HNMS : Hid (∀ x ∈ fsx2, Dk.isNm x.1 = true) := (Sw.rld_zero hal.e).1
      have HFT : Hid ((∀ s ∈ sl, Sg.fit s ∧ s.n < 1099511627776) ∧ sl.length ≤ 128) := chk_fit hmb.2.2.2.1
      obtain ⟨T, hTT⟩ : ∃ T, T = (Sw.swR (Dk.arm S n) ⟨ng, nv, nx, nt, sl⟩).1 := ⟨_, rfl⟩
      obtain ⟨E3, hE3⟩ : ∃ E, E = (Sw.swR (Dk.arm S n) ⟨ng, nv, nx, nt, sl⟩).2.1 := ⟨_, rfl⟩
      obtain ⟨gone, hgone⟩ : ∃ E, E = (Sw.swR (Dk.arm S n) ⟨ng, nv, nx, nt, sl⟩).2.2 := ⟨_, rfl⟩
      have HSQ : Hid (∀ w1, DM W0.heap.size w1 g (Dk.arm S n) M → Below W0.heap.size W0 w1 → Calls Tryz.prog 10 #[.pointer (some ⟨g, 0, none⟩), .agg #[.int .i64 ng, .int .i64 nv, .int .i64 nx, .int .i64 nt, .slice sao snl scap]] w1 fun e w' => ∃ a14 n14 c14 M2, e = .returned (.tuple #[.slice a14 n14 c14, .int .i64 E3]) ∧ n14 = gone.length ∧ NmR w1.heap.size w' (.slice a14 n14 c14) gone ∧ DM W0.heap.size w' g T M2 ∧ Below W0.heap.size W0 w') := fun w1 h1 h2 => by
        rw [hE3, hgone, hTT]
        have hm1 := HMB.out w1 h2
        refine (sweep_any W0.heap.size g fsx2.length _ M ⟨ng, nv, nx, nt, sl⟩ (.slice sao snl scap) w1 h1 h2.size hm1.2.1 (HTT.out w1 (andThen HBB.out.1 h2)) HWF.out (by have := HBB.out; omega) (fun s hs => (HFT.out.1 s hs).1) HFT.out.2).mono fun e w' ⟨v', e1, e2, M2, d1, d2, _⟩ => ?_
        obtain ⟨a, c, e9, -⟩ := Mg.row_shape e2
        subst e9
        exact ⟨a, _, c, M2, e1, rfl, e2, d1, h2.trans (d2.below _ h2.size fun k hk => (h1.ft hk).1)⟩
      have HT2 : Hid (Dk.WF T (fsx2.length + fsx2.length) ∧ ∀ keep2 cs2, Sw.SwF fsx2 ⟨ng, nv, nx, nt, sl⟩ T E3 gone keep2 cs2) := by
        rw [hE3, hgone, hTT]
        exact ⟨swR_wf HWF.out _, HSW.out⟩
      clear hmb hal HM8 HM9 HD2 H9 hn HSW hTT hE3 hgone HAL
      go_upto_region 11 with fail
      go_wp2_with fail
      refine HAR.out.mono ?_
      rintro e W11 ⟨rfl, d11, b11⟩
      have H11 : Hid (DM W0.heap.size W11 g (Dk.arm S n) M ∧ Below W0.heap.size W0 W11) := ⟨d11, b11⟩
      have hmb := HMB.out W11 b11
      have y0 := hmb.1.cell 0 _ rfl
      have y1 := hmb.1.cell 1 _ rfl
      have y2 := hmb.1.cell 2 _ rfl
      have y3 := hmb.1.cell 3 _ rfl
      have y4 := hmb.1.cell 4 _ rfl
      clear d11 b11 hmb HAR
      go_wp2_with fail
      refine (HSQ.out W11 H11.out.1 H11.out.2).mono ?_
      rintro e W12 ⟨a14, n14, c14, M2, rfl, hn14, hnm14, d12, b12⟩
      have H12 : Hid (n14 = gone.length ∧ NmR W11.heap.size W12 (.slice a14 n14 c14) gone ∧ DM W0.heap.size W12 g T M2 ∧ Below W0.heap.size W0 W12) := ⟨hn14, hnm14, d12, b12⟩
      clear y0 y1 y2 y3 y4 hn14 hnm14 d12 b12 HSQ H11
      obtain ⟨D3, hD3⟩ : ∃ D, decide ((Q : Int) > 40) = D := ⟨_, rfl⟩
      have HD3 : Hid (decide ((Q : Int) > 40) = D3) := hD3
      go_upto_if 79 with fail
      clear hD3
      go_cut [4] from 80 to 81 (fun s wx => (∃ ca2 Q2 cc2 cs2, s = .slice ca2 Q2 cc2 ∧ ∀ W, Below w.heap.size w W → CtS W (.slice ca2 Q2 cc2) cs2) ∧ W12 = wx)
      case first =>
        cases D3 with
        | false =>
          go_wp2_with fail
          go_meet
          exact ⟨⟨ca, Q, cc, cs, rfl, HCC.out⟩, rfl⟩
        | true =>
          have hQ : (40 : Int) < Q := of_decide_eq_true HD3.out
          have h3 : (40 ≤ (cc : Int)) = True := eq_true (by omega)
          have HPR : Hid (∀ W, Below w.heap.size w W → CtS W (.slice ca 40 cc) (cs.take 40)) := fun W hW => cts_pre (HCC.out W hW) 40 (by have := HLL.out.2.2; omega)
          clear hQ
          go_wp2_with fail
          go_meet
          exact ⟨⟨ca, 40, cc, _, rfl, HPR.out⟩, rfl⟩
      case rest =>
        obtain ⟨⟨ca2, Q2, cc2, cs2, rfl, hcts⟩, rfl⟩ := hcut
        have HCR : Hid (Calls Tryz.prog 11 #[.pointer (some ⟨g, 0, none⟩), .int .i64 keep, .slice ca2 Q2 cc2] W12 fun e w' => ∃ a n c, e = .returned (.slice a n c) ∧ Fls TT w' (.slice a n c) (Dk.crash T keep cs2) ∧ Below W12.heap.size W12 w') := (dkcrash_wf W0.heap.size g T M2 _ keep _ cs2 W12 H12.out.2.2.1 (hcts W12 (andThen HBB.out.1 H12.out.2.2.2)) HT2.out.1 (by have := HBB.out; omega)).mono fun e w' ⟨v, e1, e2, e3⟩ => by
          obtain ⟨a, c, rfl⟩ := fls_slice e2
          exact ⟨a, _, c, e1, e2.mono fun _ _ => trivial, e3⟩
        have HSF : Hid (Sw.SwF fsx2 ⟨ng, nv, nx, nt, sl⟩ T E3 gone keep cs2) := HT2.out.2 keep cs2
        have HTW : Hid (Dk.WF T (fsx2.length + fsx2.length)) := HT2.out.1
        clear hcts HT2
        go_wp2_with fail
        refine HCR.out.mono ?_
        rintro e W13 ⟨a15, n15, c15, rfl, f15, b13⟩
        have H13 : Hid (Fls TT W13 (.slice a15 n15 c15) (Dk.crash T keep cs2) ∧ DM W0.heap.size W13 g T M2 ∧ Below W0.heap.size W0 W13) := ⟨f15, H12.out.2.2.1.kept b13, andThen H12.out.2.2.2 b13⟩
        have HNM13 : Hid (n14 = gone.length ∧ NmR W11.heap.size W13 (.slice a14 n14 c14) gone) := ⟨H12.out.1, Mg.row_kept H12.out.2.1 b13⟩
        clear f15 b13 H12 HCR
        have HFI : Hid (Calls Tryz.prog 12 #[.pointer (some ⟨g, 0, none⟩)] W13 fun e w' => ∃ a n c, e = .returned (.slice a n c) ∧ n = (Dk.files T).length ∧ Fls (W13.heap.size ≤ ·) w' (.slice a n c) (Dk.files T) ∧ Below W13.heap.size W13 w') := (dkfiles_wf W0.heap.size g T M2 _ W13 H13.out.2.1 HTW.out (by have := HBB.out; omega)).mono fun e w' ⟨v, e1, e2, e3⟩ => by
          obtain ⟨a, c, rfl⟩ := fls_slice e2
          exact ⟨a, _, c, e1, rfl, e2, e3⟩
        go_wp2_with fail
        refine HFI.out.mono ?_
        rintro e W14 ⟨a16, n16, c16, rfl, hn16, f16, b14⟩
        have H14 : Hid (∀ W, Below W14.heap.size W14 W → Fls TT W (.slice a15 n15 c15) (Dk.crash T keep cs2) ∧ Fls (W13.heap.size ≤ ·) W (.slice a16 n16 c16) (Dk.files T) ∧ NmR W11.heap.size W (.slice a14 n14 c14) gone ∧ DM W0.heap.size W g T M2 ∧ Below W0.heap.size W0 W) := fun W hW => ⟨(H13.out.1.kept b14).kept hW, f16.kept hW, Mg.row_kept (Mg.row_kept HNM13.out.2 b14) hW, (H13.out.2.1.kept b14).kept hW, andThen (andThen H13.out.2.2 b14) hW⟩
        have HLN : Hid (n14 = gone.length ∧ n16 = (Dk.files T).length) := ⟨HNM13.out.1, hn16⟩
        have HFT13 : Hid (∀ q, Ft g T M2 q → q < W13.heap.size) := fun q hq => (H13.out.2.1.ft hq).2
        clear hn16 f16 b14 H13 HNM13 HFI
        go_wp2_with fail
        go_loopw [17] (fun i wx => ∃ j : Nat, j ≤ N ∧ i = .int .i64 (j : Int) ∧ Below W14.heap.size W14 wx) (fun i _ => N - (intOf i).toNat)
        case atStart => exact ⟨0, Nat.zero_le _, rfl, Below.refl _ _⟩
        case round =>
          obtain ⟨j, hj, rfl, hbx⟩ := hrel
          have HX : Hid (Below W14.heap.size W14 wr) := hbx
          clear hbx
          have h43 : N ≤ 43 := HBB.out.2.2.1
          by_cases hlt : j < N
          · have HLT : Hid (j < N ∧ N ≤ 43) := ⟨hlt, HBB.out.2.2.1⟩
            have hjf : j < fsx2.length := by
              have := HBB.out.2.1
              omega
            obtain ⟨a1, c1, e1, -, -, h1⟩ := (HFS.out W0 (Below.refl _ _)).sh
            obtain ⟨b1, o1, e3, -, h3⟩ := h1 (List.ne_nil_of_length_pos (by omega))
            simp only [Value.slice.injEq] at e1
            obtain ⟨rfl, -, -⟩ := e1
            subst e3
            obtain ⟨p1, v1, q1, s1, -⟩ := h3 j hjf
            have HTH : Hid (Sw.old (cnd sl) fsx2[j].1 = false → fnd (Dk.files T) fsx2[j].1 = some fsx2[j].2 ∧ fnd (Dk.crash T keep cs2) fsx2[j].1 = some fsx2[j].2) := HSF.out.there _ (List.getElem_mem hjf)
            have HNJ : Hid (fsx2[j].1.length ≤ 40) := (Dk.isNm_len (HNMS.out _ (List.getElem_mem hjf))).2
            unfold enS at p1
            generalize fsx2[j] = x at *
            obtain ⟨nm, dl⟩ := x
            obtain ⟨x1, y1, hv1, -⟩ := s1.shape
            simp only at hv1 p1 s1 HTH HNJ
            subst hv1
            have HA : Hid (∀ W, Below W14.heap.size W14 W → W.cell? ⟨b1, o1 + j * 2, none⟩ = some (.string ⟨nm.toArray⟩) ∧ W.cell? ⟨b1, o1 + j * 2 + 1, none⟩ = some (.slice x1 dl.length y1) ∧ W.cell? ⟨p5, 0, none⟩ = some (.int .i64 ng) ∧ W.cell? ⟨p5, 1, none⟩ = some (.int .i64 nv) ∧ W.cell? ⟨p5, 2, none⟩ = some (.int .i64 nx) ∧ W.cell? ⟨p5, 3, none⟩ = some (.int .i64 nt) ∧ W.cell? ⟨p5, 4, none⟩ = some (.slice sao snl scap)) := fun W hW => by
              have hb := (H14.out W hW).2.2.2.2
              have hm := (HMB.out W hb).1
              exact ⟨(hb.cell (p := ⟨b1, _, none⟩) (World.block_lt_of_cell? _ _ p1)).trans p1, (hb.cell (p := ⟨b1, _, none⟩) (World.block_lt_of_cell? _ _ q1)).trans q1, hm.cell 0 _ rfl, hm.cell 1 _ rfl, hm.cell 2 _ rfl, hm.cell 3 _ rfl, hm.cell 4 _ rfl⟩
            have HS : Hid (∀ W, Below W14.heap.size W14 W → Bs W (.slice x1 dl.length y1) dl) := fun W hW => s1.kept (H14.out W hW).2.2.2.2
            obtain ⟨u, ok, huv⟩ : ∃ u ok, mNum nm = (u, ok) := ⟨_, _, rfl⟩
            have HNU : Hid (∀ W, Below W14.heap.size W14 W → Calls Tryz.prog 13 #[.string ⟨nm.toArray⟩] W fun e w' => e = .returned (.tuple #[.int .i64 u, .bool ok]) ∧ Below W.heap.size W w') := fun W hW => by
              have h9 := num_l nm (Nat.le_trans HNJ.out (by decide)) W (HTT.out W (andThen HBB.out.1 (H14.out W hW).2.2.2.2))
              rw [huv] at h9
              exact h9
            obtain ⟨C, hC⟩ : ∃ C, C = cnd sl u := ⟨_, rfl⟩
            have HNA : Hid (∀ W, Below W14.heap.size W14 W → Calls Tryz.prog 14 #[.agg #[.int .i64 ng, .int .i64 nv, .int .i64 nx, .int .i64 nt, .slice sao snl scap], .int .i64 u] W fun e w' => e = .returned (.bool C) ∧ Below W.heap.size W w') := fun W hW => by
              rw [hC]
              exact named_any ⟨ng, nv, nx, nt, sl⟩ (.slice sao snl scap) u W (HMB.out W (H14.out W hW).2.2.2.2).2.1 (Nat.le_trans HFT.out.2 (by decide))
            have HOL : Hid (Sw.old (cnd sl) nm = (decide (nm = Sw.freshN) || (ok && !C))) := by
              show _ = _
              unfold Sw.old
              rw [huv, hC]
            have HBC : Hid (Sw.old (cnd sl) nm = false → ∀ W, Below W14.heap.size W14 W → Calls Tryz.prog 15 #[.slice a15 n15 c15, .string ⟨nm.toArray⟩] W fun e w' => w' = W ∧ ∃ x y, e = .returned (.tuple #[.slice x dl.length y, .bool true]) ∧ Bs W (.slice x dl.length y) dl) := fun ho W hW => (bytesOf_any TT _ _ nm W (H14.out W hW).1).mono fun e w' ⟨h1, h2⟩ => ⟨h1, by
              rcases h2 with ⟨h2, -⟩ | ⟨d, v, h2, h3, h4⟩
              · rw [(HTH.out ho).2] at h2
                cases h2
              · rw [(HTH.out ho).2] at h2
                simp only [Option.some.injEq] at h2
                subst h2
                obtain ⟨x, y, rfl, -⟩ := h4.shape
                exact ⟨x, y, h3, h4⟩⟩
            have HBF : Hid (Sw.old (cnd sl) nm = false → ∀ W, Below W14.heap.size W14 W → Calls Tryz.prog 15 #[.slice a16 n16 c16, .string ⟨nm.toArray⟩] W fun e w' => w' = W ∧ ∃ x y, e = .returned (.tuple #[.slice x dl.length y, .bool true]) ∧ Bs W (.slice x dl.length y) dl) := fun ho W hW => (bytesOf_any _ _ _ nm W (H14.out W hW).2.1).mono fun e w' ⟨h1, h2⟩ => ⟨h1, by
              rcases h2 with ⟨h2, -⟩ | ⟨d, v, h2, h3, h4⟩
              · rw [(HTH.out ho).1] at h2
                cases h2
              · rw [(HTH.out ho).1] at h2
                simp only [Option.some.injEq] at h2
                subst h2
                obtain ⟨x, y, rfl, -⟩ := h4.shape
                exact ⟨x, y, h3, h4⟩⟩
            clear h1 h3 p1 q1 s1 HNJ huv hC HTH hjf
            obtain ⟨c0, -, -, -, -, -, -⟩ := HA.out wr HX.out
            go_wp2_with fail
            refine (HNU.out wr HX.out).mono ?_
            rintro e W15 ⟨rfl, b15⟩
            have H15 : Hid (Below W14.heap.size W14 W15) := andThen HX.out b15
            clear b15 c0 HNU
            obtain ⟨c0, c1, z0, z1, z2, z3, z4⟩ := HA.out W15 H15.out
            by_cases hfr : nm = Sw.freshN
            · have x9 : (nm == [77, 65, 78, 73, 70, 69, 83, 84, 46, 116, 109, 112]) = true := by rw [hfr]; rfl
              clear hfr HNA HBC HBF HOL
              go_wp2_with fail
              go_roundw
              case rel =>
                have h43 := HLT.out
                exact ⟨j + 1, h43.1, by go_num, H15.out⟩
              case measure => have := HLT.out; simp [intOf]; omega
            · have x9 : (nm == [77, 65, 78, 73, 70, 69, 83, 84, 46, 116, 109, 112]) = false := beq_eq_false_iff_ne.2 hfr
              have HFR : Hid (decide (nm = Sw.freshN) = false) := decide_eq_false hfr
              clear hfr
              cases ok with
              | false =>
                have HW9 : Hid (Below W14.heap.size W14 W15) := H15.out
                have HOF : Hid (Sw.old (cnd sl) nm = false) := by rw [HOL.out, HFR.out]; rfl
                go_wp2_with fail
                refine (HBC.out HOF.out W15 HW9.out).mono ?_
                rintro e W9 ⟨rfl, xa, ya, rfl, hba⟩
                have HBA : Hid (∀ W, Below W9.heap.size W9 W → Bs W (.slice xa dl.length ya) dl) := fun W hW => hba.kept hW
                clear hba
                go_wp2_with fail
                refine (HBF.out HOF.out _ HW9.out).mono ?_
                rintro e W10 ⟨rfl, xb, yb, rfl, hbb⟩
                have HBB2 : Hid (∀ W, Below W10.heap.size W10 W → Bs W (.slice xb dl.length yb) dl) := fun W hW => hbb.kept hW
                clear hbb z0 z1 z2 z3 z4 HBC HBF
                go_wp2_with fail
                refine (dlalike_yes _ _ dl _ (HBA.out _ (Below.refl _ _)) (HS.out _ HW9.out)).mono ?_
                rintro e W11 ⟨rfl, b11⟩
                have HB11 : Hid (Below W10.heap.size W10 W11) := b11
                obtain ⟨c2, c3, -, -, -, -, -⟩ := HA.out W11 (andThen HW9.out b11)
                clear b11 c0 c1
                go_wp2_with fail
                refine (dlalike_yes _ _ dl _ (HBB2.out _ HB11.out) (HS.out _ (andThen HW9.out HB11.out))).mono ?_
                rintro e W12 ⟨rfl, b12⟩
                have H12 : Hid (Below W14.heap.size W14 W12) := andThen (andThen HW9.out HB11.out) b12
                clear b12 c2 c3
                go_wp2_with fail
                go_roundw
                case rel =>
                  have h43 := HLT.out
                  exact ⟨j + 1, h43.1, by go_num, H12.out⟩
                case measure => have := HLT.out; simp [intOf]; omega
              | true =>
                cases C with
                | false =>
                  go_wp2_with fail
                  refine (HNA.out _ H15.out).mono ?_
                  rintro e W16 ⟨rfl, b16⟩
                  have H16 : Hid (Below W14.heap.size W14 W16) := andThen H15.out b16
                  clear b16 c0 c1 z0 z1 z2 z3 z4 HNA
                  go_wp2_with fail
                  go_roundw
                  case rel =>
                    have h43 := HLT.out
                    exact ⟨j + 1, h43.1, by go_num, H16.out⟩
                  case measure => have := HLT.out; simp [intOf]; omega
                | true =>
                  go_wp2_with fail
                  refine (HNA.out _ H15.out).mono ?_
                  rintro e W16 ⟨rfl, b16⟩
                  have H16 : Hid (Below W14.heap.size W14 W16) := andThen H15.out b16
                  clear b16 c0 c1 z0 z1 z2 z3 z4 HNA
                  obtain ⟨c0, c1, z0, z1, z2, z3, z4⟩ := HA.out W16 H16.out
                  have HW9 : Hid (Below W14.heap.size W14 W16) := H16.out
                  have HOF : Hid (Sw.old (cnd sl) nm = false) := by rw [HOL.out, HFR.out]; rfl
                  go_wp2_with fail
                  refine (HBC.out HOF.out W16 HW9.out).mono ?_
                  rintro e W9 ⟨rfl, xa, ya, rfl, hba⟩
                  have HBA : Hid (∀ W, Below W9.heap.size W9 W → Bs W (.slice xa dl.length ya) dl) := fun W hW => hba.kept hW
                  clear hba
                  go_wp2_with fail
                  refine (HBF.out HOF.out _ HW9.out).mono ?_
                  rintro e W10 ⟨rfl, xb, yb, rfl, hbb⟩
                  have HBB2 : Hid (∀ W, Below W10.heap.size W10 W → Bs W (.slice xb dl.length yb) dl) := fun W hW => hbb.kept hW
                  clear hbb z0 z1 z2 z3 z4 HBC HBF
                  go_wp2_with fail
                  refine (dlalike_yes _ _ dl _ (HBA.out _ (Below.refl _ _)) (HS.out _ HW9.out)).mono ?_
                  rintro e W11 ⟨rfl, b11⟩
                  have HB11 : Hid (Below W10.heap.size W10 W11) := b11
                  obtain ⟨c2, c3, -, -, -, -, -⟩ := HA.out W11 (andThen HW9.out b11)
                  clear b11 c0 c1
                  go_wp2_with fail
                  refine (dlalike_yes _ _ dl _ (HBB2.out _ HB11.out) (HS.out _ (andThen HW9.out HB11.out))).mono ?_
                  rintro e W12 ⟨rfl, b12⟩
                  have H12 : Hid (Below W14.heap.size W14 W12) := andThen (andThen HW9.out HB11.out) b12
                  clear b12 c2 c3
                  go_wp2_with fail
                  go_roundw
                  case rel =>
                    have h43 := HLT.out
                    exact ⟨j + 1, h43.1, by go_num, H12.out⟩
                  case measure => have := HLT.out; simp [intOf]; omega
          · rcases HSF.out.res with ⟨rfl, hg0, hdn⟩ | ⟨rfl, hg0, hg1, hg2, hg3⟩
            · obtain rfl : n14 = 0 := by rw [HLN.out.1, hg0]; rfl
              have HDN : Hid (Calls Tryz.prog 17 #[.pointer (some ⟨g, 0, none⟩)] wr fun e w' => e = .returned (.bool true) ∧ w' = wr) := by
                have h9 := dkdown_any W0.heap.size g T M2 wr (H14.out wr HX.out).2.2.2.1
                rw [hdn] at h9
                exact h9
              clear hg0 hdn HSF
              go_wp2_with fail
              refine HDN.out.mono ?_
              rintro e W15 ⟨rfl, rfl⟩
              go_wp2_with fail
              go_returns
              exact ⟨rfl, andThen HBB.out.1 (H14.out _ HX.out).2.2.2.2⟩
            · have HGG : Hid (gone ≠ [] ∧ (∀ s ∈ gone, fnd (Dk.crash T keep cs2) s = none) ∧ (Dk.files T).length + gone.length = fsx2.length ∧ Sw.swR T ⟨ng, nv, nx, nt, sl⟩ = (T, 0, [])) := ⟨hg0, hg1, hg2, hg3⟩
              clear hg0 hg1 hg2 hg3 HSF
              go_wp2_with fail
              go_loopw [24] (fun i wx => ∃ j : Nat, j ≤ n14 ∧ i = .int .i64 (j : Int) ∧ Below W14.heap.size W14 wx) (fun i _ => n14 - (intOf i).toNat)
              case atStart => exact ⟨0, Nat.zero_le _, rfl, HX.out⟩
              case round =>
                obtain ⟨j, hj, rfl, hbx⟩ := hrel
                have HY : Hid (Below W14.heap.size W14 wr) := hbx
                clear hbx
                have hgl : n14 ≤ 43 := by
                  have h1 := HGG.out.2.2.1
                  have h2 := HBB.out
                  have h3 := HLN.out
                  omega
                by_cases hlt : j < n14
                · have HLT : Hid (j < n14 ∧ n14 ≤ 43) := ⟨hlt, hgl⟩
                  have hjn : j < gone.length := by
                    have := HLN.out.1
                    omega
                  obtain ⟨b, k, e, hcell⟩ := NmR.read (H14.out wr HY.out).2.2.1 j _ (List.getElem?_eq_getElem hjn)
                  have hno := HGG.out.2.1 _ (List.getElem_mem hjn)
                  unfold enS at hcell
                  generalize gone[j] = s at *
                  have HBO : Hid (Calls Tryz.prog 15 #[.slice a15 n15 c15, .string ⟨s.toArray⟩] wr fun e w' => e = .returned (.tuple #[.slice none 0 0, .bool false]) ∧ w' = wr) := (bytesOf_any TT _ _ s wr (H14.out wr HY.out).1).mono fun e w' ⟨h1, h2⟩ => ⟨(by
                    rcases h2 with ⟨-, h3⟩ | ⟨d, v, h2, -⟩
                    · exact h3
                    · rw [hno] at h2
                      cases h2), h1⟩
                  simp only [Value.slice.injEq] at e
                  obtain ⟨rfl, -, rfl⟩ := e
                  clear hjn hno
                  go_wp2_with fail
                  refine HBO.out.mono ?_
                  rintro e W16 ⟨rfl, rfl⟩
                  clear hcell
                  go_wp2_with fail
                  go_roundw
                  case rel =>
                    have h43 := HLT.out
                    exact ⟨j + 1, h43.1, by go_num, HY.out⟩
                  case measure => have := HLT.out; simp [intOf]; omega
                · have hsum : n16 + n14 = N := by
                    have h1 := HGG.out.2.2.1
                    have h2 := HBB.out.2.1
                    have h3 := HLN.out
                    omega
                  have hpos : 0 < n14 := by
                    have h1 := List.length_pos_iff.2 HGG.out.1
                    have h3 := HLN.out
                    omega
                  have HN43 : Hid (N ≤ 43) := HBB.out.2.2.1
                  have t1 : ((n16 : Int) + (n14 : Int) != (N : Int)) = false := by
                    rw [bne_eq_false_iff_eq]
                    omega
                  have t2 : ((n14 : Int) == 0) = false := by
                    rw [beq_eq_false_iff_ne]
                    omega
                  have HS2 : Hid (Calls Tryz.prog 10 #[.pointer (some ⟨g, 0, none⟩), .agg #[.int .i64 ng, .int .i64 nv, .int .i64 nx, .int .i64 nt, .slice sao snl scap]] wr fun e w' => ∃ a c, e = .returned (.tuple #[.slice a 0 c, .int .i64 0]) ∧ (∃ M3, DM W0.heap.size w' g T M3) ∧ Fls TT w' (.slice a16 n16 c16) (Dk.files T) ∧ Below W0.heap.size W0 w') := by
                    obtain ⟨-, f16, -, d1, h2⟩ := H14.out wr HY.out
                    have hm1 := HMB.out wr h2
                    have h9 := sweep_any W0.heap.size g (fsx2.length + fsx2.length) T M2 ⟨ng, nv, nx, nt, sl⟩ (.slice sao snl scap) wr d1 h2.size hm1.2.1 (HTT.out wr (andThen HBB.out.1 h2)) HTW.out HNB.out (fun s hs => (HFT.out.1 s hs).1) HFT.out.2
                    rw [HGG.out.2.2.2] at h9
                    refine h9.mono fun e w' ⟨v', e1, e2, M3, d3, d4, _⟩ => ?_
                    obtain ⟨a, c, e9, -⟩ := Mg.row_shape e2
                    subst e9
                    refine ⟨a, c, e1, ⟨M3, d3⟩, (f16.blk fun q hq hlt => d4.block q hlt fun hk => ?_).mono fun _ _ => trivial, h2.trans (d4.below _ h2.size fun k hk => (d1.ft hk).1)⟩
                    have := HFT13.out q hk
                    omega
                  have hmb := HMB.out wr (H14.out wr HY.out).2.2.2.2
                  have y0 := hmb.1.cell 0 _ rfl
                  have y1 := hmb.1.cell 1 _ rfl
                  have y2 := hmb.1.cell 2 _ rfl
                  have y3 := hmb.1.cell 3 _ rfl
                  have y4 := hmb.1.cell 4 _ rfl
                  have a1 : n16 ≤ 43 := by omega
                  clear hmb hsum hpos
                  go_wp2_with fail
                  refine HS2.out.mono ?_
                  rintro e W17 ⟨a27, c27, rfl, ⟨M3, d17⟩, f17, b17⟩
                  have HFI2 : Hid (Calls Tryz.prog 12 #[.pointer (some ⟨g, 0, none⟩)] W17 fun e w' => ∃ v, e = .returned v ∧ Fls TT w' v (Dk.files T) ∧ Below W17.heap.size W17 w') := (dkfiles_wf W0.heap.size g T M3 _ W17 d17 HTW.out (Nat.le_trans HNB.out (Nat.le_of_ble_eq_true rfl))).mono fun e w' ⟨v, e1, e2, e3⟩ => ⟨v, e1, e2.mono fun _ _ => trivial, e3⟩
                  have H17 : Hid (Fls TT W17 (.slice a16 n16 c16) (Dk.files T) ∧ Below W0.heap.size W0 W17) := ⟨f17, b17⟩
                  clear y0 y1 y2 y3 y4 d17 f17 b17 HS2
                  go_wp2_with fail
                  refine HFI2.out.mono ?_
                  rintro e W18 ⟨v18, rfl, f18, b18⟩
                  have H18 : Hid (Fls TT W18 v18 (Dk.files T) ∧ Fls TT W18 (.slice a16 n16 c16) (Dk.files T) ∧ Below W0.heap.size W0 W18) := ⟨f18, H17.out.1.kept b18, andThen H17.out.2 b18⟩
                  clear f18 b18 HFI2
                  go_wp2_with fail
                  refine (dlfalike_yes TT TT _ _ (Dk.files T) W18 H18.out.2.1 H18.out.1).mono ?_
                  rintro e W19 ⟨rfl, b19⟩
                  have H19 : Hid (Below W0.heap.size W0 W19) := andThen H18.out.2.2 b19
                  clear b19
                  go_wp2_with fail
                  go_returns
                  exact ⟨rfl, andThen HBB.out.1 H19.out⟩
end Go.Proofs.YtppabcihbpbfpaaGreatDoor
