/-
  Package disk: files in a row; Files.
-/
import Derived.Test.YtjepeeopjjnglaaDkc
namespace Go.Proofs.Ytjepeeopjjnglaa
open Go Go.RowKit Go.ChangeShapes
open Wb

/-- files to be read: a name and bytes each; all their blocks are as told -/
structure Fls (ok : Nat → Prop) (w : World) (v : Value) (fs : List (List UInt8 × List Nat)) : Prop where
  sh : ∃ a c, v = .slice a fs.length c ∧ fs.length ≤ c ∧ c ≤ maxLen ∧ (fs ≠ [] → ∃ b off, a = some ⟨b, off, none⟩ ∧ ok b ∧ ∀ j (h : j < fs.length), w.cell? ⟨b, off + j * 2, none⟩ = some (enS fs[j].1) ∧ ∃ dv, w.cell? ⟨b, off + j * 2 + 1, none⟩ = some dv ∧ Bs w dv fs[j].2 ∧ ∀ q off2 n c2, dv = .slice (some ⟨q, off2, none⟩) n c2 → ok q)
theorem Fls.blk {ok : Nat → Prop} {w w' : World} {v : Value} {fs : List (List UInt8 × List Nat)} (h : Fls ok w v fs) (hb : ∀ q, ok q → q < w.heap.size → w'.heap[q]? = w.heap[q]?) : Fls ok w' v fs := by
  obtain ⟨a, c, e, h1, h2, h3⟩ := h.sh
  refine ⟨a, c, e, h1, h2, fun hne => ?_⟩
  obtain ⟨b, off, e2, hok, hc⟩ := h3 hne
  refine ⟨b, off, e2, hok, fun j hj => ?_⟩
  obtain ⟨c1, dv, c2, c3, c4⟩ := hc j hj
  have key : ∀ o x, w.cell? ⟨b, o, none⟩ = some x → w'.cell? ⟨b, o, none⟩ = some x := fun o x hx => by
    have hlt : b < w.heap.size := World.block_lt_of_cell? _ _ hx
    simp only [World.cell?] at hx ⊢
    rw [hb b hok hlt]
    exact hx
  exact ⟨key _ _ c1, dv, key _ _ c2, bs_blk c3 fun q ⟨o2, n, c9, e9⟩ hlt => hb q (c4 q o2 n c9 e9) hlt, c4⟩
theorem Fls.kept {ok : Nat → Prop} {w w' : World} {v : Value} {fs : List (List UInt8 × List Nat)} (h : Fls ok w v fs) (hb : Below w.heap.size w w') : Fls ok w' v fs := h.blk fun q _ hq => hb.block q hq
theorem Fls.mono {ok ok2 : Nat → Prop} {w : World} {v : Value} {fs : List (List UInt8 × List Nat)} (h : Fls ok w v fs) (hm : ∀ q, ok q → ok2 q) : Fls ok2 w v fs := by
  obtain ⟨a, c, e, h1, h2, h3⟩ := h.sh
  refine ⟨a, c, e, h1, h2, fun hne => ?_⟩
  obtain ⟨b, off, e2, hok, hc⟩ := h3 hne
  refine ⟨b, off, e2, hm b hok, fun j hj => ?_⟩
  obtain ⟨c1, dv, c2, c3, c4⟩ := hc j hj
  exact ⟨c1, dv, c2, c3, fun q o n c e => hm q (c4 q o n c e)⟩
/-- a file's two cells -/
def enF (x : List UInt8 × Value × List Nat) : List Value := [enS x.1, x.2.1]
theorem flatF_len (cs : List (List UInt8 × Value × List Nat)) : (cs.flatMap enF).length = cs.length * 2 := by
  induction cs with
  | nil => rfl
  | cons x r ih => rw [List.flatMap_cons, List.length_append, ih, List.length_cons]; simp [enF]; omega
theorem flatF_at : ∀ (cs : List (List UInt8 × Value × List Nat)) (j : Nat) (h : j < cs.length), (cs.flatMap enF)[j * 2]? = some (enS cs[j].1) ∧ (cs.flatMap enF)[j * 2 + 1]? = some cs[j].2.1
  | [], j, h => by simp at h
  | x :: r, 0, _ => by simp [enF]
  | x :: r, j + 1, h => by
    have hj : j < r.length := by simpa using h
    obtain ⟨h1, h2⟩ := flatF_at r j hj
    rw [List.flatMap_cons, show (j + 1) * 2 = (enF x).length + j * 2 by simp [enF]; omega, show (enF x).length + j * 2 + 1 = (enF x).length + (j * 2 + 1) by omega, List.getElem?_append_right (by omega), List.getElem?_append_right (by omega), Nat.add_sub_cancel_left, Nat.add_sub_cancel_left]
    simp only [List.getElem_cons_succ]
    exact ⟨h1, h2⟩
/-- files in a row of the call's own, their bytes in rows of their own -/
structure FO (B : Nat) (w : World) (o : Value) (xs : List (List UInt8 × Value × List Nat)) : Prop where
  row : w.ownsRow B 71 2 o xs.length (xs.flatMap enF)
  own : ∀ x ∈ xs, Own B w x.2.1 x.2.2
theorem FO.kept {B : Nat} {w w' : World} {o : Value} {xs : List (List UInt8 × Value × List Nat)} (h : FO B w o xs) (hb : Below w.heap.size w w') : FO B w' o xs := ⟨Mg.row_kept h.row hb, fun x hx => (h.own x hx).kept hb⟩
theorem FO.nil (B : Nat) (w : World) : FO B w (.slice none 0 0) [] := ⟨World.ownsRow_nil _ _ _ _, fun x hx => by cases hx⟩
theorem FO.fls {B : Nat} {w : World} {o : Value} {xs : List (List UInt8 × Value × List Nat)} (h : FO B w o xs) : Fls (B ≤ ·) w o (xs.map fun x => (x.1, x.2.2)) := by
  obtain ⟨a, c, e, h1, h2⟩ := Mg.row_shape h.row
  refine ⟨a, c, by rw [List.length_map]; exact e, by rw [List.length_map]; exact h1, h2, fun hne => ?_⟩
  have hne2 : xs ≠ [] := fun e2 => hne (by rw [e2]; rfl)
  rcases h.row.2 with ⟨e3, h0⟩ | ⟨b, c', cur, e3, hB, -⟩
  · exact absurd (List.eq_nil_of_length_eq_zero h0) hne2
  · rw [e] at e3
    simp only [Value.slice.injEq] at e3
    refine ⟨b, 0, e3.1, hB, fun j hj => ?_⟩
    have hj2 : j < xs.length := by rw [List.length_map] at hj; exact hj
    obtain ⟨f0, f1⟩ := flatF_at xs j hj2
    have hr := h.row
    rw [e, e3.1] at hr
    have c0 := World.ownsRow.cellAt hr (j * 2) (by omega)
    have c1 := World.ownsRow.cellAt hr (j * 2 + 1) (by omega)
    rw [f0] at c0
    rw [f1] at c1
    simp only [List.getElem_map, Nat.zero_add]
    refine ⟨c0, xs[j].2.1, c1, (h.own _ (List.getElem_mem hj2)).bs, fun q o2 n c2 e9 => ?_⟩
    rcases (h.own _ (List.getElem_mem hj2)).shape with ⟨e8, -⟩ | ⟨g8, c8, e8, hB8, -⟩
    · rw [e9] at e8
      simp at e8
    · rw [e9] at e8
      simp only [Value.slice.injEq, Option.some.injEq, Addr.mk.injEq] at e8
      rw [e8.1.1]
      exact hB8
theorem infoF : (Try.prog.info? 71).map (fun i => (i.zero, i.size, i.bytes)) = some (some (.agg #[.string ⟨#[]⟩, .slice none 0 0]), 2, 40) := by kernel_rfl
/-- append of one file, its run -/
theorem FO.app {B : Nat} {w : World} {o : Value} {xs : List (List UInt8 × Value × List Nat)} (h : FO B w o xs) (ty : TypeId) (x : List UInt8 × Value × List Nat) (hx : Own B w x.2.1 x.2.2) (g c : Nat) (hc : LB w g 71 (enF x)) (hmax : xs.length ≤ 1000000000) (hB : B ≤ w.heap.size) : ∃ o' w', (Builtin.append_ #[31, 31] ty #[o, .slice (some ⟨g, 0, none⟩) 1 c]).run Try.prog w = .ok o' w' ∧ FO B w' o' (xs ++ [x]) ∧ Below B w w' := by
  obtain ⟨i0, hi, hq⟩ := Option.map_eq_some_iff.1 infoF
  simp only [Prod.mk.injEq] at hq
  obtain ⟨v', w', hr, h2, h3, -, h5⟩ := run_append_own_at (P := Try.prog) w B 31 ty 71 i0 _ 2 40 Try.underlying31 hi hq.1 hq.2.1 hq.2.2 rfl (by decide) o xs.length _ h.row ⟨g, 0, none⟩ 1 c (enF x) rfl (fun j u hj => by
    rw [Addr.add_lit, Nat.zero_add]
    exact hc.cell j u hj) (fun u hu => by
      simp [enF] at hu
      rcases hu with rfl | rfl
      · rfl
      · obtain ⟨a9, c9, e9, -⟩ := Mg.row_shape hx.row
        rw [e9]
        rfl) (by unfold maxLen; omega) (by omega) hB
  have oth : ∀ y : Value × List Nat, Own B w y.1 y.2 → Own B w' y.1 y.2 := fun y hy => ⟨Mg.row_other hy.row h3 fun q e e2 => by
    obtain ⟨cur, k1⟩ := Mg.row_type hy.row q e
    obtain ⟨cur2, k2⟩ := Mg.row_type h.row q e2
    rw [k1] at k2
    simp at k2, hy.good⟩
  refine ⟨v', w', hr, ⟨?_, fun y hy => ?_⟩, (Below.refl B w).grown h3 hB fun k e => (World.ownsRow.lt h.row k e).1⟩
  · rw [List.length_append, List.flatMap_append]
    simpa using h2
  · rcases List.mem_append.1 hy with e | e
    · exact oth y.2 (h.own y e)
    · rw [List.mem_singleton.1 e]
      exact oth x.2 hx
namespace Dk
/-- what Files tells -/
def files (S : DS) : List (List UInt8 × List Nat) := S.nm.map fun p => (p.1, (S.fo p.2).data)
end Dk
set_option maxRecDepth 100000 in
set_option maxHeartbeats 8000000 in
theorem dkfiles_any (B g : Nat) (S : Dk.DS) (M : Mm) (w : World) (h : DM B w g S M) (hid : ∀ p ∈ S.nm, p.2 ∈ S.ids ∧ p.1.length ≤ 1000) (hln : ∀ f ∈ S.ids, (S.fo f).data.length ≤ 1000000000) (hn : S.nm.length ≤ 1000000000) :
    Calls Try.prog 13 #[.pointer (some ⟨g, 0, none⟩)] w fun e w' => ∃ v, e = .returned v ∧ Fls (w.heap.size ≤ ·) w' v (Dk.files S) ∧ Below w.heap.size w w' := by
  have H0 : Hid (∀ W, Below w.heap.size w W → DM B W g S M) := fun W hW => h.kept hW
  have x2 := h.box.cell 2 _ rfl
  have HR : Hid (Calls Try.prog 46 #[.map M.mn] w fun e w' => ∃ v, e = .returned v ∧ w'.ownsRow w.heap.size 9 1 v S.nm.length (S.nm.map fun p => enS p.1) ∧ Below w.heap.size w w') := dkrising_any M.mn S.nm w h.nm hn
  have HI : Hid ((∀ p ∈ S.nm, p.2 ∈ S.ids ∧ p.1.length ≤ 1000) ∧ (∀ f ∈ S.ids, (S.fo f).data.length ≤ 1000000000) ∧ Dk.rising S.nm) := ⟨hid, hln, h.nm.1⟩
  clear h hid hln
  go_enter Try.func13, Try.ntmps13
  go_wp2_with fail
  refine HR.out.mono ?_
  rintro e W1 ⟨nv, rfl, r1, b1⟩
  obtain ⟨na, nc, hnv, hn1, hn2⟩ := Mg.row_shape r1
  subst hnv
  have H1 : Hid (W1.ownsRow w.heap.size 9 1 (.slice na S.nm.length nc) S.nm.length (S.nm.map fun p => enS p.1) ∧ Below w.heap.size w W1) := ⟨r1, b1⟩
  unfold maxLen at hn2
  clear r1 b1 HR x2
  go_wp2_with fail
  go_loopw [3, 12] (fun o i wr => ∃ (k : Nat) (xs : List (List UInt8 × Value × List Nat)), k ≤ S.nm.length ∧ i = .int .i64 (k : Int) ∧ FO W1.heap.size wr o xs ∧ (xs.map fun x => (x.1, x.2.2)) = (Dk.files S).take k ∧ Below W1.heap.size W1 wr) (fun _ i _ => S.nm.length - (intOf i).toNat)
  case atStart => exact ⟨0, [], Nat.zero_le _, rfl, FO.nil _ _, rfl, Below.refl _ _⟩
  case round =>
    obtain ⟨k, xs, hk, rfl, hfo, hxs, hb⟩ := hrel
    have HF : Hid (FO W1.heap.size wr u3 xs ∧ (xs.map fun x => (x.1, x.2.2)) = (Dk.files S).take k ∧ Below W1.heap.size W1 wr) := ⟨hfo, hxs, hb⟩
    have HBW : Hid (Below w.heap.size w wr) := andThen H1.out.2 hb
    clear hfo hxs hb
    by_cases hlt : k < S.nm.length
    · obtain ⟨p, hp⟩ : ∃ p, p = S.nm[k] := ⟨_, rfl⟩
      have HPM : Hid (p ∈ S.nm ∧ (Dk.files S).take (k + 1) = (Dk.files S).take k ++ [(p.1, (S.fo p.2).data)] ∧ S.nm[k]? = some p) := by
        refine ⟨by rw [hp]; exact List.getElem_mem hlt, ?_, by rw [hp]; exact List.getElem?_eq_getElem hlt⟩
        unfold Dk.files
        rw [List.take_succ_eq_append_getElem (by rw [List.length_map]; exact hlt), List.getElem_map, hp]
      clear hp
      obtain ⟨nm, f⟩ := p
      have HFI : Hid (f ∈ S.ids ∧ nm.length ≤ 1000) := HI.out.1 _ HPM.out.1
      obtain ⟨gn, hgn⟩ : ∃ gn, na = some ⟨gn, 0, none⟩ := by
        rcases H1.out.1.2 with ⟨e, e0⟩ | ⟨gn, c7, cur7, e, -⟩
        · omega
        · simp only [Value.slice.injEq] at e
          exact ⟨gn, e.1⟩
      subst hgn
      have y0 : wr.cell? ⟨gn, k, none⟩ = some (.string ⟨nm.toArray⟩) := by
        have e := World.ownsRow.cellAt (Mg.row_kept H1.out.1 HF.out.2.2) k (by omega)
        rw [e, List.getElem?_map, HPM.out.2.2]
        rfl
      have dW := H0.out wr HBW.out
      have y2 := dW.box.cell 2 _ rfl
      have yl := dW.nm.look ⟨nm.toArray⟩ (show nm.toArray.size ≤ maxLen by have := HFI.out.2; simp [maxLen]; omega)
      have egt : Dk.get S.nm (⟨nm.toArray⟩ : ByteArray).data.toList = some f := by
        have e : (⟨nm.toArray⟩ : ByteArray).data.toList = nm := by simp
        rw [e]
        exact Dk.mem_get HI.out.2.2 HPM.out.1
      rw [egt] at yl
      unfold fpo fp at yl
      obtain ⟨a1, c1, hdv, -⟩ := Mg.row_shape (dW.fd f HFI.out.1).row
      have fb := dW.fb f HFI.out.1
      have ow := dW.fd f HFI.out.1
      rw [hdv] at fb ow
      have x0 := fb.cell 0 _ rfl
      have HCL : Hid (Calls Try.prog 47 #[.slice a1 (S.fo f).data.length c1] wr fun e w' => ∃ v', e = .returned v' ∧ Own wr.heap.size w' v' (S.fo f).data ∧ Below wr.heap.size wr w') := bclone_any _ _ wr ow.bs (by have := HI.out.2.1 f HFI.out.1; omega)
      clear dW egt fb ow hdv
      go_wp2_with fail
      refine HCL.out.mono ?_
      rintro e W2 ⟨v2, rfl, o2, b2⟩
      obtain ⟨a2, k2, c2, hv2⟩ : ∃ (x : Option Addr) (y z : Nat), v2 = .slice x y z := by
        obtain ⟨x, z, e, -⟩ := Mg.row_shape o2.row
        exact ⟨x, _, z, e⟩
      subst hv2
      have b3 := up0 W2 (.cells #[.string ⟨nm.toArray⟩, .slice a2 k2 c2] 71)
      have L3 : LB (W2.alloc (.cells #[.string ⟨nm.toArray⟩, .slice a2 k2 c2] 71)) W2.heap.size 71 (enF (nm, .slice a2 k2 c2, (S.fo f).data)) := lb_new W2 [.string ⟨nm.toArray⟩, .slice a2 k2 c2] 71
      have f3 := (HF.out.1.kept b2).kept b3
      have xl : xs.length ≤ 1000000000 := by
        have h9 := congrArg List.length HF.out.2.1
        rw [List.length_map, List.length_take] at h9
        omega
      obtain ⟨o4, W4, hr4, f4, b4⟩ := f3.app 31 (nm, .slice a2 k2 c2, (S.fo f).data) ((o2.mono HF.out.2.2.size).kept b3) W2.heap.size 1 L3 xl (Nat.le_trans HF.out.2.2.size (Nat.le_trans b2.size b3.size))
      have H4 : Hid (FO W1.heap.size W4 o4 (xs ++ [(nm, .slice a2 k2 c2, (S.fo f).data)]) ∧ (xs ++ [(nm, Value.slice a2 k2 c2, (S.fo f).data)]).map (fun x => (x.1, x.2.2)) = (Dk.files S).take (k + 1) ∧ Below W1.heap.size W1 W4) := by
        refine ⟨f4, ?_, ?_⟩
        · rw [List.map_append, HF.out.2.1, HPM.out.2.1]
          rfl
        · exact (andThen (andThen HF.out.2.2 b2) b3).trans b4
      clear L3 f3 xl f4 b4 b3 o2 b2 HCL x0 yl y2 y0
      go_wp2_with (at_builtin; refine wpList_appRun rfl (.tmp 16) (.tmp 29) 31 rfl rfl rfl hr4 ?_)
      clear hr4
      go_wp2_with fail
      go_roundw
      case rel => exact ⟨k + 1, _, by omega, by go_num, H4.out.1, H4.out.2.1, H4.out.2.2⟩
      case measure => simp [intOf]; omega
    · have HE : Hid ((xs.map fun x => (x.1, x.2.2)) = Dk.files S) := by
        have h9 := HF.out.2.1
        rw [List.take_of_length_le (by unfold Dk.files; rw [List.length_map]; omega)] at h9
        exact h9
      go_wp2_with fail
      go_returns
      refine ⟨_, rfl, ?_, HBW.out⟩
      rw [← HE.out]
      exact HF.out.1.fls.mono fun q hq => Nat.le_trans H1.out.2.size hq
end Go.Proofs.Ytjepeeopjjnglaa
