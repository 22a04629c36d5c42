import Derived.BigQuiet
import Derived.Deep.RegionHeld3
import Derived.Test.YtjepeeopjjnglabQOd
import Derived.Test.YtjepeeopjjnglabQOg
import Derived.Test.YtjepeeopjjnglabQO9
/-
  Rows of any kind in memory.
-/
namespace Go.Proofs.Ytjepeeopjjnglab
open Go Go.RowKit Go.ChangeShapes
open Wb
namespace Rd
section
variable {α : Type} {en : α → List Value} {c : Nat}
theorem flat_len (hen : ∀ x, (en x).length = c) : ∀ xs : List α, (xs.flatMap en).length = xs.length * c
  | [] => by simp
  | x :: r => by
    rw [List.flatMap_cons, List.length_append, flat_len hen r, hen, List.length_cons, Nat.add_mul]
    omega
theorem flat_at (hen : ∀ x, (en x).length = c) : ∀ (xs : List α) (j i : Nat) (h : j < xs.length), i < c → (xs.flatMap en)[j * c + i]? = (en xs[j])[i]?
  | [], j, _, h, _ => by simp at h
  | x :: r, 0, i, _, hi => by
    rw [List.flatMap_cons, Nat.zero_mul, Nat.zero_add, List.getElem?_append_left (by rw [hen]; exact hi)]
    rfl
  | x :: r, j + 1, i, h, hi => by
    have hj : j < r.length := by simpa using h
    have h9 := flat_at hen r j i hj hi
    rw [List.flatMap_cons, show (j + 1) * c + i = (en x).length + (j * c + i) by rw [hen, Nat.add_mul]; omega, List.getElem?_append_right (by omega), Nat.add_sub_cancel_left, h9]
    rfl
/-- rows of this type -/
structure TI (e st : TypeId) (c : Nat) : Prop where
  u : Try.prog.underlying st = some (.slice e)
  i : ∃ i z k, Try.prog.info? e = some i ∧ i.zero = some z ∧ i.size = c ∧ i.bytes = k ∧ z.cells.size = c ∧ k ≤ 1000
  c0 : 0 < c
theorem ti_of {e st : TypeId} {c k : Nat} {z : Value} (hu : Try.prog.underlying st = some (.slice e)) (h : (Try.prog.info? e).map (fun i => (i.zero, i.size, i.bytes)) = some (some z, c, k)) (hz : z.cells.size = c) (hk : k ≤ 1000) (h0 : 0 < c) : TI e st c := by
  obtain ⟨i0, hi, hq⟩ := Option.map_eq_some_iff.1 h
  simp only [Prod.mk.injEq] at hq
  exact ⟨hu, ⟨i0, z, k, hi, hq.1, hq.2.1, hq.2.2, hz, hk⟩, h0⟩
/-- a row to be read; its block is as told -/
structure Rw (ok : Nat → Prop) (w : World) (t : TypeId) (c : Nat) (en : α → List Value) (v : Value) (xs : List α) : Prop where
  row : w.ownsRow 0 t c v xs.length (xs.flatMap en)
  ok : ∀ q, v.ownBlock = some q → ok q
section
variable {ok : Nat → Prop} {w w' : World} {t : TypeId} {v : Value} {xs ys : List α} {B : Nat}
theorem Rw.blk (h : Rw ok w t c en v xs) (hb : ∀ q, ok q → q < w.heap.size → w'.heap[q]? = w.heap[q]?) : Rw ok w' t c en v xs := ⟨Mg.row_block h.row fun g hg => hb g (h.ok g hg) (World.ownsRow.lt h.row g hg).2, h.ok⟩
theorem Rw.kept (h : Rw ok w t c en v xs) (hb : Below w.heap.size w w') : Rw ok w' t c en v xs := ⟨Mg.row_kept h.row hb, h.ok⟩
theorem Rw.mono {ok2 : Nat → Prop} (h : Rw ok w t c en v xs) (hm : ∀ q, ok q → ok2 q) : Rw ok2 w t c en v xs := ⟨h.row, fun q e => hm q (h.ok q e)⟩
theorem Rw.of (h : w.ownsRow B t c v xs.length (xs.flatMap en)) : Rw (B ≤ ·) w t c en v xs := ⟨row_low h (Nat.zero_le _), fun q e => (World.ownsRow.lt h q e).1⟩
theorem Rw.nil (ok : Nat → Prop) (w : World) (t : TypeId) (c : Nat) (en : α → List Value) : Rw ok w t c en (.slice none 0 0) [] := ⟨World.ownsRow_nil _ _ _ _, fun q e => by cases e⟩
theorem row_at (h : w.ownsRow B t c v xs.length (xs.flatMap en)) : ∃ a k, v = .slice a xs.length k ∧ xs.length ≤ k ∧ k ≤ maxLen ∧ (xs ≠ [] → ∃ b, a = some ⟨b, 0, none⟩) := by
  rcases h.2 with ⟨e, h0⟩ | ⟨g, k, cur, e, -, -, h1, h2, -⟩
  · exact ⟨none, 0, by rw [e, h0], by omega, Nat.zero_le _, fun hne => absurd (List.eq_nil_of_length_eq_zero h0) hne⟩
  · exact ⟨_, k, e, h1, h2, fun _ => ⟨g, rfl⟩⟩
theorem row_cell (hen : ∀ x, (en x).length = c) {b k : Nat} (h : w.ownsRow B t c (.slice (some ⟨b, 0, none⟩) xs.length k) xs.length (xs.flatMap en)) (j : Nat) (hj : j < xs.length) (i : Nat) (hi : i < c) : w.cell? ⟨b, j * c + i, none⟩ = (en xs[j])[i]? := by
  have hl : j * c + i < xs.length * c := by
    have h2 : (j + 1) * c ≤ xs.length * c := Nat.mul_le_mul_right c hj
    rw [Nat.add_mul] at h2
    omega
  rw [World.ownsRow.cellAt h (j * c + i) hl]
  exact flat_at hen xs j i hj hi
/-- append of elements that lie somewhere, its run -/
theorem row_app {e st : TypeId} (T : TI e st c) (hen : ∀ x, (en x).length = c) (h : w.ownsRow B e c v xs.length (xs.flatMap en)) (a : Addr) (k : Nat) (hone : ∀ x ∈ ys, ∀ u ∈ en x, u.oneCell' = true) (hcell : ∀ j u, (ys.flatMap en)[j]? = some u → w.cell? (a.add j) = some u) (hmax : xs.length + ys.length ≤ 1000000000) (hB : B ≤ w.heap.size) (ty : TypeId) : ∃ v' w', (Builtin.append_ #[st, st] ty #[v, .slice (some a) ys.length k]).run Try.prog w = .ok v' w' ∧ w'.ownsRow B e c v' (xs ++ ys).length ((xs ++ ys).flatMap en) ∧ w.grownBy w' v.ownBlock ∧ Below B w w' := by
  obtain ⟨i0, z, k0, h1, h2, h3, h4, h5, h6⟩ := T.i
  have hb : (xs.length + ys.length) * k0 ≤ 140737488355328 := by
    have := Nat.mul_le_mul hmax h6
    omega
  obtain ⟨v', w', hr, h7, h8, -, -⟩ := run_append_own_at (P := Try.prog) w B st ty e i0 z c k0 T.u h1 h2 h3 h4 h5 T.c0 v xs.length _ h a ys.length k (ys.flatMap en) (flat_len hen ys) hcell (fun u hu => by
    obtain ⟨x, hx, hu2⟩ := List.mem_flatMap.1 hu
    exact hone x hx u hu2) (by unfold maxLen; omega) hb hB
  refine ⟨v', w', hr, ?_, h8, (Below.refl B w).grown h8 hB fun q e => (World.ownsRow.lt h q e).1⟩
  rw [List.length_append, List.flatMap_append]
  exact h7
/-- append of one element -/
theorem row_app1 {e st : TypeId} (T : TI e st c) (hen : ∀ x, (en x).length = c) (h : w.ownsRow B e c v xs.length (xs.flatMap en)) (x : α) (g k : Nat) (hone : ∀ u ∈ en x, u.oneCell' = true) (hc : LB w g e (en x)) (hmax : xs.length ≤ 900000000) (hB : B ≤ w.heap.size) (ty : TypeId) : ∃ v' w', (Builtin.append_ #[st, st] ty #[v, .slice (some ⟨g, 0, none⟩) 1 k]).run Try.prog w = .ok v' w' ∧ w'.ownsRow B e c v' (xs ++ [x]).length ((xs ++ [x]).flatMap en) ∧ w.grownBy w' v.ownBlock ∧ Below B w w' := row_app (ys := [x]) T hen h ⟨g, 0, none⟩ k (fun y hy => by rw [List.mem_singleton.1 hy]; exact hone) (fun j u hj => by
    rw [Addr.add_lit, Nat.zero_add]
    rw [List.flatMap_cons, List.flatMap_nil, List.append_nil] at hj
    exact hc.cell j u hj) (by simp; omega) hB ty
/-- append of a whole row -/
theorem row_appR {e st : TypeId} (T : TI e st c) (hen : ∀ x, (en x).length = c) (h : w.ownsRow B e c v xs.length (xs.flatMap en)) {yv : Value} (hy : w.ownsRow 0 e c yv ys.length (ys.flatMap en)) (hone : ∀ x ∈ ys, ∀ u ∈ en x, u.oneCell' = true) (hmax : xs.length + ys.length ≤ 1000000000) (hB : B ≤ w.heap.size) (ty : TypeId) : ∃ v' w', (Builtin.append_ #[st, st] ty #[v, yv]).run Try.prog w = .ok v' w' ∧ w'.ownsRow B e c v' (xs ++ ys).length ((xs ++ ys).flatMap en) ∧ w.grownBy w' v.ownBlock ∧ Below B w w' := by
  rcases hy.2 with ⟨e1, h0⟩ | ⟨g, k, cur, e1, hrest⟩
  · obtain ⟨i0, z, k0, h1, -⟩ := T.i
    have h9 : ys = [] := List.eq_nil_of_length_eq_zero h0
    subst h9
    obtain ⟨a1, c1, e2, hc1, -⟩ := row_at h
    refine ⟨v, w, ?_, by simpa using h, World.grownBy.refl _ _, Below.refl _ _⟩
    rw [e1, e2]
    cases a1 <;> simp [Builtin.append_, run_underlying T.u, sizeOf, typeInfo, h1, Builtin.lenOf, Builtin.firstCells, hc1, storeCells]
  · subst e1
    refine row_app T hen h ⟨g, 0, none⟩ k hone (fun j u hj => ?_) hmax hB ty
    rw [Addr.add_lit, Nat.zero_add]
    have hjl : j < ys.length * c := by
      rw [← flat_len hen ys]
      exact (List.getElem?_eq_some_iff.1 hj).1
    rw [World.ownsRow.cellAt hy j hjl]
    exact hj
end
end
end Rd
end Go.Proofs.Ytjepeeopjjnglab

/-
  DiskApart: copied, copies; comparisons that only draw.
-/
namespace Go.Proofs.Ytjepeeopjjnglab
open Go Go.RowKit Go.ChangeShapes
open Wb
open Rd
def enN (s : List UInt8) : List Value := [enS s]
theorem enN_len (s : List UInt8) : (enN s).length = 1 := rfl
theorem step_appRun {P : Program} {w W : World} {ops : Array Oper} {o : Oper} {a : Act} {K : Act → World → Prop} {Q : Exit → Act → World → Prop} {E : Prop} {v u y : Value} (hw : Region.wanted o (yielded ops a.tmps) = true) (s x : Operand) (t : TypeId) (ho : o.op = .call { callee := .builtin .append, args := #[s, x], argTypes := #[t, t] }) (hs : a.eval s = u) (hx : a.eval x = y) (hr : (Builtin.append_ #[t, t] o.type #[u, y]).run P w = .ok v W) (h : K (a.put o.dst v) W) : if Region.wanted o (yielded ops a.tmps) = true then Oper.wp P o a w K Q else E := by
  rw [if_pos hw]
  unfold Oper.wp
  simp [execOp, ho, resolve, invoke, builtin, hs, hx, hr, Result.andThen]
  exact h
set_option maxRecDepth 100000 in
set_option maxHeartbeats 8000000 in
theorem dlcopied_any (v : Value) (l : List Nat) (w : World) (h : Bs w v l) (hl : l.length ≤ 1000000000) :
    Calls Try.prog 12 #[v] w fun e w' => ∃ v', e = .returned v' ∧ Own w.heap.size w' v' l ∧ Below w.heap.size w w' := by
  obtain ⟨v', w', hr, ho, hg, hv⟩ := run_appB w 29 w.heap.size (.slice none 0 0) [] (Own.nil _ _) v l h (by show 0 + l.length ≤ _; omega) (Nat.le_refl _)
  rw [List.nil_append] at ho
  have HO : Hid (Own w.heap.size w' v' l ∧ Below w.heap.size w w') := ⟨ho, (Below.refl _ _).grown hg (Nat.le_refl _) fun q e => by cases e⟩
  obtain ⟨a, c, e, h1, h2, -⟩ := h.shape
  subst e
  clear ho hg hv h
  go_enter Try.func12, Try.ntmps12
  go_wp2_with (at_builtin; refine wpList_appRun rfl (.tmp 4) (.tmp 5) 29 rfl rfl rfl hr ?_)
  go_returns
  exact ⟨_, rfl, HO.out.1, HO.out.2⟩
set_option maxRecDepth 100000 in
set_option maxHeartbeats 8000000 in
theorem dlcopies_any (ok1 : Nat → Prop) (v : Value) (fs : List (List UInt8 × List Nat)) (w : World) (h : Fls ok1 w v fs) (hn : fs.length ≤ 300000000) (hl : ∀ x ∈ fs, x.2.length ≤ 1000000000) :
    Calls Try.prog 15 #[v] w fun e w' => ∃ v' ys, e = .returned v' ∧ FO w.heap.size w' v' ys ∧ (ys.map fun x => (x.1, x.2.2)) = fs ∧ Below w.heap.size w w' := by
  have HV : Hid (∀ W, Below w.heap.size w W → Fls ok1 W v fs) := fun W hW => h.kept hW
  have HLL : Hid (∀ x ∈ fs, x.2.length ≤ 1000000000) := hl
  obtain ⟨fa, fc, e, h1, h2, h3⟩ := h.sh
  subst e
  unfold maxLen at h2
  clear h h3 hl
  go_enter Try.func15, Try.ntmps15
  go_wp2_with fail
  go_loopw [3, 4] (fun o i wr => ∃ (k : Nat) (ys : List (List UInt8 × Value × List Nat)), k ≤ fs.length ∧ i = .int .i64 (k : Int) ∧ FO w.heap.size wr o ys ∧ (ys.map fun x => (x.1, x.2.2)) = fs.take k ∧ Below w.heap.size w wr) (fun _ i _ => fs.length - (intOf i).toNat)
  case atStart => exact ⟨0, [], Nat.zero_le _, rfl, FO.nil _ _, rfl, Below.refl _ _⟩
  case round =>
    obtain ⟨k, ys, hk, rfl, hfo, hys, hb⟩ := hrel
    have HO : Hid (FO w.heap.size wr u3 ys ∧ (ys.map fun x => (x.1, x.2.2)) = fs.take k ∧ Below w.heap.size w wr) := ⟨hfo, hys, hb⟩
    have hyl : ys.length ≤ 300000000 := by
      have h9 := congrArg List.length hys
      rw [List.length_map, List.length_take] at h9
      omega
    clear hfo hys hb
    by_cases hlt : k < fs.length
    · obtain ⟨fa', fc', e, -, -, hc⟩ := (HV.out w (Below.refl _ _)).sh
      simp only [Value.slice.injEq] at e
      obtain ⟨rfl, -, -⟩ := e
      obtain ⟨b, off, e2, -, hcell⟩ := hc (List.ne_nil_of_length_pos (by omega))
      subst e2
      obtain ⟨y0, dv, y1, hbs, -⟩ := hcell k hlt
      have hl9 := HLL.out _ (List.getElem_mem hlt)
      have HTK : Hid (fs.take (k + 1) = fs.take k ++ [fs[k]]) := List.take_succ_eq_append_getElem hlt
      obtain ⟨p, hp⟩ : ∃ p, p = fs[k] := ⟨_, rfl⟩
      rw [← hp] at y0 hbs hl9 HTK
      obtain ⟨n9, td⟩ := p
      simp only at y0 hbs hl9
      obtain ⟨da, dc, rfl, -⟩ := hbs.shape
      have y2 : w.cell? ⟨b, off + k * 2, none⟩ = some (.string ⟨n9.toArray⟩) := y0
      have HPT : Hid (∀ W, Below wr.heap.size wr W → Calls Try.prog 12 #[.slice da td.length dc] W fun e w' => ∃ b9 n9 c9, e = .returned (.slice b9 n9 c9) ∧ Own W.heap.size w' (.slice b9 n9 c9) td ∧ Below W.heap.size W w') := fun W hW => (dlcopied_any _ td W (hbs.kept (andThen HO.out.2.2 hW)) hl9).mono fun e w' ⟨v', h1, h2, h3⟩ => by
        obtain ⟨b9, c9, rfl, -⟩ := Mg.row_shape h2.row
        exact ⟨b9, _, c9, h1, h2, h3⟩
      have HAP : Hid (∀ (W W2 : World) (b9 : Option Addr) (n8 c9 : Nat), Below wr.heap.size wr W → Below W.heap.size W W2 → Own W.heap.size W2 (.slice b9 n8 c9) td → ∃ o4 W4, (Builtin.append_ #[35, 35] 35 #[u3, .slice (some ⟨W2.heap.size, 0, none⟩) 1 1]).run Try.prog (W2.alloc (.cells #[.string ⟨n9.toArray⟩, .slice b9 n8 c9] 65)) = .ok o4 W4 ∧ FO w.heap.size W4 o4 (ys ++ [(n9, .slice b9 n8 c9, td)]) ∧ Below w.heap.size w W4) := fun W W2 b9 n8 c9 h1 h2 h3 => by
        have b3 := up0 W2 (.cells #[.string ⟨n9.toArray⟩, .slice b9 n8 c9] 65)
        have L3 : LB (W2.alloc (.cells #[.string ⟨n9.toArray⟩, .slice b9 n8 c9] 65)) W2.heap.size 65 (enF (n9, .slice b9 n8 c9, td)) := lb_new W2 [.string ⟨n9.toArray⟩, .slice b9 n8 c9] 65
        have h4 := andThen h1 h2
        have f3 := (HO.out.1.kept h4).kept b3
        obtain ⟨o4, W4, hr4, f4, b4⟩ := f3.app 35 (n9, .slice b9 n8 c9, td) ((h3.mono (Nat.le_trans HO.out.2.2.size h1.size)).kept b3) W2.heap.size 1 L3 (by omega) (Nat.le_trans HO.out.2.2.size (Nat.le_trans h4.size b3.size))
        exact ⟨o4, W4, hr4, f4, (andThen (andThen HO.out.2.2 h4) b3).trans b4⟩
      have HCK : Hid (∀ W, Below w.heap.size w W → W.cell? ⟨b, off + k * 2, none⟩ = some (.string ⟨n9.toArray⟩) ∧ W.cell? ⟨b, off + k * 2 + 1, none⟩ = some (.slice da td.length dc)) := fun W hW => ⟨(hW.cell (World.block_lt_of_cell? _ _ y2)).trans y2, (hW.cell (World.block_lt_of_cell? _ _ y1)).trans y1⟩
      clear hp y0 hbs hcell hc
      clear y1 y2
      obtain ⟨y2, y1⟩ := HCK.out wr HO.out.2.2
      go_wp2_with fail
      go_region_held3 (fun w' => w'.cell? ⟨b, off + k * 2, none⟩ = some (.string ⟨n9.toArray⟩) ∧ w'.cell? ⟨b, off + k * 2 + 1, none⟩ = some (.slice da td.length dc)) (first | go_keep | (exact HCK.out _ (andThen HO.out.2.2 (andThen (Below.drew (Below.refl _ _)) hb'))) | (exact HCK.out _ b4))
        (first | (go_at_call 12; refine (HPT.out _ ?_).mono ?_; (exact Below.drew (Below.refl _ _)); rintro e w' ⟨b9, n8, c9, rfl, o9, hb'⟩; (obtain ⟨o4, W4, hr4, f4, b4⟩ := HAP.out _ w' b9 n8 c9 (Below.drew (Below.refl _ _)) hb' o9)) | (refine step_appRun rfl (.tmp 11) (.tmp 24) 35 rfl rfl rfl hr4 ?_))
      have H4 : Hid (FO w.heap.size W4 o4 (ys ++ [(n9, .slice b9 n8 c9, td)]) ∧ Below w.heap.size w W4) := ⟨f4, b4⟩
      clear hr4 f4 b4 o9 hb' y1 y2
      go_wp2_with fail
      go_roundw
      case rel =>
        refine ⟨k + 1, _, by omega, by go_num, H4.out.1, ?_, H4.out.2⟩
        rw [List.map_append, HO.out.2.1, HTK.out]
        rfl
      case measure => simp [intOf]; omega
    · have HE : Hid ((ys.map fun x => (x.1, x.2.2)) = fs) := by
        have h9 := HO.out.2.1
        rw [List.take_of_length_le (by omega)] at h9
        exact h9
      go_wp2_with fail
      go_returns
      exact ⟨_, _, rfl, HO.out.1, HE.out, HO.out.2.2⟩
theorem map_enS (l : List (List UInt8)) : l.map enS = l.flatMap enN := by
  induction l with
  | nil => rfl
  | cons x l ih => rw [List.map_cons, List.flatMap_cons, ih]; rfl
theorem qdrew {w wr : World} {d : Nat} (h : wr = w.drewN d) (m : Nat) : ∃ k, wr.drewN m = w.drewN k := ⟨d + m, by rw [h, World.drewN_drewN]⟩
set_option maxHeartbeats 400000 in
theorem dlalikeQ_any (va vb : Value) (a b : List Nat) (w : World) (ha : Bs w va a) (hb : Bs w vb b) :
    Calls Try.prog 14 #[va, vb] w fun e w' => e = .returned (.bool (decide (a = b))) ∧ ∃ d, w' = w.drewN d := by
  obtain ⟨aoa, capa, rfl, hla, hma, hna, hca⟩ := ha.shape
  obtain ⟨aob, capb, rfl, hlb, hmb, hnb, hcb⟩ := hb.shape
  unfold maxLen at hma hmb
  have ga := ha.good
  have gb := hb.good
  by_cases hlen : a.length = b.length
  · have HL : Hid (a.length = b.length) := hlen
    have d0 : ((a.length : Int) != (b.length : Int)) = false := by simp [hlen]
    clear hlen
    go_enter Try.func14, Try.ntmps14
    go_wp2
    go_loopw [5] (fun i wr => ∃ k : Nat, k ≤ a.length ∧ i = .int .i64 k ∧ a.take k = b.take k ∧ ∃ d, wr = w.drewN d) (fun i _ => a.length - (intOf i).toNat)
    case atStart => exact ⟨0, Nat.zero_le _, rfl, by simp, 0, rfl⟩
    case round =>
      obtain ⟨k, hk, rfl, heq, d0q, hwr⟩ := hrel
      have hbel : Below w.heap.size w wr := by rw [hwr]; exact bel_drewN (Below.refl _ _) _
      have HWR : Hid (wr = w.drewN d0q) := hwr
      clear hwr
      have HQ : Hid (a.take k = b.take k) := heq
      clear heq
      by_cases hlt : k < a.length
      · have hlt' : k < b.length := by rw [← HL.out]; exact hlt
        obtain ⟨b1, off1, rfl, hcell1⟩ := hca (List.ne_nil_of_length_pos (by omega))
        obtain ⟨b2, off2, rfl, hcell2⟩ := hcb (List.ne_nil_of_length_pos (by omega))
        have q1 := (hbel.cell (p := ⟨b1, off1 + k, none⟩) (World.block_lt_of_cell? _ _ (hcell1 k hlt))).trans (hcell1 k hlt)
        have q2 := (hbel.cell (p := ⟨b2, off2 + k, none⟩) (World.block_lt_of_cell? _ _ (hcell2 k hlt'))).trans (hcell2 k hlt')
        clear hca hcb hcell1 hcell2 hna hnb ha hb
        by_cases hxy : a[k] = b[k]
        · have HS : Hid (a.take (k + 1) = b.take (k + 1)) := by
            show _ = _
            rw [List.take_succ_eq_append_getElem hlt, List.take_succ_eq_append_getElem hlt', HQ.out, hxy]
          rw [hxy] at q1
          generalize b[k] = y at *
          have d1 : ((y : Int) != (y : Int)) = false := by simp
          clear hxy
          go_wp2
          go_quiet (fail)
          go_wp2
          go_roundw
          case rel => exact ⟨k + 1, by omega, by go_num, HS.out, qdrew HWR.out _⟩
          case measure => simp [intOf]; omega
        · have HN : Hid (¬ a = b) := by
            intro e
            subst e
            exact hxy rfl
          have d1 : ((a[k] : Int) != (b[k] : Int)) = true := by rw [bne_iff_ne]; omega
          generalize a[k] = x at *
          generalize b[k] = y at *
          clear hxy
          go_wp2
          go_quiet (fail)
          go_wp2
          go_ret
          exact ⟨by rw [decide_eq_false HN.out]; rfl, qdrew HWR.out _⟩
      · have HE : Hid (a = b) := by
          have h := HQ.out
          rw [List.take_of_length_le (by omega), List.take_of_length_le (by rw [← HL.out]; omega)] at h
          exact h
        go_wp2
        go_ret
        exact ⟨by rw [decide_eq_true HE.out]; rfl, _, HWR.out⟩
  · have HN : Hid (¬ a = b) := fun e => hlen (by rw [e])
    have d0 : ((a.length : Int) != (b.length : Int)) = true := by rw [bne_iff_ne]; omega
    clear hlen hca hcb
    go_enter Try.func14, Try.ntmps14
    go_wp2
    go_ret
    exact ⟨by rw [decide_eq_false HN.out]; rfl, 0, rfl⟩
theorem dlalikeQ_yes (va vb : Value) (a : List Nat) (w : World) (ha : Bs w va a) (hb : Bs w vb a) :
    Calls Try.prog 14 #[va, vb] w fun e w' => e = .returned (.bool true) ∧ ∃ d, w' = w.drewN d := by
  have := dlalikeQ_any va vb a a w ha hb
  simpa using this
set_option maxRecDepth 100000 in
set_option maxHeartbeats 2000000 in
theorem dlfalikeQ_yes (ok1 ok2 : Nat → Prop) (va vb : Value) (fs : List (List UInt8 × List Nat)) (w : World) (ha : Fls ok1 w va fs) (hb : Fls ok2 w vb fs) :
    Calls Try.prog 17 #[va, vb] w fun e w' => e = .returned (.bool true) ∧ ∃ d, w' = w.drewN d := by
  have HA : Hid (∀ W, Below w.heap.size w W → Fls ok1 W va fs) := fun W hW => ha.kept hW
  have HB : Hid (∀ W, Below w.heap.size w W → Fls ok2 W vb fs) := fun W hW => hb.kept hW
  obtain ⟨aa, ca, hva, ha1, ha2, -⟩ := ha.sh
  obtain ⟨ab, cb, hvb, hb1, hb2, -⟩ := hb.sh
  subst hva hvb
  unfold maxLen at ha2 hb2
  have d0 : ((fs.length : Int) != (fs.length : Int)) = false := by simp
  clear ha hb
  go_enter Try.func17, Try.ntmps17
  go_wp2_with fail
  go_loopw [5] (fun i wr => ∃ k : Nat, k ≤ fs.length ∧ i = .int .i64 (k : Int) ∧ ∃ d, wr = w.drewN d) (fun i _ => fs.length - (intOf i).toNat)
  case atStart => exact ⟨0, Nat.zero_le _, rfl, 0, rfl⟩
  case round =>
    obtain ⟨k, hk, rfl, d0q, hwr⟩ := hrel
    have hbel : Below w.heap.size w wr := by rw [hwr]; exact bel_drewN (Below.refl _ _) _
    have HWR : Hid (wr = w.drewN d0q) := hwr
    clear hwr
    by_cases hlt : k < fs.length
    · obtain ⟨a1, c1, e1, -, -, h1⟩ := (HA.out wr hbel).sh
      obtain ⟨a2, c2, e2, -, -, h2⟩ := (HB.out wr hbel).sh
      obtain ⟨b1, o1, e3, -, h3⟩ := h1 (List.ne_nil_of_length_pos (by omega))
      obtain ⟨b2, o2, e4, -, h4⟩ := h2 (List.ne_nil_of_length_pos (by omega))
      simp only [Value.slice.injEq] at e1 e2
      obtain ⟨rfl, -, -⟩ := e1
      obtain ⟨rfl, -, -⟩ := e2
      subst e3 e4
      obtain ⟨p1, v1, q1, s1, -⟩ := h3 k hlt
      obtain ⟨p2, v2, q2, s2, -⟩ := h4 k hlt
      have HC : Hid (∀ W, Below wr.heap.size wr W → W.cell? ⟨b1, o1 + k * 2, none⟩ = some (enS fs[k].1) ∧ W.cell? ⟨b2, o2 + k * 2, none⟩ = some (enS fs[k].1) ∧ W.cell? ⟨b1, o1 + k * 2 + 1, none⟩ = some v1 ∧ W.cell? ⟨b2, o2 + k * 2 + 1, none⟩ = some v2) := fun W hW => ⟨(hW.cell (p := ⟨b1, _, none⟩) (World.block_lt_of_cell? _ _ p1)).trans p1, (hW.cell (p := ⟨b2, _, none⟩) (World.block_lt_of_cell? _ _ p2)).trans p2, (hW.cell (p := ⟨b1, _, none⟩) (World.block_lt_of_cell? _ _ q1)).trans q1, (hW.cell (p := ⟨b2, _, none⟩) (World.block_lt_of_cell? _ _ q2)).trans q2⟩
      have HS : Hid (∀ W, Below wr.heap.size wr W → Bs W v1 fs[k].2 ∧ Bs W v2 fs[k].2) := fun W hW => ⟨s1.kept hW, s2.kept hW⟩
      obtain ⟨x1, y1, hv1, -⟩ := s1.shape
      obtain ⟨x2, y2, hv2, -⟩ := s2.shape
      unfold enS at p1 p2 HC
      clear h1 h2 h3 h4 s1 s2 p1 p2 q1 q2 HA HB
      generalize fs[k] = x at *
      obtain ⟨nm, dl⟩ := x
      simp only at hv1 hv2 HC HS
      subst hv1 hv2
      obtain ⟨p1, p2, q1, q2⟩ := HC.out wr (Below.refl _ _)
      go_wp2_with fail
      have HAQ : Hid (∀ d, Calls Try.prog 14 #[.slice x1 dl.length y1, .slice x2 dl.length y2] (wr.drewN d) fun e w' => e = .returned (.bool true) ∧ ∃ m, w' = (wr.drewN d).drewN m) := fun d => dlalikeQ_yes _ _ dl _ (HS.out _ (bel_drewN (Below.refl _ _) d)).1 (HS.out _ (bel_drewN (Below.refl _ _) d)).2
      clear HC HS
      go_quiet (first | (go_at_call 14; refine Calls.quiet_of (HAQ.out _)))
      go_wp2_with fail
      go_roundw
      case rel => exact ⟨k + 1, by omega, by go_num, qdrew HWR.out _⟩
      case measure => simp [intOf]; omega
    · go_wp2_with fail
      go_returns
      exact ⟨rfl, _, HWR.out⟩
set_option maxRecDepth 100000 in
set_option maxHeartbeats 8000000 in
theorem dlnalikeQ_yes (B1 B2 : Nat) (va vb : Value) (l : List (List UInt8)) (w : World) (ha : w.ownsRow B1 9 1 va l.length (l.flatMap enN)) (hb : w.ownsRow B2 9 1 vb l.length (l.flatMap enN)) :
    Calls Try.prog 82 #[va, vb] w fun e w' => e = .returned (.bool true) ∧ ∃ d, w' = w.drewN d := by
  have HA : Hid (∀ W, Below w.heap.size w W → W.ownsRow B1 9 1 va l.length (l.flatMap enN) ∧ W.ownsRow B2 9 1 vb l.length (l.flatMap enN)) := fun W hW => ⟨Mg.row_kept ha hW, Mg.row_kept hb hW⟩
  obtain ⟨aa, ca, hva, ha1, ha2, ha3⟩ := row_at ha
  obtain ⟨ab, cb, hvb, hb1, hb2, hb3⟩ := row_at hb
  subst hva hvb
  unfold maxLen at ha2 hb2
  have d0 : ((l.length : Int) != (l.length : Int)) = false := by simp
  clear ha hb
  go_enter Try.func82, Try.ntmps82
  go_wp2_with fail
  go_loopw [5] (fun i wr => ∃ k : Nat, k ≤ l.length ∧ i = .int .i64 (k : Int) ∧ ∃ d, wr = w.drewN d) (fun i _ => l.length - (intOf i).toNat)
  case atStart => exact ⟨0, Nat.zero_le _, rfl, 0, rfl⟩
  case round =>
    obtain ⟨k, hk, rfl, d0q, hwr⟩ := hrel
    have hbel : Below w.heap.size w wr := by rw [hwr]; exact bel_drewN (Below.refl _ _) _
    have HWR : Hid (wr = w.drewN d0q) := hwr
    clear hwr
    by_cases hlt : k < l.length
    · obtain ⟨g1, rfl⟩ := ha3 (List.ne_nil_of_length_pos (by omega))
      obtain ⟨g2, rfl⟩ := hb3 (List.ne_nil_of_length_pos (by omega))
      obtain ⟨r1, r2⟩ := HA.out wr hbel
      have y1 := row_cell enN_len r1 k hlt 0 (by decide)
      have y2 := row_cell enN_len r2 k hlt 0 (by decide)
      simp only [enN, enS, Nat.mul_one, Nat.add_zero, List.getElem?_cons_zero] at y1 y2
      generalize l[k] = x at *
      clear r1 r2
      go_wp2_with fail
      go_quiet (fail)
      go_wp2_with fail
      go_roundw
      case rel => exact ⟨k + 1, by omega, by go_num, qdrew HWR.out _⟩
      case measure => simp [intOf]; omega
    · go_wp2_with fail
      go_returns
      exact ⟨rfl, _, HWR.out⟩
end Go.Proofs.Ytjepeeopjjnglab

/-
  DiskApart: what was told, beside its copies.
-/
namespace Go.Proofs.Ytjepeeopjjnglab
open Go Go.RowKit Go.ChangeShapes
open Wb
open Rd
open Cb (Fr)
/-- what lies in rows of files, bytes, names outside F stays -/
def Kp (F : Nat → Prop) (w w' : World) : Prop := ∀ q, q < w.heap.size → ¬ F q → (∃ cur t, w.heap[q]? = some (.cells cur t) ∧ (t = 65 ∨ t = 5 ∨ t = 9)) → w'.heap[q]? = w.heap[q]?
structure SE where
  v : Value
  w : Value
  xs : List FX
  ys : List FX
structure BE where
  v : Value
  w : Value
  l : List Nat
structure NE where
  v : Value
  w : Value
  l : List (List UInt8)
/-- what was told, and the copies -/
structure En (F : Nat → Prop) (w : World) (B T : Nat) (Sx : List SE) (Bx : List BE) (Nx : List NE) (O : Nat → Nat) : Prop where
  s : ∀ x ∈ Sx, FA w x.v x.xs ∧ FO 0 w x.w x.ys ∧ (x.ys.map fun y => (y.1, y.2.2)) = (x.xs.map fun y => (y.1, y.2.2)) ∧ (∀ q, Fq x.v x.xs q ∨ Fq x.w x.ys q → ¬ F q) ∧ (∀ q, Fq x.v x.xs q → B ≤ q) ∧ x.xs.length ≤ 5000 ∧ ∀ y ∈ x.xs, y.2.2.length ≤ 5000000
  b : ∀ x ∈ Bx, Own B w x.v x.l ∧ Own 0 w x.w x.l ∧ (∀ q, x.v.ownBlock = some q ∨ x.w.ownBlock = some q → ¬ F q) ∧ x.l.length ≤ 5000000
  n : ∀ x ∈ Nx, w.ownsRow B 9 1 x.v x.l.length (x.l.flatMap enN) ∧ w.ownsRow 0 9 1 x.w x.l.length (x.l.flatMap enN) ∧ (∀ q, x.v.ownBlock = some q ∨ x.w.ownBlock = some q → ¬ F q) ∧ x.l.length ≤ 5000000
  os : ∀ (i : Nat) (x : SE), Sx[i]? = some x → ∀ q, Fq x.v x.xs q → O q = 2 * i
  ob : ∀ (i : Nat) (x : BE), Bx[i]? = some x → ∀ q, x.v.ownBlock = some q → O q = 2 * i + 1
  on : ∀ (i : Nat) (x : NE), Nx[i]? = some x → ∀ q, x.v.ownBlock = some q → O q = i
  ts : ∀ x ∈ Sx, ∀ q, Fq x.v x.xs q → q < T
  tb : ∀ x ∈ Bx, ∀ q, x.v.ownBlock = some q → q < T
  tn : ∀ x ∈ Nx, ∀ q, x.v.ownBlock = some q → q < T
section
variable {F F' : Nat → Prop} {w w' : World} {B T T' : Nat} {a : Value} {xs : List FX} {Sx : List SE} {Bx : List BE} {Nx : List NE} {O : Nat → Nat}
theorem kp_row {t : TypeId} {c n : Nat} {v : Value} {ys : List Value} (ht : t = 65 ∨ t = 5 ∨ t = 9) (h : w.ownsRow B t c v n ys) (hk : Kp F w w') (hf : ∀ q, v.ownBlock = some q → ¬ F q) : w'.ownsRow B t c v n ys := Mg.row_block h fun q e => hk q (World.ownsRow.lt h q e).2 (hf q e) (by
  obtain ⟨cur, hc⟩ := Mg.row_type h q e
  exact ⟨cur, t, hc, ht⟩)
theorem FO.kp {ys : List FX} (h : FO B w a ys) (hk : Kp F w w') (hf : ∀ q, Fq a ys q → ¬ F q) : FO B w' a ys := ⟨kp_row (.inl rfl) h.row hk fun q e => hf q (.inl e), fun x hx => ⟨kp_row (.inr (.inl rfl)) (h.own x hx).row hk fun q e => hf q (.inr ⟨x, hx, e⟩), (h.own x hx).good⟩⟩
theorem FA.kp (h : FA w a xs) (hk : Kp F w w') (hf : ∀ q, Fq a xs q → ¬ F q) : FA w' a xs := ⟨kp_row (.inl rfl) h.row hk fun q e => hf q (.inl e), fun x hx => ⟨kp_row (.inr (.inl rfl)) (h.own x hx).row hk fun q e => hf q (.inr ⟨x, hx, e⟩), (h.own x hx).good⟩, h.ap⟩
theorem Own.kp {v : Value} {l : List Nat} (h : Own B w v l) (hk : Kp F w w') (hf : ∀ q, v.ownBlock = some q → ¬ F q) : Own B w' v l := ⟨kp_row (.inr (.inl rfl)) h.row hk hf, h.good⟩
theorem En.kp (h : En F w B T Sx Bx Nx O) (hk : Kp F w w') : En F w' B T Sx Bx Nx O :=
  ⟨fun x hx => by
    obtain ⟨h1, h2, h3, h4, h5⟩ := h.s x hx
    exact ⟨h1.kp hk fun q e => h4 q (.inl e), h2.kp hk fun q e => h4 q (.inr e), h3, h4, h5⟩, fun x hx => by
    obtain ⟨h1, h2, h3, h4⟩ := h.b x hx
    exact ⟨Own.kp h1 hk fun q e => h3 q (.inl e), Own.kp h2 hk fun q e => h3 q (.inr e), h3, h4⟩, fun x hx => by
    obtain ⟨h1, h2, h3, h4⟩ := h.n x hx
    exact ⟨kp_row (.inr (.inr rfl)) h1 hk fun q e => h3 q (.inl e), kp_row (.inr (.inr rfl)) h2 hk fun q e => h3 q (.inr e), h3, h4⟩, h.os, h.ob, h.on, h.ts, h.tb, h.tn⟩
theorem kp_below (F : Nat → Prop) (h : Below w.heap.size w w') : Kp F w w' := fun q hq _ _ => h.block q hq
theorem En.kept (h : En F w B T Sx Bx Nx O) (hb : Below w.heap.size w w') : En F w' B T Sx Bx Nx O := h.kp (kp_below F hb)
theorem FO.lt {ys : List FX} (h : FO B w a ys) {q : Nat} (hq : Fq a ys q) : q < w.heap.size := by
  rcases hq with e | ⟨x, hx, e⟩
  · exact (World.ownsRow.lt h.row q e).2
  · exact (World.ownsRow.lt (h.own x hx).row q e).2
/-- other blocks are the disk's now -/
theorem En.turn (h : En F w B T Sx Bx Nx O) (hF : ∀ q, F' q → F q ∨ w.heap.size ≤ q) : En F' w B T Sx Bx Nx O :=
  ⟨fun x hx => by
    obtain ⟨h1, h2, h3, h4, h5⟩ := h.s x hx
    refine ⟨h1, h2, h3, fun q e e2 => ?_, h5⟩
    rcases hF q e2 with e3 | e3
    · exact h4 q e e3
    · rcases e with e | e
      · have := h1.lt e; omega
      · have := h2.lt e; omega, fun x hx => by
    obtain ⟨h1, h2, h3, h4⟩ := h.b x hx
    refine ⟨h1, h2, fun q e e2 => ?_, h4⟩
    rcases hF q e2 with e3 | e3
    · exact h3 q e e3
    · rcases e with e | e
      · have := (World.ownsRow.lt h1.row q e).2; omega
      · have := (World.ownsRow.lt h2.row q e).2; omega, fun x hx => by
    obtain ⟨h1, h2, h3, h4⟩ := h.n x hx
    refine ⟨h1, h2, fun q e e2 => ?_, h4⟩
    rcases hF q e2 with e3 | e3
    · exact h3 q e e3
    · rcases e with e | e
      · have := (World.ownsRow.lt h1 q e).2; omega
      · have := (World.ownsRow.lt h2 q e).2; omega, h.os, h.ob, h.on, h.ts, h.tb, h.tn⟩
theorem En.nil (F : Nat → Prop) (w : World) (B T : Nat) : En F w B T [] [] [] fun _ => 0 := ⟨fun _ h => (by cases h), fun _ h => (by cases h), fun _ h => (by cases h), fun _ _ h => (by simp at h), fun _ _ h => (by simp at h), fun _ _ h => (by simp at h), fun _ h => (by cases h), fun _ h => (by cases h), fun _ h => (by cases h)⟩
theorem at_snoc {α : Type} {l : List α} {x y : α} {k : Nat} (h : (l ++ [x])[k]? = some y) : l[k]? = some y ∨ (k = l.length ∧ y = x) := by
  by_cases hlt : k < l.length
  · rw [List.getElem?_append_left hlt] at h
    exact .inl h
  · have hl := (List.getElem?_eq_some_iff.1 h).1
    rw [List.length_append, List.length_singleton] at hl
    obtain rfl : k = l.length := by omega
    rw [List.getElem?_append_right (Nat.le_refl _), Nat.sub_self] at h
    simp at h
    exact .inr ⟨rfl, h.symm⟩
/-- more was told -/
theorem En.addS (h : En F w B T Sx Bx Nx O) (x : SE) (hx : FA w x.v x.xs ∧ FO 0 w x.w x.ys ∧ (x.ys.map fun y => (y.1, y.2.2)) = (x.xs.map fun y => (y.1, y.2.2)) ∧ (∀ q, Fq x.v x.xs q ∨ Fq x.w x.ys q → ¬ F q) ∧ (∀ q, Fq x.v x.xs q → B ≤ q) ∧ x.xs.length ≤ 5000 ∧ ∀ y ∈ x.xs, y.2.2.length ≤ 5000000) (hT : T ≤ T') (hq : ∀ q, Fq x.v x.xs q → T ≤ q ∧ q < T') : En F w B T' (Sx ++ [x]) Bx Nx (fun q => if q < T then O q else 2 * Sx.length) := by
  refine ⟨fun y hy => ?_, h.b, h.n, fun i y hi q e => ?_, fun i y hi q e => ?_, fun i y hi q e => ?_, fun y hy q e => ?_, fun y hy q e => Nat.lt_of_lt_of_le (h.tb y hy q e) hT, fun y hy q e => Nat.lt_of_lt_of_le (h.tn y hy q e) hT⟩
  · rcases List.mem_append.1 hy with e | e
    · exact h.s y e
    · rw [List.mem_singleton.1 e]
      exact hx
  · rcases at_snoc hi with h1 | ⟨rfl, rfl⟩
    · rw [if_pos (h.ts y (List.mem_of_getElem? h1) q e)]
      exact h.os i y h1 q e
    · rw [if_neg (by have := (hq q e).1; omega)]
  · rw [if_pos (h.tb y (List.mem_of_getElem? hi) q e)]
    exact h.ob i y hi q e
  · rw [if_pos (h.tn y (List.mem_of_getElem? hi) q e)]
    exact h.on i y hi q e
  · rcases List.mem_append.1 hy with e2 | e2
    · exact Nat.lt_of_lt_of_le (h.ts y e2 q e) hT
    · rw [List.mem_singleton.1 e2] at e
      exact (hq q e).2
theorem En.addB (h : En F w B T Sx Bx Nx O) (x : BE) (hx : Own B w x.v x.l ∧ Own 0 w x.w x.l ∧ (∀ q, x.v.ownBlock = some q ∨ x.w.ownBlock = some q → ¬ F q) ∧ x.l.length ≤ 5000000) (hT : T ≤ T') (hq : ∀ q, x.v.ownBlock = some q → T ≤ q ∧ q < T') : En F w B T' Sx (Bx ++ [x]) Nx (fun q => if q < T then O q else 2 * Bx.length + 1) := by
  refine ⟨h.s, fun y hy => ?_, h.n, fun i y hi q e => ?_, fun i y hi q e => ?_, fun i y hi q e => ?_, fun y hy q e => Nat.lt_of_lt_of_le (h.ts y hy q e) hT, fun y hy q e => ?_, fun y hy q e => Nat.lt_of_lt_of_le (h.tn y hy q e) hT⟩
  · rcases List.mem_append.1 hy with e | e
    · exact h.b y e
    · rw [List.mem_singleton.1 e]
      exact hx
  · rw [if_pos (h.ts y (List.mem_of_getElem? hi) q e)]
    exact h.os i y hi q e
  · rcases at_snoc hi with h1 | ⟨rfl, rfl⟩
    · rw [if_pos (h.tb y (List.mem_of_getElem? h1) q e)]
      exact h.ob i y h1 q e
    · rw [if_neg (by have := (hq q e).1; omega)]
  · rw [if_pos (h.tn y (List.mem_of_getElem? hi) q e)]
    exact h.on i y hi q e
  · rcases List.mem_append.1 hy with e2 | e2
    · exact Nat.lt_of_lt_of_le (h.tb y e2 q e) hT
    · rw [List.mem_singleton.1 e2] at e
      exact (hq q e).2
theorem En.addN (h : En F w B T Sx Bx Nx O) (x : NE) (hx : w.ownsRow B 9 1 x.v x.l.length (x.l.flatMap enN) ∧ w.ownsRow 0 9 1 x.w x.l.length (x.l.flatMap enN) ∧ (∀ q, x.v.ownBlock = some q ∨ x.w.ownBlock = some q → ¬ F q) ∧ x.l.length ≤ 5000000) (hT : T ≤ T') (hq : ∀ q, x.v.ownBlock = some q → T ≤ q ∧ q < T') : En F w B T' Sx Bx (Nx ++ [x]) (fun q => if q < T then O q else Nx.length) := by
  refine ⟨h.s, h.b, fun y hy => ?_, fun i y hi q e => ?_, fun i y hi q e => ?_, fun i y hi q e => ?_, fun y hy q e => Nat.lt_of_lt_of_le (h.ts y hy q e) hT, fun y hy q e => Nat.lt_of_lt_of_le (h.tb y hy q e) hT, fun y hy q e => ?_⟩
  · rcases List.mem_append.1 hy with e | e
    · exact h.n y e
    · rw [List.mem_singleton.1 e]
      exact hx
  · rw [if_pos (h.ts y (List.mem_of_getElem? hi) q e)]
    exact h.os i y hi q e
  · rw [if_pos (h.tb y (List.mem_of_getElem? hi) q e)]
    exact h.ob i y hi q e
  · rcases at_snoc hi with h1 | ⟨rfl, rfl⟩
    · rw [if_pos (h.tn y (List.mem_of_getElem? h1) q e)]
      exact h.on i y h1 q e
    · rw [if_neg (by have := (hq q e).1; omega)]
  · rcases List.mem_append.1 hy with e2 | e2
    · exact Nat.lt_of_lt_of_le (h.tn y e2 q e) hT
    · rw [List.mem_singleton.1 e2] at e
      exact (hq q e).2
theorem En.up (h : En F w B T Sx Bx Nx O) (hT : T ≤ T') : En F w B T' Sx Bx Nx O := ⟨h.s, h.b, h.n, h.os, h.ob, h.on, fun x hx q e => Nat.lt_of_lt_of_le (h.ts x hx q e) hT, fun x hx q e => Nat.lt_of_lt_of_le (h.tb x hx q e) hT, fun x hx q e => Nat.lt_of_lt_of_le (h.tn x hx q e) hT⟩
theorem Kp.trans {w2 : World} (h : Kp F w w') (hs : w.heap.size ≤ w'.heap.size) (h2 : Kp F w' w2) : Kp F w w2 := fun q hq hf ⟨cur, t, hc, ht⟩ => by
  have h3 := h q hq hf ⟨cur, t, hc, ht⟩
  rw [h2 q (Nat.lt_of_lt_of_le hq hs) hf ⟨cur, t, h3.trans hc, ht⟩, h3]
theorem Kp.of (h : Kp (fun _ => False) w w') (F : Nat → Prop) : Kp F w w' := fun q hq _ hc => h q hq id hc
/-- rows of what was told -/
structure Rs (B : Nat) (w : World) (V : List Value) (D : List (TypeId × List Value)) : Prop where
  rows : ∀ (i : Nat) (v : Value) (d : TypeId × List Value), V[i]? = some v → D[i]? = some d → w.ownsRow B d.1 1 v d.2.length d.2
  len : V.length = D.length
  apt : ∀ (i j : Nat) (u v : Value), V[i]? = some u → V[j]? = some v → i ≠ j → ∀ q, u.ownBlock = some q → v.ownBlock ≠ some q
  ty : ∀ d ∈ D, d.1 = 35 ∨ d.1 = 29 ∨ d.1 = 32
theorem Rs.row {V : List Value} {D : List (TypeId × List Value)} (h : Rs B w V D) {v : Value} (hv : v ∈ V) : ∃ d ∈ D, w.ownsRow B d.1 1 v d.2.length d.2 := by
  obtain ⟨i, hi, e⟩ := List.getElem_of_mem hv
  have hd : i < D.length := by rw [← h.len]; exact hi
  exact ⟨D[i], List.getElem_mem hd, h.rows i v D[i] (by rw [← e]; exact List.getElem?_eq_getElem hi) (List.getElem?_eq_getElem hd)⟩
theorem Rs.blk {V : List Value} {D : List (TypeId × List Value)} (h : Rs B w V D) (hb : ∀ q, q < w.heap.size → (∃ cur t, w.heap[q]? = some (.cells cur t) ∧ (t = 35 ∨ t = 29 ∨ t = 32)) → w'.heap[q]? = w.heap[q]?) : Rs B w' V D :=
  ⟨fun i v d hv hd => Mg.row_block (h.rows i v d hv hd) fun q e => hb q (World.ownsRow.lt (h.rows i v d hv hd) q e).2 (by
    obtain ⟨cur, hc⟩ := Mg.row_type (h.rows i v d hv hd) q e
    exact ⟨cur, d.1, hc, h.ty d (List.mem_of_getElem? hd)⟩), h.len, h.apt, h.ty⟩
theorem Rs.kept {V : List Value} {D : List (TypeId × List Value)} (h : Rs B w V D) (hb : Below w.heap.size w w') : Rs B w' V D := h.blk fun q hq _ => hb.block q hq
theorem Rs.at_ {V : List Value} {D : List (TypeId × List Value)} (h : Rs B w V D) (i : Nat) (v : Value) (t : TypeId) (xs : List Value) (hv : V[i]? = some v) (hd : D[i]? = some (t, xs)) : ∃ a c, v = .slice a xs.length c ∧ xs.length ≤ c ∧ c ≤ maxLen ∧ ∀ j x, xs[j]? = some x → ∃ b, a = some ⟨b, 0, none⟩ ∧ w.cell? ⟨b, j, none⟩ = some x := by
  have hr := h.rows i v (t, xs) hv hd
  rcases hr.2 with ⟨e, h0⟩ | ⟨b, c, cur, e, -, -, h1, h2, -⟩
  · have hx : xs = [] := List.eq_nil_of_length_eq_zero h0
    refine ⟨none, 0, by rw [e, hx]; rfl, by rw [hx]; exact Nat.le_refl _, Nat.zero_le _, fun j x hj => ?_⟩
    rw [hx] at hj
    simp at hj
  · refine ⟨_, c, e, h1, h2, fun j x hj => ⟨b, rfl, ?_⟩⟩
    have hjl := (List.getElem?_eq_some_iff.1 hj).1
    rw [e] at hr
    rw [hr.cellAt j (by rw [hr.1] at hjl; exact hjl)]
    exact hj
/-- a block of such rows is no disk's, and holds no files, bytes or names -/
theorem DM.tys {g : Nat} {S : Dk.DS} {M : Mm} (h : DM B w g S M) {q : Nat} (hq : Ft g S M q) : ¬ ∃ cur t, w.heap[q]? = some (.cells cur t) ∧ (t = 35 ∨ t = 29 ∨ t = 32) := by
  rintro ⟨cur, t, hc, ht⟩
  have key : ∀ (t2 : TypeId) cur2, w.heap[q]? = some (.cells cur2 t2) → (t2 = 83 ∨ t2 = 110 ∨ t2 = 85 ∨ t2 = 5) → False := fun t2 cur2 h2 h3 => by
    rw [hc] at h2
    simp at h2
    obtain ⟨-, rfl⟩ := h2
    rcases ht with rfl | rfl | rfl <;> rcases h3 with h3 | h3 | h3 | h3 <;> exact absurd h3 (by decide)
  rcases hq with rfl | e | e | e | ⟨f, hf, rfl | e⟩
  · exact key _ _ h.box (.inl rfl)
  · obtain ⟨es, clock, h9⟩ := h.nm.obj q e
    rw [hc] at h9
    cases h9
  · obtain ⟨es, clock, h9⟩ := h.la.obj q e
    rw [hc] at h9
    cases h9
  · obtain ⟨cur2, h9⟩ := Mg.row_type h.ch q e
    exact key _ _ h9 (.inr (.inl rfl))
  · exact key _ _ (h.fb q hf) (.inr (.inr (.inl rfl)))
  · obtain ⟨cur2, h9⟩ := Mg.row_type (h.fd f hf).row q e
    exact key _ _ h9 (.inr (.inr (.inr rfl)))
/-- a row is lengthened -/
theorem Rs.app {V : List Value} {D : List (TypeId × List Value)} (h : Rs B w V D) (i : Nat) (v : Value) (t : TypeId) (xs : List Value) (hv : V[i]? = some v) (hd : D[i]? = some (t, xs)) (st ty : TypeId) (z : Value) (by_ : Nat) (hinfo : (Try.prog.info? t).map (fun i => (i.zero, i.size, i.bytes)) = some (some z, 1, by_)) (hz : z.cells.size = 1) (ht : Try.prog.underlying st = some (.slice t)) (ys : List Value) (hy : ∀ u ∈ ys, u.oneCell' = true) (p k : Nat) (hc : LB w p t ys) (m : Nat) (hm : ys.length = m) (hmax : xs.length + m ≤ 100000000) (hby : by_ ≤ 1000) (hB : B ≤ w.heap.size) :
    ∃ v' W, (Builtin.append_ #[st, st] ty #[v, .slice (some ⟨p, 0, none⟩) m k]).run Try.prog w = .ok v' W ∧ Rs B W (V.set i v') (D.set i (t, xs ++ ys)) ∧ w.grownBy W v.ownBlock ∧ (∃ a c, v' = .slice a (xs.length + m) c) ∧ (∀ q, v.ownBlock = some q → ∃ cur, w.heap[q]? = some (.cells cur t)) := by
  subst hm
  obtain ⟨i0, hi, hq⟩ := Option.map_eq_some_iff.1 hinfo
  simp only [Prod.mk.injEq] at hq
  obtain ⟨hz0, hs0, hb0⟩ := hq
  have hr0 := h.rows i v (t, xs) hv hd
  have hbound : (xs.length + ys.length) * by_ ≤ 140737488355328 := by
    exact Nat.le_trans (Nat.mul_le_mul hmax hby) (by decide)
  obtain ⟨v', W, hr, h1, h2, -, h3⟩ := run_append_own_at (P := Try.prog) w B st ty t i0 z 1 by_ ht hi hz0 hs0 hb0 hz (by omega) v xs.length xs hr0 ⟨p, 0, none⟩ ys.length k ys (by rw [Nat.mul_one]) (fun j u hj => by
    rw [Addr.add_lit, Nat.zero_add]
    exact hc.cell j u hj) hy (by unfold maxLen; omega) hbound hB
  have hlen : i < V.length := (List.getElem?_eq_some_iff.1 hv).1
  have hnew : ∀ q, v'.ownBlock = some q → v.ownBlock = some q ∨ q = w.heap.size := fun q e => by
    rcases h3 with e2 | e2
    · exact .inl (e2.symm.trans e)
    · rw [e2] at e
      exact .inr (Option.some.inj e).symm
  have hlt : ∀ (j : Nat) (u : Value), V[j]? = some u → ∀ q, u.ownBlock = some q → q < w.heap.size := fun j u hu q e => by
    obtain ⟨d, -, hr9⟩ := h.row (List.mem_of_getElem? hu)
    exact (World.ownsRow.lt hr9 q e).2
  refine ⟨v', W, hr, ⟨fun j u d hu hj => ?_, by rw [List.length_set, List.length_set]; exact h.len, fun j m u u' hu hu' hjm q e => ?_, fun d hd2 => ?_⟩, h2, ?_, fun q e => Mg.row_type hr0 q e⟩
  · by_cases hji : j = i
    · subst hji
      rw [List.getElem?_set_self hlen] at hu
      rw [List.getElem?_set_self (by rw [← h.len]; exact hlen)] at hj
      cases hu
      cases hj
      rw [List.length_append]
      exact h1
    · rw [List.getElem?_set_ne (Ne.symm hji)] at hu hj
      exact Mg.row_other (h.rows j u d hu hj) h2 fun q e => h.apt j i u v hu hv hji q e
  · by_cases hji : j = i
    · subst hji
      rw [List.getElem?_set_self hlen] at hu
      cases hu
      rw [List.getElem?_set_ne hjm] at hu'
      intro e2
      rcases hnew q e with e3 | e3
      · exact h.apt j m v u' hv hu' hjm q e3 e2
      · have := hlt m u' hu' q e2
        omega
    · rw [List.getElem?_set_ne (Ne.symm hji)] at hu
      by_cases hmi : m = i
      · subst hmi
        rw [List.getElem?_set_self hlen] at hu'
        cases hu'
        intro e2
        rcases hnew q e2 with e3 | e3
        · exact h.apt j m u v hu hv hji q e e3
        · have := hlt j u hu q e
          omega
      · rw [List.getElem?_set_ne (Ne.symm hmi)] at hu'
        exact h.apt j m u u' hu hu' hjm q e
  · rcases List.mem_or_eq_of_mem_set hd2 with e | e
    · exact h.ty d e
    · rw [e]
      exact h.ty (t, xs) (List.mem_of_getElem? hd)
  · obtain ⟨a, c, e, -⟩ := Mg.row_shape h1
    exact ⟨a, c, e⟩
theorem Rs.nil (B : Nat) (w : World) : Rs B w [.slice none 0 0, .slice none 0 0, .slice none 0 0, .slice none 0 0, .slice none 0 0, .slice none 0 0] [(35, []), (35, []), (29, []), (29, []), (32, []), (32, [])] := by
  have key : ∀ v ∈ ([.slice none 0 0, .slice none 0 0, .slice none 0 0, .slice none 0 0, .slice none 0 0, .slice none 0 0] : List Value), v = .slice none 0 0 := fun v hv => by simpa using hv
  refine ⟨fun i v d hv hd => ?_, rfl, fun i j u v hu _ _ q e => ?_, fun d hd => ?_⟩
  · rw [key v (List.mem_of_getElem? hv)]
    have hd2 : d.2 = [] := by
      have := List.mem_of_getElem? hd
      simp at this
      rcases this with e | e | e <;> rw [e]
    rw [hd2]
    exact World.ownsRow_nil _ _ _ _
  · rw [key u (List.mem_of_getElem? hu)] at e
    cases e
  · simp at hd
    rcases hd with e | e | e <;> rw [e] <;> simp
/-- such a row grows: what was told stays, and the disk -/
theorem grow_kp {F : Nat → Prop} {v : Value} {t : TypeId} (hg : w.grownBy w' v.ownBlock) (ht : t = 35 ∨ t = 29 ∨ t = 32) (hv : ∀ q, v.ownBlock = some q → ∃ cur, w.heap[q]? = some (.cells cur t)) : Kp F w w' := fun q hq _ ⟨cur, t2, hc, ht2⟩ => hg.block q hq fun e => by
  obtain ⟨cur2, h2⟩ := hv q e.symm
  rw [hc] at h2
  simp at h2
  obtain ⟨-, rfl⟩ := h2
  rcases ht with rfl | rfl | rfl <;> rcases ht2 with h3 | h3 | h3 <;> exact absurd h3 (by decide)
theorem grow_dm {g : Nat} {S : Dk.DS} {M : Mm} {v : Value} {t : TypeId} (h : DM B w g S M) (hg : w.grownBy w' v.ownBlock) (ht : t = 35 ∨ t = 29 ∨ t = 32) (hv : ∀ q, v.ownBlock = some q → ∃ cur, w.heap[q]? = some (.cells cur t)) : DM B w' g S M := h.blk fun q hq => hg.block q (h.ft hq).2 fun e => by
  obtain ⟨cur2, h2⟩ := hv q e.symm
  exact h.tys hq ⟨cur2, t, h2, ht⟩
/-- where the rows are lengthened: what was made at the worlds of L stays -/
structure Ts (L : List World) (W w0 : World) (g : Nat) (S : Dk.DS) (M : Mm) (V : List Value) (D : List (TypeId × List Value)) : Prop where
  kp : ∀ v ∈ L, Kp (fun _ => False) v W ∧ v.heap.size ≤ W.heap.size
  rs : Rs w0.heap.size W V D
  dm : DM w0.heap.size W g S M
  be : Below w0.heap.size w0 W
variable {L : List World} {W W' w0 : World} {g : Nat} {S : Dk.DS} {M : Mm} {V : List Value} {D : List (TypeId × List Value)}
theorem Ts.call (h : Ts L W w0 g S M V D) (hb : Below W.heap.size W W') : Ts L W' w0 g S M V D := ⟨fun v hv => ⟨(h.kp v hv).1.trans (h.kp v hv).2 (kp_below _ hb), Nat.le_trans (h.kp v hv).2 hb.size⟩, h.rs.kept hb, h.dm.kept hb, andThen h.be hb⟩
theorem Ts.mark (h : Ts L W w0 g S M V D) : Ts (W :: L) W w0 g S M V D := ⟨fun v hv => by
  rcases List.mem_cons.1 hv with rfl | e
  · exact ⟨fun _ _ _ _ => rfl, Nat.le_refl _⟩
  · exact h.kp v e, h.rs, h.dm, h.be⟩
theorem Ts.app (h : Ts L W w0 g S M V D) (i : Nat) (v : Value) (t : TypeId) (xs : List Value) (hv : V[i]? = some v) (hd : D[i]? = some (t, xs)) (st : TypeId) (hinfo : (Try.prog.info? t).map (fun i => (i.zero, i.size, i.bytes)) = some (some (.slice none 0 0), 1, 24)) (ht : Try.prog.underlying st = some (.slice t)) (hty : t = 35 ∨ t = 29 ∨ t = 32) (ys : List Value) (hy : ∀ u ∈ ys, u.oneCell' = true) (m : Nat) (hm : ys.length = m) (hmax : xs.length + m ≤ 100000000) :
    ∃ v' W', (Builtin.append_ #[st, st] st #[v, .slice (some ⟨W.heap.size, 0, none⟩) m m]).run Try.prog (W.alloc (.cells ys.toArray t)) = .ok v' W' ∧ Ts L W' w0 g S M (V.set i v') (D.set i (t, xs ++ ys)) ∧ ∃ a c, v' = .slice a (xs.length + m) c := by
  have h0 := h.call (up0 W (.cells ys.toArray t))
  obtain ⟨v', W', k1, k2, k3, k4, k5⟩ := h0.rs.app i v t xs hv hd st st _ 24 hinfo rfl ht ys hy W.heap.size m (lb_new W ys t) m hm hmax (by omega) h0.be.size
  refine ⟨v', W', k1, ⟨fun u hu => ⟨(h0.kp u hu).1.trans (h0.kp u hu).2 (grow_kp k3 hty k5), Nat.le_trans (h0.kp u hu).2 k3.size⟩, k2, grow_dm h0.dm k3 hty k5, (h0.be).trans ((Below.refl _ _).grown k3 h0.be.size fun q e => ?_)⟩, k4⟩
  obtain ⟨d, -, hr9⟩ := h0.rs.row (List.mem_of_getElem? hv)
  exact (World.ownsRow.lt hr9 q e).1
theorem tiN : TI 9 32 1 := ti_of (z := .string ⟨#[]⟩) (k := 16) Try.underlying32 (by kernel_rfl) rfl (by decide) (by decide)
/-- names are copied behind an empty list -/
theorem namesCopy (W : World) (a : Option Addr) (nm c : Nat) (lR : List (List UInt8)) (h : W.ownsRow B 9 1 (.slice a nm c) lR.length (lR.flatMap enN)) (hl : lR.length = nm) (hm : nm ≤ 1000000) : ∃ a' c' W', (Builtin.append_ #[32, 32] 32 #[.slice (some ⟨W.heap.size, 0, none⟩) 0 0, .slice a nm c]).run Try.prog (W.alloc (.cells #[] 9)) = .ok (.slice a' nm c') W' ∧ W'.ownsRow W.heap.size 9 1 (.slice a' nm c') lR.length (lR.flatMap enN) ∧ Below W.heap.size W W' := by
  have b0 := up0 W (.cells #[] 9)
  have r0 : (W.alloc (.cells #[] 9)).ownsRow W.heap.size 9 1 (.slice (some ⟨W.heap.size, 0, none⟩) 0 0) ([] : List (List UInt8)).length (([] : List (List UInt8)).flatMap enN) := ⟨rfl, .inr ⟨W.heap.size, 0, #[], rfl, Nat.le_refl _, lb_new W [] 9, Nat.le_refl _, Nat.zero_le _, rfl, rfl⟩⟩
  obtain ⟨v', W', k1, k2, -, k4⟩ := row_appR tiN enN_len r0 (ys := lR) (row_low (Mg.row_kept h b0) (Nat.zero_le _)) (fun x _ u hu => by
    rw [List.mem_singleton.1 hu]
    rfl) (by simp only [List.length_nil, Nat.zero_add]; omega) b0.size 32
  rw [List.nil_append] at k2
  obtain ⟨a', c', e, -⟩ := Mg.row_shape k2
  rw [hl] at e
  subst e
  exact ⟨a', c', W', k1, k2, b0.trans k4⟩
theorem FO.ge {ys : List FX} {C : Nat} (h : FO C w a ys) {q : Nat} (hq : Fq a ys q) : C ≤ q := by
  rcases hq with e | ⟨x, hx, e⟩
  · exact (World.ownsRow.lt h.row q e).1
  · exact (World.ownsRow.lt (h.own x hx).row q e).1
/-- files were told, and copied -/
theorem en_s {V8 Z : World} {C T0 : Nat} {ys : List FX} {v c : Value} {fs : List (List UInt8 × List Nat)} (h : En F W B T Sx Bx Nx O) (hfa : FOA T V8 v xs) (hlt : ∀ q, Fq v xs q → q < T') (hk : Kp (fun _ => False) V8 W) (hfo : FO C Z c ys) (hkz : Kp (fun _ => False) Z W) (hF : ∀ q, F q → q < T0) (h1 : T0 ≤ T) (h2 : T0 ≤ C) (h3 : B ≤ T) (h4 : T ≤ T') (e1 : (xs.map fun x => (x.1, x.2.2)) = fs) (e2 : (ys.map fun x => (x.1, x.2.2)) = fs) (hb : fs.length ≤ 5000 ∧ ∀ y ∈ fs, y.2.length ≤ 4194304) : ∃ O', En F W B T' (Sx ++ [⟨v, c, xs, ys⟩]) Bx Nx O' := by
  refine ⟨_, h.addS ⟨v, c, xs, ys⟩ ⟨hfa.fa.kp hk fun _ _ e => e, ?_, e2.trans e1.symm, fun q hq e => ?_, fun q hq => ?_, ?_, fun y hy => ?_⟩ h4 fun q hq => ⟨hfa.ge hq, hlt q hq⟩⟩
  · have h9 := FO.kp hfo hkz fun _ _ e => e
    exact ⟨row_low h9.row (Nat.zero_le _), fun x hx => (h9.own x hx).mono (Nat.zero_le _)⟩
  · have h8 := hF q e
    rcases hq with e3 | e3
    · have := hfa.ge e3
      omega
    · have := FO.ge hfo e3
      omega
  · have := hfa.ge hq
    omega
  · have h9 := congrArg List.length e1
    rw [List.length_map] at h9
    show xs.length ≤ 5000
    rw [h9]
    exact hb.1
  · have h9 : (y.1, y.2.2) ∈ fs := by
      rw [← e1]
      exact List.mem_map.2 ⟨y, hy, rfl⟩
    have := hb.2 _ h9
    simp only at this
    omega
theorem en_b {V8 Z : World} {C T0 : Nat} {v c : Value} {l : List Nat} (h : En F W B T Sx Bx Nx O) (hfa : Own T V8 v l) (hlt : ∀ q, v.ownBlock = some q → q < T') (hk : Kp (fun _ => False) V8 W) (hfo : Own C Z c l) (hkz : Kp (fun _ => False) Z W) (hF : ∀ q, F q → q < T0) (h1 : T0 ≤ T) (h2 : T0 ≤ C) (h3 : B ≤ T) (h4 : T ≤ T') (hb : l.length ≤ 4194304) : ∃ O', En F W B T' Sx (Bx ++ [⟨v, c, l⟩]) Nx O' := by
  refine ⟨_, h.addB ⟨v, c, l⟩ ⟨(Own.kp hfa hk fun _ _ e => e).mono h3, (Own.kp hfo hkz fun _ _ e => e).mono (Nat.zero_le _), fun q hq e => ?_, Nat.le_trans hb (by omega)⟩ h4 fun q hq => ⟨(World.ownsRow.lt hfa.row q hq).1, hlt q hq⟩⟩
  have h8 := hF q e
  rcases hq with e3 | e3
  · have := (World.ownsRow.lt hfa.row q e3).1
    omega
  · have := (World.ownsRow.lt hfo.row q e3).1
    omega
theorem en_n {V8 Z : World} {C T0 : Nat} {v c : Value} {l : List (List UInt8)} (h : En F W B T Sx Bx Nx O) (hfa : V8.ownsRow T 9 1 v l.length (l.flatMap enN)) (hlt : ∀ q, v.ownBlock = some q → q < T') (hk : Kp (fun _ => False) V8 W) (hfo : Z.ownsRow C 9 1 c l.length (l.flatMap enN)) (hkz : Kp (fun _ => False) Z W) (hF : ∀ q, F q → q < T0) (h1 : T0 ≤ T) (h2 : T0 ≤ C) (h3 : B ≤ T) (h4 : T ≤ T') (hb : l.length ≤ 1000) : ∃ O', En F W B T' Sx Bx (Nx ++ [⟨v, c, l⟩]) O' := by
  refine ⟨_, h.addN ⟨v, c, l⟩ ⟨row_low (kp_row (.inr (.inr rfl)) hfa hk fun _ _ e => e) h3, row_low (kp_row (.inr (.inr rfl)) hfo hkz fun _ _ e => e) (Nat.zero_le _), fun q hq e => ?_, Nat.le_trans hb (by omega)⟩ h4 fun q hq => ⟨(World.ownsRow.lt hfa q hq).1, hlt q hq⟩⟩
  have h8 := hF q e
  rcases hq with e3 | e3
  · have := (World.ownsRow.lt hfa q e3).1
    omega
  · have := (World.ownsRow.lt hfo q e3).1
    omega
end
end Go.Proofs.Ytjepeeopjjnglab
