import Derived.Shelf.SlSortCmp.NoneTotal
import Derived.RangeFuncNested
import Derived.RangeFuncBound
import Derived.RangeFuncCalls
import Derived.RangeFuncLeaves
import Derived.RangeFuncFrom
import Derived.Shelf.Abstract
import Derived.Shelf.RegionOpen
import Derived.OwnWalkIn
import Derived.TacticsInMore
import Derived.LoopNIn
import Derived.LoopIn
import Derived.Test.YtceokpklcfmadaaQI5
/-
  Package index: held, the walk.
-/
namespace Go.Proofs.Ytceokpklcfmadaa
open Go Go.RowKit Go.ChangeShapes
open Wb

theorem ixsort_none (p : Option Addr) (cap : Nat) (fv : Value) (w : World) : Calls Try.prog 67 #[.slice p 0 cap, fv] w fun e w' => e = .returned (.tuple #[]) ∧ w' = w := by
  have h := AnyF.slices_SortFunc_none laysSortF p cap fv w
  exact h
/-- an entry has come -/
structure NX (w : World) (base b n : Nat) (kvs : Ix.Gm) (left : Lit → Bool) (cnt : Nat) (wr : World) (x : Int) (a : Option Addr) (m c : Nat) (cnt1 : Nat) (w1 : World) : Prop where
  lx : left (.int .i64 x) = true
  kv : ∃ l, (x, l) ∈ kvs
  wx : (Lit.int .i64 x).wf = true
  oi : w.ownsInts base 3 .i64 (.slice a m c) (Ix.get kvs x) ∧ ∀ q, (Value.slice a m c).ownBlock = some q → Mrow w b q
  rg : w1.ranges Try.prog 3 (rowE w base b) b w.heap.size n (Ix.dm kvs) (fun z => left z && !z.sameKey (.int .i64 x)) cnt1
  lt : cnt1 < cnt
  gr : wr.grownBy w1 (some w.heap.size)
  en : (Instr.entry (.pointer (some ⟨w.heap.size, 0, none⟩))).run Try.prog w1 = .ok (.tuple #[.int .i64 x, .slice a m c]) w1
def Left0 (left : Lit → Bool) : Prop := ∀ kl, left kl = false
theorem wpList_nextI (wr : World) {ops : Array Oper} {rest : List Oper} {o : Oper} {a : Act} {Q : Exit → Act → World → Prop} (hg : o.guard = none) (it : Operand) (hop : o.op = Op.next it false) (w : World) (base b n : Nat) (kvs : Ix.Gm) (left : Lit → Bool) (cnt : Nat)
    (hit : a.eval it = .pointer (some ⟨w.heap.size, 0, none⟩)) (h : wr.ranges Try.prog 3 (rowE w base b) b w.heap.size n (Ix.dm kvs) left cnt)
    (hDone : Left0 left → wpList Try.prog ops Q rest (a.put o.dst (.tuple #[.bool false])) wr)
    (hMore : ∀ (x : Int) (ad : Option Addr) (m c cnt1 : Nat) (w1 : World), NX w base b n kvs left cnt wr x ad m c cnt1 w1 → wpList Try.prog ops Q rest (a.put o.dst (.tuple #[.bool true, .int .i64 x, .slice ad m c])) w1) :
    wpList Try.prog ops Q (o :: rest) a wr :=
  wpList_next_ranges wr hg it hop 3 lawI (rowE w base b) (Value.int .i64) (fun c : Option Addr × Nat × Nat => .slice c.1 c.2.1 c.2.2) (fun key kl hkey => by obtain ⟨x, rfl, _⟩ := Maps.keyOf_int_inv Try.underlying3 hkey; exact ⟨x, rfl⟩) (fun v y hv => by obtain ⟨zs, ho, -⟩ := rowElem_inv (rowE_inv hv).1; exact ints_shape ho) b w.heap.size n _ _ _ hit h (fun _ hl => hDone hl) (fun x c kl y w1 cnt1 hkey hlx hR hat hrg1 hlt hg1 _ hen => by
    obtain ⟨x', ex, rfl, hwx⟩ := Maps.keyOf_int_inv Try.underlying3 hkey
    cases ex
    obtain ⟨hkv, hoi⟩ := key_at hR hat
    exact hMore x c.1 c.2.1 c.2.2 cnt1 w1 ⟨hlx, hkv, hwx, hoi, hrg1, hlt, hg1, hen⟩)
set_option maxRecDepth 100000 in
set_option maxHeartbeats 4000000 in
theorem ixheld_any (g b base n : Nat) (kvs : Ix.Gm) (lo hi : Int) (w : World) (h : MI w g b base n kvs) (hk : kvs.length ≤ 10000000) :
    Calls Try.prog 58 #[.pointer (some ⟨g, 0, none⟩), .int .i64 lo, .int .i64 hi] w fun e w' => HdPost kvs base b lo hi w e w' := by
  have hinE := infoE
  have HOW : Hid (w.ownsMap Try.prog 3 (rowE w base b) b n (Ix.dm kvs)) := h.ownsE
  have HKV : Hid (Ix.rising kvs ∧ kvs.length ≤ 10000000 ∧ b < w.heap.size) := ⟨h.ris, hk, h.blt.2⟩
  have x0 := h.box.cell 0 _ rfl
  have HSZ : Hid (Maps.size (Ix.dm kvs) = kvs.length) := by
    show _ = _
    unfold Ix.dm
    rw [Maps.size_eq, List.length_map]
  clear h hk
  go_enter Try.func58, Try.ntmps58
  go_wp2_with (at_range; refine wpList_range_own _ rfl _ 97 rfl 3 35 lawI Try.underlying97 _ b n _ rfl HOW.out ?_; intro w0 hrg0 hg0 hs0)
  go_frame
  have HL0 : Hid (HL w base b n kvs lo hi (Maps.has (Ix.dm kvs)) (Maps.size (Ix.dm kvs)) [] (.slice none 0 0) w0) := by
    refine ⟨hrg0, World.ownsRow_nil _ _ _ _, fun k => ?_, List.nodup_nil, (fun x hx => nomatch hx), (fun x hx => nomatch hx), by rw [HSZ.out]; simp, ⟨hg0.os, hg0.tape, hg0.output, hg0.size, fun k hk => hg0.block k hk (by simp)⟩, by rw [hs0]; exact Nat.le_refl _⟩
    constructor
    · intro hk
      cases hk
    · rintro ⟨h1, h2, -⟩
      rw [(has_dm k).2 h1] at h2
      cases h2
  clear hrg0 hg0 hs0 x0
  go_loopw [7] (fun o wr => ∃ (left : Lit → Bool) (cnt : Nat) (xs : List Ent), HL w base b n kvs lo hi left cnt xs o wr) (fun _ wr => wr.rangeLeft b w.heap.size)
  case atStart => exact ⟨_, _, _, HL0.out⟩
  case round =>
    clear HL0
    obtain ⟨left, cnt, xs, hL⟩ := hrel
    have HH : Hid (HL w base b n kvs lo hi left cnt xs u7 wr) := hL
    clear hL
    go_wp2_with (at_next; refine wpList_nextI _ rfl _ rfl w base b n kvs left cnt rfl HH.out.rg ?_ ?_)
    · intro hl0
      have HE : Hid (∀ kl, left kl = false) := hl0
      clear hl0
      rcases HH.out.row.2 with ⟨e7, e0⟩ | ⟨g7, c7, cur7, e7, -⟩
      · have HX : Hid (xs = []) := List.eq_nil_of_length_eq_zero e0
        subst e7
        have HS : Hid (Calls Try.prog 67 #[.slice none 0 0, .func (.func 68) #[] #[]] wr fun e w' => e = .returned (.tuple #[]) ∧ w' = wr) := ixsort_none none 0 _ wr
        clear e0
        go_wp2_with fail
        refine HS.out.mono ?_
        rintro e w5 ⟨rfl, rfl⟩
        clear HS
        go_wp2_with fail
        go_ret
        obtain ⟨k1, k2⟩ := HH.out.ends HKV.out.1 HE.out [] (by rw [HX.out]) List.Pairwise.nil
        exact ⟨[], _, rfl, World.ownsRow_nil _ _ _ _, k1, k2, HH.out.bel⟩
      · subst e7
        have HS : Hid (Calls Try.prog 67 #[.slice (some ⟨g7, 0, none⟩) xs.length c7, .func (.func 68) #[] #[]] wr fun e w' => e = .returned (.tuple #[]) ∧ ∃ ys : List Ent, ys.Perm xs ∧ ys.Pairwise (fun a b => a.1 < b.1) ∧ w'.ownsRow (w.heap.size + 1) 122 2 (.slice (some ⟨g7, 0, none⟩) xs.length c7) xs.length (ys.flatMap enE) ∧ wr.grownBy w' (some g7)) := ixsort_any _ g7 c7 xs wr HH.out.row (by have := HH.out.cn; have := HKV.out.2.1; omega) HH.out.nd
        go_wp2_with fail
        refine HS.out.mono ?_
        rintro e w5 ⟨rfl, ys, hp, hs, hr5, hg5⟩
        have H5 : Hid (ys.Perm xs ∧ ys.Pairwise (fun a b => a.1 < b.1) ∧ w5.ownsRow (w.heap.size + 1) 122 2 (.slice (some ⟨g7, 0, none⟩) xs.length c7) xs.length (ys.flatMap enE) ∧ Below w.heap.size w w5) := ⟨hp, hs, hr5, HH.out.bel.grown hg5 HH.out.bel.size fun k e => by
          have := (World.ownsRow.lt HH.out.row g7 rfl).1
          have := Option.some.inj e
          omega⟩
        clear HS hp hs hr5 hg5
        go_wp2_with fail
        go_ret
        obtain ⟨k1, k2⟩ := HH.out.ends HKV.out.1 HE.out ys H5.out.1 H5.out.2.1
        exact ⟨ys, _, rfl, by rw [H5.out.1.length_eq]; exact H5.out.2.2.1, k1, k2, H5.out.2.2.2⟩
    · intro x a3 m3 c3 cnt1 w1 hnx
      obtain ⟨hlx, hkv, hwx, hoi, hrg1, hlt, hg1, hen⟩ := hnx
      by_cases hin : lo ≤ x ∧ x ≤ hi
      · have h1 : (lo ≤ x) = True := by simp [hin.1]
        have h2 : (x ≤ hi) = True := by simp [hin.2]
        obtain ⟨s1, s2, s3⟩ := HH.out.step hrg1 hg1
        have HA : Hid (∀ w2 o2, w1.grownBy w2 u7.ownBlock → w2.ownsRow (w.heap.size + 1) 122 2 o2 (xs.length + 1) (xs.flatMap enE ++ enE (x, a3, m3, c3)) → HL w base b n kvs lo hi (fun z => left z && !z.sameKey (.int .i64 x)) cnt1 (xs ++ [(x, a3, m3, c3)]) o2 w2) := fun w2 o2 hg2 hr2 => HH.out.push (c := (a3, m3, c3)) hkv hwx hoi hlx hrg1 hlt hg1 hin HKV.out.2.2 hg2 hr2
        have HR : Hid (∀ W, W = w1.alloc (.cells #[.int .i64 x, .slice a3 m3 c3] 122) → W.ownsRow (w.heap.size + 1) 122 2 u7 xs.length (xs.flatMap enE) ∧ W.rangeAt w1.heap.size 0 (enE (x, a3, m3, c3)) ∧ w.heap.size + 1 ≤ W.heap.size ∧ w1.grownBy W u7.ownBlock) := fun W e => by
          subst e
          exact ⟨s1.alloc _, (lb_new w1 (enE (x, a3, m3, c3)) 122).range, Nat.le_trans s3 (up0 _ _).size, grown_none (up0 _ _) _⟩
        have HM : Hid (cnt1 < cnt ∧ wr.rangeLeft b w.heap.size = cnt ∧ xs.length ≤ 10000000) := ⟨hlt, HH.out.rg.left_eq, by have := HH.out.cn; have := HKV.out.2.1; omega⟩
        clear hlx hrg1 hlt hg1 hkv hwx hoi s1 s2 s3 hin
        go_wp2_with (at_builtin; refine wpList_appE _ rfl (.tmp 28) (.tmp 32) 119 rfl (w.heap.size + 1) hinE Try.underlying119 u7 xs.length (xs.flatMap enE) rfl (HR.out _ rfl).1 w1.heap.size 1 1 (enE (x, a3, m3, c3)) rfl (HR.out _ rfl).2.1 rfl (by intro u hu; simp [enE, lsE] at hu; rcases hu with rfl | rfl <;> rfl) (by have := HM.out.2.2; omega) (HR.out _ rfl).2.2.1 ?_)
        intro v3 w3 hr3 hg3
        have H3 : Hid (HL w base b n kvs lo hi (fun z => left z && !z.sameKey (.int .i64 x)) cnt1 (xs ++ [(x, a3, m3, c3)]) v3 w3) := HA.out w3 v3 ((HR.out _ rfl).2.2.2.trans hg3) hr3
        clear HA HR hr3 hg3 hen
        go_wp2_with fail
        go_roundw
        case rel => exact ⟨_, _, _, H3.out⟩
        case measure =>
          rw [H3.out.rg.left_eq, HM.out.2.1]
          exact HM.out.1
      · have H3 : Hid (HL w base b n kvs lo hi (fun z => left z && !z.sameKey (.int .i64 x)) cnt1 xs u7 w1) := HH.out.skip hlx hrg1 hlt hg1 hin
        have HM : Hid (cnt1 < cnt ∧ wr.rangeLeft b w.heap.size = cnt) := ⟨hlt, HH.out.rg.left_eq⟩
        clear hlx hrg1 hlt hg1 hkv hwx hoi
        by_cases h1 : lo ≤ x
        · have h1' : (lo ≤ x) = True := by simp [h1]
          have h2 : (x ≤ hi) = False := by simp only [eq_iff_iff, iff_false]; exact fun e => hin ⟨h1, e⟩
          clear hin h1
          go_wp2_with fail
          go_roundw
          case rel => exact ⟨_, _, _, H3.out⟩
          case measure =>
            rw [H3.out.rg.left_eq, HM.out.2]
            exact HM.out.1
        · have h1' : (lo ≤ x) = False := by simp only [eq_iff_iff, iff_false]; exact h1
          clear hin h1
          go_wp2_with fail
          go_roundw
          case rel => exact ⟨_, _, _, H3.out⟩
          case measure =>
            rw [H3.out.rg.left_eq, HM.out.2]
            exact HM.out.1
end Go.Proofs.Ytceokpklcfmadaa

/-
  Package index: Range's iterator.
-/
namespace Go.Proofs.Ytceokpklcfmadaa
open Go Go.RowKit Go.ChangeShapes
open Wb

/-- what a round of a loop over an index keeps: all cells but those of fx, and rows of tb -/
structure KpI (fx : Nat → Prop) (tb : TypeId) (W W' : World) : Prop where
  os : W'.os = W.os
  tape : W'.tape = W.tape
  output : W'.output = W.output
  size : W.heap.size ≤ W'.heap.size
  keep : ∀ k cs t z, W.heap[k]? = some (.cells cs t z) → t ≠ tb → ¬ fx k → W'.heap[k]? = some (.cells cs t z)
section
variable {fx : Nat → Prop} {tb : TypeId} {W W' W2 : World}
theorem KpI.trans (h : KpI fx tb W W') (h2 : KpI fx tb W' W2) : KpI fx tb W W2 := ⟨h2.os.trans h.os, h2.tape.trans h.tape, h2.output.trans h.output, Nat.le_trans h.size h2.size, fun k cs t z e h3 h4 => h2.keep k cs t z (h.keep k cs t z e h3 h4) h3 h4⟩
theorem KpI.row (h : KpI fx tb W W') {B : Nat} {e : TypeId} {s n : Nat} {v : Value} {xs : List Value} (ho : W.ownsRow B e s v n xs) (he : e ≠ tb) (hf : ∀ g, v.ownBlock = some g → ¬ fx g) : W'.ownsRow B e s v n xs := by
  refine ⟨ho.1, ?_⟩
  rcases ho.2 with h1 | ⟨g, cap, cur, rfl, hb, hh, rest⟩
  · exact .inl h1
  · exact .inr ⟨g, cap, cur, rfl, hb, h.keep g cur e (0, 0) hh he (hf g rfl), rest⟩
theorem KpI.ints (h : KpI fx tb W W') {B : Nat} {e : TypeId} {q : IntKind} {v : Value} {zs : List Int} (ho : W.ownsInts B e q v zs) (he : e ≠ tb) (hf : ∀ g, v.ownBlock = some g → ¬ fx g) : W'.ownsInts B e q v zs := ⟨h.row ho.1 he hf, ho.2⟩
theorem KpI.lb (h : KpI fx tb W W') {g : Nat} {t : TypeId} {D : List Value} (L : LB W g t D) (ht : t ≠ tb) (hf : ¬ fx g) : LB W' g t D := h.keep g D.toArray t (0, 0) L ht hf
theorem KpI.of (h : Below W.heap.size W W') : KpI fx tb W W' := ⟨h.os, h.tape, h.output, h.size, fun k _cs _t _z e _ _ => (h.block k (Array.getElem?_eq_some_iff.1 e).1).trans e⟩
end
/-- a key and a number -/
abbrev PI := { p : Int × Int // (Lit.int .i64 p.1).wf = true ∧ (Lit.int .i64 p.2).wf = true }
def encsP (x : PI) : Array Value := #[.int .i64 x.1.1, .int .i64 x.1.2]
/-- keys and numbers, by rising key -/
def prs (kvs : Ix.Gm) : List (Int × Int) := kvs.flatMap fun p => p.2.map fun v => (p.1, v)
def prE (kvs : Ix.Gm) (es : List Ent) : List (Int × Int) := es.flatMap fun x => (Ix.get kvs x.1).map fun v => (x.1, v)
theorem prE_within {kvs : Ix.Gm} (h : Ix.rising kvs) (lo hi : Int) (es : List Ent) (he : es.map (·.1) = (within kvs lo hi).map (·.1)) : prE kvs es = prs (within kvs lo hi) := by
  have e1 : prE kvs es = (es.map (·.1)).flatMap fun k => (Ix.get kvs k).map fun v => (k, v) := by
    unfold prE
    rw [List.flatMap_map]
  rw [e1, he]
  unfold prs
  rw [List.flatMap_map]
  rw [List.flatMap_def, List.flatMap_def]
  refine congrArg List.flatten (List.map_congr_left fun p hp => ?_)
  have hm : p ∈ kvs := (List.mem_filter.1 hp).1
  rw [Ix.get_mem h (show (p.1, p.2) ∈ kvs from hm)]
/-- what the iterator reads -/
structure It (base B : Nat) (kvs : Ix.Gm) (es : List Ent) (v : Value) (wr : World) : Prop where
  row : wr.ownsRow B 122 2 v es.length (es.flatMap enE)
  ent : ∀ x ∈ es, wr.ownsInts base 3 .i64 (lsE x) (Ix.get kvs x.1)
theorem It.below {base B : Nat} {kvs : Ix.Gm} {es : List Ent} {v : Value} {wr w2 : World} (h : It base B kvs es v wr) (hb : Below wr.heap.size wr w2) : It base B kvs es v w2 := ⟨h.row.kept (grown_none hb none) (by cases v.ownBlock <;> simp), fun x hx => (h.ent x hx).kept (grown_none hb none) (by cases (lsE x).ownBlock <;> simp)⟩
theorem It.kp {base B : Nat} {kvs : Ix.Gm} {es : List Ent} {v : Value} {wr w2 : World} {fx : Nat → Prop} {tb : TypeId} (h : It base B kvs es v wr) (hk : KpI fx tb wr w2) (h1 : 122 ≠ tb) (h2 : 3 ≠ tb) (h3 : ∀ g, v.ownBlock = some g → ¬ fx g) (h4 : ∀ x ∈ es, ∀ g, (lsE x).ownBlock = some g → ¬ fx g) : It base B kvs es v w2 := ⟨hk.row h.row h1 h3, fun x hx => hk.ints (h.ent x hx) h2 (h4 x hx)⟩
theorem prE_take (kvs : Ix.Gm) (es : List Ent) (i : Nat) (x : Ent) (h : es[i]? = some x) : prE kvs (es.take (i + 1)) = prE kvs (es.take i) ++ (Ix.get kvs x.1).map fun v => (x.1, v) := by
  unfold prE
  rw [List.take_add_one, h, Option.toList_some, List.flatMap_append, List.flatMap_singleton]
theorem prE_lt (kvs : Ix.Gm) (es : List Ent) (i j : Nat) (x : Ent) (h : es[i]? = some x) (hj : j < (Ix.get kvs x.1).length) : (prE kvs (es.take i) ++ ((Ix.get kvs x.1).take j).map fun v => (x.1, v)).length < (prE kvs es).length ∧ ((prE kvs (es.take i) ++ ((Ix.get kvs x.1).take (j + 1)).map fun v => (x.1, v)) <+: prE kvs es) := by
  have e : prE kvs es = prE kvs (es.take (i + 1)) ++ prE kvs (es.drop (i + 1)) := by
    unfold prE
    rw [← List.flatMap_append, List.take_append_drop]
  rw [e, prE_take kvs es i x h]
  constructor
  · simp only [List.length_append, List.length_map, List.length_take]
    omega
  · rw [List.append_assoc]
    refine List.prefix_append_right_inj _ |>.2 (List.IsPrefix.trans ?_ (List.prefix_append _ _))
    rw [List.map_take]
    exact List.take_prefix _ _
set_option maxRecDepth 100000 in
set_option maxHeartbeats 4000000 in
theorem ixrange1_in (m l : Nat) (fx : Nat → Prop) (tb : TypeId) (g b base n : Nat) (kvs : Ix.Gm) (lo hi : Int) (bm blo bhi : Nat) (W : World) (h : MI W g b base n kvs) (hk : kvs.length ≤ 10000000) (c1 : W.cell? ⟨bm, 0, none⟩ = some (.pointer (some ⟨g, 0, none⟩))) (c2 : W.cell? ⟨blo, 0, none⟩ = some (.int .i64 lo)) (c3 : W.cell? ⟨bhi, 0, none⟩ = some (.int .i64 hi)) (hfx : ∀ k, fx k → k < W.heap.size ∧ ¬ Mrow W b k) (ht1 : 122 ≠ tb) (ht2 : 3 ≠ tb)
    (J Jx : List PI → World → Prop) (hJ : AbidesFrom W.heap.size J)
    (hY : ∀ pre x W1, J pre W1 → pre.length < (prs (within kvs lo hi)).length → YieldAt Fence.wide (m - 1) Try.prog l (encsP x) W1 fun e W' => (e = .returned (.bool true) ∧ J (pre ++ [x]) W' ∧ KpI fx tb W1 W') ∨ (e = .returned (.bool false) ∧ Jx (pre ++ [x]) W')) (h0 : J [] W) :
    CallsIn Fence.wide m Try.prog 57 #[.func (.yield l) #[] #[], .pointer (some ⟨bm, 0, none⟩), .pointer (some ⟨blo, 0, none⟩), .pointer (some ⟨bhi, 0, none⟩)] W fun e W' => (∃ v, e = .returned v) ∧ ((∃ xs : List PI, xs.map (·.1) = prs (within kvs lo hi) ∧ J xs W') ∨ (∃ pre : List PI, pre.map (·.1) <+: prs (within kvs lo hi) ∧ Jx pre W')) := by
  have HH : Hid (CallsIn Fence.wide (m - 1) Try.prog 58 #[.pointer (some ⟨g, 0, none⟩), .int .i64 lo, .int .i64 hi] W fun e w' => HdPost kvs base b lo hi W e w') := callsIn_wide.2 (ixheld_any g b base n kvs lo hi W h hk)
  have HJ : Hid (∀ s A B, J s A → Below A.heap.size A B → A.heap.size ≤ B.heap.size → J s B) := fun s A B hs hb _ => hJ s A B none hs (grown_none hb none) (fun r e => by cases e)
  have HF : Hid (∀ k, fx k → k < W.heap.size ∧ ¬ Mrow W b k) := hfx
  have HM : Hid (MI W g b base n kvs) := h
  have HJ0 : Hid (J [] W) := h0
  clear h hk hfx hJ h0
  refine callsIn_of_wp Try.func57 rfl trivial ?_ rfl
  simp only [Try.ntmps57, List.size_toArray, List.length_cons, List.length_nil, Nat.reduceAdd, Nat.reduceSub, Array.replicate_succ, Array.replicate_zero, List.push_toArray, List.append_toArray, List.nil_append, List.cons_append]
  gi_wp2
  refine ⟨trivial, (fun h => by cases h), HH.out.mono ?_⟩
  rintro e W1 ⟨es, v, rfl, hrow, hkeys, hent, hbel⟩
  obtain ⟨av, cv, rfl, hcv1, hcv2⟩ : ∃ av, ∃ cv : Nat, v = .slice av es.length cv ∧ es.length ≤ cv ∧ cv ≤ maxLen := by
    rcases hrow.2 with ⟨rfl, e0⟩ | ⟨g7, c7, cur7, rfl, -, -, h1, h2, -⟩
    · exact ⟨none, 0, by rw [e0], by omega, Nat.zero_le _⟩
    · exact ⟨_, _, rfl, h1, h2⟩
  unfold maxLen at hcv2
  have HI0 : Hid (It base (W.heap.size + 1) kvs es (.slice av es.length cv) W1 ∧ J [] W1 ∧ W.heap.size ≤ W1.heap.size) := ⟨⟨hrow, fun x hx => (hent x hx).1.1.kept (grown_none hbel none) (by cases (lsE x).ownBlock <;> simp)⟩, HJ.out _ _ _ HJ0.out hbel hbel.size, hbel.size⟩
  have HP : Hid (prE kvs es = prs (within kvs lo hi)) := prE_within HM.out.ris lo hi es hkeys
  have HX : Hid ((∀ g, (Value.slice av es.length cv).ownBlock = some g → ¬ fx g) ∧ (∀ x ∈ es, ∀ g, (lsE x).ownBlock = some g → ¬ fx g) ∧ ∀ x ∈ es, (Lit.int .i64 x.1).wf = true ∧ ∀ z ∈ Ix.get kvs x.1, (Lit.int .i64 z).wf = true) := ⟨fun g e hf => by
    have := (HF.out g hf).1
    have := (World.ownsRow.lt hrow g e).1
    omega, fun x hx g e hf => by
    exact (HF.out g hf).2 ((hent x hx).1.2 g e), fun x hx => ⟨(hent x hx).2, (hent x hx).1.1.2⟩⟩
  clear hrow hkeys hent hbel HH HJ0
  gi_wp2
  gi_loopw [14] (fun iv wr => ∃ (i : Nat) (pre : List PI), i ≤ es.length ∧ iv = .int .i64 (i : Int) ∧ pre.map (·.1) = prE kvs (es.take i) ∧ J pre wr ∧ It base (W.heap.size + 1) kvs es (.slice av es.length cv) wr ∧ W.heap.size ≤ wr.heap.size) (fun iv _ => es.length - (intOf iv).toNat)
  case atStart => exact ⟨0, [], Nat.zero_le _, rfl, rfl, HI0.out.2.1, HI0.out.1, HI0.out.2.2⟩
  case round =>
    clear HI0
    obtain ⟨i, pre, hile, rfl, hpre, hJp, hit, hsz⟩ := hrel
    by_cases hlt : i < es.length
    · obtain ⟨x, hx⟩ : ∃ x, es[i]? = some x := ⟨es[i], List.getElem?_eq_getElem hlt⟩
      obtain ⟨k0, a0, m0, c0⟩ := x
      have hxm := List.mem_of_getElem? hx
      obtain ⟨g7, rfl⟩ : ∃ g7, av = some ⟨g7, 0, none⟩ := by
        rcases hit.row.2 with ⟨e, e0⟩ | ⟨g7, c7, cur7, e, -⟩
        · omega
        · simp only [Value.slice.injEq] at e
          exact ⟨g7, e.1⟩
      have y0 : wr.cell? ⟨g7, i * 2, none⟩ = some (.int .i64 k0) := by
        have e := World.ownsRow.cellAt hit.row (i * 2) (by omega)
        rw [e, fmE_get, show i * 2 / 2 = i by omega, hx, show i * 2 % 2 = 0 by omega]
        rfl
      have y1 : wr.cell? ⟨g7, i * 2 + 1, none⟩ = some (.slice a0 m0 c0) := by
        have e := World.ownsRow.cellAt hit.row (i * 2 + 1) (by omega)
        rw [e, fmE_get, show (i * 2 + 1) / 2 = i by omega, hx, show (i * 2 + 1) % 2 = 1 by omega]
        rfl
      obtain ⟨zs, hzs⟩ : ∃ zs, Ix.get kvs k0 = zs := ⟨_, rfl⟩
      have hoi : wr.ownsInts base 3 .i64 (.slice a0 m0 c0) zs := by
        have := hit.ent _ hxm
        rw [show (k0, a0, m0, c0).1 = k0 from rfl, hzs] at this
        exact this
      obtain ⟨hm0, hc0⟩ : m0 = zs.length ∧ c0 ≤ maxLen ∧ m0 ≤ c0 := by
        rcases hoi.1.2 with ⟨e, e0⟩ | ⟨gl, cl, curl, e, -, -, h1, h2, -⟩
        · simp only [Value.slice.injEq] at e
          exact ⟨by omega, by rw [e.2.2]; exact Nat.zero_le _, by omega⟩
        · simp only [Value.slice.injEq] at e
          exact ⟨e.2.1, by rw [e.2.2]; exact h2, by omega⟩
      subst hm0
      obtain ⟨hc1, hc2⟩ := hc0
      unfold maxLen at hc1
      have HZ : Hid (Ix.get kvs k0 = zs ∧ es[i]? = some (k0, a0, zs.length, c0)) := ⟨hzs, hx⟩
      have HW : Hid (∀ z ∈ zs, (Lit.int .i64 k0).wf = true ∧ (Lit.int .i64 z).wf = true) := fun z hz => ⟨(HX.out.2.2 _ hxm).1, (HX.out.2.2 _ hxm).2 z (by rw [show (k0, a0, zs.length, c0).1 = k0 from rfl, hzs]; exact hz)⟩
      obtain ⟨gE, hgE⟩ : ∃ gE, wr.heap.size = gE := ⟨_, rfl⟩
      have H2 : Hid (∀ W2, W2 = wr.alloc (.cells #[.int .i64 k0, .slice a0 zs.length c0] 122) → J pre W2 ∧ It base (W.heap.size + 1) kvs es (.slice (some ⟨g7, 0, none⟩) es.length cv) W2 ∧ LB W2 gE 122 [.int .i64 k0, .slice a0 zs.length c0] ∧ W.heap.size ≤ W2.heap.size) := fun W2 e => by
        subst e
        exact ⟨HJ.out _ _ _ hJp (up0 _ _) (up0 _ _).size, hit.below (up0 _ _), by rw [← hgE]; exact lb_new wr [.int .i64 k0, .slice a0 zs.length c0] 122, Nat.le_trans hsz (up0 _ _).size⟩
      have HG : Hid (¬ fx gE ∧ pre.map (·.1) = prE kvs (es.take i)) := ⟨fun hf => by have := (HF.out _ hf).1; omega, hpre⟩
      clear hoi hzs hxm hx hpre hJp hit hsz
      gi_wp2
      gi_loopw [21] (fun jv w3 => ∃ (j : Nat) (qre : List PI), j ≤ zs.length ∧ jv = .int .i64 (j : Int) ∧ qre.map (·.1) = prE kvs (es.take i) ++ (zs.take j).map (fun v => (k0, v)) ∧ J qre w3 ∧ It base (W.heap.size + 1) kvs es (.slice (some ⟨g7, 0, none⟩) es.length cv) w3 ∧ LB w3 gE 122 [.int .i64 k0, .slice a0 zs.length c0] ∧ W.heap.size ≤ w3.heap.size) (fun jv _ => zs.length - (intOf jv).toNat)
      case atStart => exact ⟨0, pre, Nat.zero_le _, rfl, by rw [HG.out.2]; simp, (H2.out _ rfl).1, (H2.out _ rfl).2.1, (H2.out _ rfl).2.2.1, (H2.out _ rfl).2.2.2⟩
      case round =>
        clear H2 y0 y1 hgE
        obtain ⟨j, qre, hj, rfl, hqre, hJq, hit, hE, hsz⟩ := hrel
        by_cases hjl : j < zs.length
        · obtain ⟨z, hz⟩ : ∃ z, zs[j]? = some z := ⟨zs[j], List.getElem?_eq_getElem hjl⟩
          have hoi : wr.ownsInts base 3 .i64 (.slice a0 zs.length c0) zs := by
            have := hit.ent _ (List.mem_of_getElem? HZ.out.2)
            rw [show (k0, a0, zs.length, c0).1 = k0 from rfl, HZ.out.1] at this
            exact this
          obtain ⟨gl, rfl⟩ : ∃ gl, a0 = some ⟨gl, 0, none⟩ := by
            rcases hoi.1.2 with ⟨e, e0⟩ | ⟨gl, cl, curl, e, -⟩
            · omega
            · simp only [Value.slice.injEq] at e
              exact ⟨gl, e.1⟩
          have z0 : wr.cell? ⟨gl, j, none⟩ = some (.int .i64 z) := by
            have e := World.ownsRow.cellAt hoi.1 j (by omega)
            rw [e, List.getElem?_map, hz]
            rfl
          have e0 := hE.cell 0 _ rfl
          have hlen := prE_lt kvs es i j _ HZ.out.2 (by rw [show (k0, some (⟨gl, 0, none⟩ : Addr), zs.length, c0).1 = k0 from rfl, HZ.out.1]; exact hjl)
          rw [show (k0, some (⟨gl, 0, none⟩ : Addr), zs.length, c0).1 = k0 from rfl, HZ.out.1, HP.out] at hlen
          have hql : qre.length < (prs (within kvs lo hi)).length := by
            have e := congrArg List.length hqre
            rw [List.length_map] at e
            rw [e]
            exact hlen.1
          have hw := HW.out z (List.mem_of_getElem? hz)
          obtain ⟨fn, tmps, assign, body, hy, hR⟩ := hY qre ⟨(k0, z), hw⟩ wr hJq hql
          unfold encsP at hy
          dsimp only at hy
          have HR : Hid (RoundIn Fence.wide (m - 1) Try.prog l fn tmps assign body wr fun e W' => (e = .returned (.bool true) ∧ J (qre ++ [⟨(k0, z), hw⟩]) W' ∧ KpI fx tb wr W') ∨ (e = .returned (.bool false) ∧ Jx (qre ++ [⟨(k0, z), hw⟩]) W')) := hR
          have HQ : Hid ((qre ++ [(⟨(k0, z), hw⟩ : PI)]).map (·.1) = prE kvs (es.take i) ++ (zs.take (j + 1)).map (fun v => (k0, v)) ∧ (prE kvs (es.take i) ++ (zs.take (j + 1)).map (fun v => (k0, v))) <+: prs (within kvs lo hi)) := ⟨by
            rw [List.map_append, hqre, List.take_add_one, hz, Option.toList_some, List.map_append, List.append_assoc]
            rfl, hlen.2⟩
          have HI : Hid (It base (W.heap.size + 1) kvs es (.slice (some ⟨g7, 0, none⟩) es.length cv) wr ∧ LB wr gE 122 [.int .i64 k0, .slice (some ⟨gl, 0, none⟩) zs.length c0] ∧ W.heap.size ≤ wr.heap.size) := ⟨hit, hE, hsz⟩
          clear hR hoi hlen hql hqre hJq hit hE hsz hz
          gi_wp2
          refine ⟨(fun h => by cases h), HR.out.mono ?_⟩
          rintro e W4 (⟨rfl, hJ4, hk4⟩ | ⟨rfl, hJx4⟩)
          · have H4 : Hid (J (qre ++ [⟨(k0, z), hw⟩]) W4 ∧ It base (W.heap.size + 1) kvs es (.slice (some ⟨g7, 0, none⟩) es.length cv) W4 ∧ LB W4 gE 122 [.int .i64 k0, .slice (some ⟨gl, 0, none⟩) zs.length c0] ∧ W.heap.size ≤ W4.heap.size) := ⟨hJ4, HI.out.1.kp hk4 ht1 ht2 HX.out.1 HX.out.2.1, hk4.lb HI.out.2.1 ht1 HG.out.1, Nat.le_trans HI.out.2.2 hk4.size⟩
            clear hJ4 hk4 HR HI z0 e0
            gi_wp2
            go_roundw
            case rel => exact ⟨j + 1, qre ++ [⟨(k0, z), hw⟩], by omega, by go_num, HQ.out.1, H4.out.1, H4.out.2.1, H4.out.2.2.1, H4.out.2.2.2⟩
            case measure => simp [intOf]; omega
          · have H4 : Hid (Jx (qre ++ [⟨(k0, z), hw⟩]) W4) := hJx4
            clear hJx4 HR HI z0 e0
            gi_wp2
            go_returns
            exact ⟨⟨_, rfl⟩, .inr ⟨qre ++ [⟨(k0, z), hw⟩], by rw [HQ.out.1]; exact HQ.out.2, H4.out⟩⟩
        · obtain rfl : j = zs.length := by omega
          have H4 : Hid (qre.map (·.1) = prE kvs (es.take (i + 1)) ∧ J qre wr ∧ It base (W.heap.size + 1) kvs es (.slice (some ⟨g7, 0, none⟩) es.length cv) wr ∧ W.heap.size ≤ wr.heap.size) := ⟨by
            rw [hqre, List.take_length, prE_take kvs es i _ HZ.out.2, show (k0, a0, zs.length, c0).1 = k0 from rfl, HZ.out.1], hJq, hit, hsz⟩
          clear hqre hJq hit hE hsz
          gi_wp2
          go_roundw
          case rel => exact ⟨i + 1, qre, by omega, by go_num, H4.out.1, H4.out.2.1, H4.out.2.2.1, H4.out.2.2.2⟩
          case measure => simp [intOf]; omega
    · obtain rfl : i = es.length := by omega
      rw [List.take_length] at hpre
      have HE : Hid ((pre.map (·.1) = prE kvs es) ∧ J pre wr) := ⟨hpre, hJp⟩
      clear hpre hJp hit hsz
      gi_wp2
      go_returns
      exact ⟨⟨_, rfl⟩, .inl ⟨pre, by rw [← HP.out]; exact HE.out.1, HE.out.2⟩⟩
end Go.Proofs.Ytceokpklcfmadaa
