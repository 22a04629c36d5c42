/-
  Package index: held, the walk.
-/
import Derived.Test.YtceokpklcfmadaaIx7
import Derived.Shelf.SlSortCmp.NoneTotal
namespace Go.Proofs.Ytceokpklcfmadaa
open Go Go.RowKit Go.ChangeShapes
open Wb

theorem ixsort_none (p : Option Addr) (cap : Nat) (fv : Value) (w : World) : Calls Try.prog 67 #[.slice p 0 cap, fv] w fun e w' => e = .returned (.tuple #[]) ∧ w' = w := by
  have h := AnyF.slices_SortFunc_none laysSortF p cap fv w
  exact h
/-- an entry has come -/
structure NX (w : World) (base b n : Nat) (kvs : Ix.Gm) (left : Lit → Bool) (cnt : Nat) (wr : World) (x : Int) (a : Option Addr) (m c : Nat) (cnt1 : Nat) (w1 : World) : Prop where
  lx : left (.int .i64 x) = true
  kv : ∃ l, (x, l) ∈ kvs
  wx : (Lit.int .i64 x).wf = true
  oi : w.ownsInts base 3 .i64 (.slice a m c) (Ix.get kvs x) ∧ ∀ q, (Value.slice a m c).ownBlock = some q → Mrow w b q
  rg : w1.ranges Try.prog 3 (rowE w base b) b w.heap.size n (Ix.dm kvs) (fun z => left z && !z.sameKey (.int .i64 x)) cnt1
  lt : cnt1 < cnt
  gr : wr.grownBy w1 (some w.heap.size)
  en : (Instr.entry (.pointer (some ⟨w.heap.size, 0, none⟩))).run Try.prog w1 = .ok (.tuple #[.int .i64 x, .slice a m c]) w1
def Left0 (left : Lit → Bool) : Prop := ∀ kl, left kl = false
theorem wpList_nextI (wr : World) {ops : Array Oper} {rest : List Oper} {o : Oper} {a : Act} {Q : Exit → Act → World → Prop} (hg : o.guard = none) (it : Operand) (hop : o.op = Op.next it false) (w : World) (base b n : Nat) (kvs : Ix.Gm) (left : Lit → Bool) (cnt : Nat)
    (hit : a.eval it = .pointer (some ⟨w.heap.size, 0, none⟩)) (h : wr.ranges Try.prog 3 (rowE w base b) b w.heap.size n (Ix.dm kvs) left cnt)
    (hDone : Left0 left → wpList Try.prog ops Q rest (a.put o.dst (.tuple #[.bool false])) wr)
    (hMore : ∀ (x : Int) (ad : Option Addr) (m c cnt1 : Nat) (w1 : World), NX w base b n kvs left cnt wr x ad m c cnt1 w1 → wpList Try.prog ops Q rest (a.put o.dst (.tuple #[.bool true, .int .i64 x, .slice ad m c])) w1) :
    wpList Try.prog ops Q (o :: rest) a wr :=
  wpList_next_ranges wr hg it hop 3 lawI (rowE w base b) (Value.int .i64) (fun c : Option Addr × Nat × Nat => .slice c.1 c.2.1 c.2.2) (fun key kl hkey => by obtain ⟨x, rfl, _⟩ := Maps.keyOf_int_inv Try.underlying3 hkey; exact ⟨x, rfl⟩) (fun v y hv => by obtain ⟨zs, ho, -⟩ := rowElem_inv (rowE_inv hv).1; exact ints_shape ho) b w.heap.size n _ _ _ hit h (fun _ hl => hDone hl) (fun x c kl y w1 cnt1 hkey hlx hR hat hrg1 hlt hg1 _ hen => by
    obtain ⟨x', ex, rfl, hwx⟩ := Maps.keyOf_int_inv Try.underlying3 hkey
    cases ex
    obtain ⟨hkv, hoi⟩ := key_at hR hat
    exact hMore x c.1 c.2.1 c.2.2 cnt1 w1 ⟨hlx, hkv, hwx, hoi, hrg1, hlt, hg1, hen⟩)
set_option maxRecDepth 100000 in
set_option maxHeartbeats 4000000 in
theorem ixheld_any (g b base n : Nat) (kvs : Ix.Gm) (lo hi : Int) (w : World) (h : MI w g b base n kvs) (hk : kvs.length ≤ 10000000) :
    Calls Try.prog 58 #[.pointer (some ⟨g, 0, none⟩), .int .i64 lo, .int .i64 hi] w fun e w' => HdPost kvs base b lo hi w e w' := by
  have hinE := infoE
  have HOW : Hid (w.ownsMap Try.prog 3 (rowE w base b) b n (Ix.dm kvs)) := h.ownsE
  have HKV : Hid (Ix.rising kvs ∧ kvs.length ≤ 10000000 ∧ b < w.heap.size) := ⟨h.ris, hk, h.blt.2⟩
  have x0 := h.box.cell 0 _ rfl
  have HSZ : Hid (Maps.size (Ix.dm kvs) = kvs.length) := by
    show _ = _
    unfold Ix.dm
    rw [Maps.size_eq, List.length_map]
  clear h hk
  go_enter Try.func58, Try.ntmps58
  go_wp2_with (at_range; refine wpList_range_own _ rfl _ 97 rfl 3 35 lawI Try.underlying97 _ b n _ rfl HOW.out ?_; intro w0 hrg0 hg0 hs0)
  go_frame
  have HL0 : Hid (HL w base b n kvs lo hi (Maps.has (Ix.dm kvs)) (Maps.size (Ix.dm kvs)) [] (.slice none 0 0) w0) := by
    refine ⟨hrg0, World.ownsRow_nil _ _ _ _, fun k => ?_, List.nodup_nil, (fun x hx => nomatch hx), (fun x hx => nomatch hx), by rw [HSZ.out]; simp, ⟨hg0.os, hg0.tape, hg0.output, hg0.size, fun k hk => hg0.block k hk (by simp)⟩, by rw [hs0]; exact Nat.le_refl _⟩
    constructor
    · intro hk
      cases hk
    · rintro ⟨h1, h2, -⟩
      rw [(has_dm k).2 h1] at h2
      cases h2
  clear hrg0 hg0 hs0 x0
  go_loopw [7] (fun o wr => ∃ (left : Lit → Bool) (cnt : Nat) (xs : List Ent), HL w base b n kvs lo hi left cnt xs o wr) (fun _ wr => wr.rangeLeft b w.heap.size)
  case atStart => exact ⟨_, _, _, HL0.out⟩
  case round =>
    clear HL0
    obtain ⟨left, cnt, xs, hL⟩ := hrel
    have HH : Hid (HL w base b n kvs lo hi left cnt xs u7 wr) := hL
    clear hL
    go_wp2_with (at_next; refine wpList_nextI _ rfl _ rfl w base b n kvs left cnt rfl HH.out.rg ?_ ?_)
    · intro hl0
      have HE : Hid (∀ kl, left kl = false) := hl0
      clear hl0
      rcases HH.out.row.2 with ⟨e7, e0⟩ | ⟨g7, c7, cur7, e7, -⟩
      · have HX : Hid (xs = []) := List.eq_nil_of_length_eq_zero e0
        subst e7
        have HS : Hid (Calls Try.prog 67 #[.slice none 0 0, .func (.func 68) #[] #[]] wr fun e w' => e = .returned (.tuple #[]) ∧ w' = wr) := ixsort_none none 0 _ wr
        clear e0
        go_wp2_with fail
        refine HS.out.mono ?_
        rintro e w5 ⟨rfl, rfl⟩
        clear HS
        go_wp2_with fail
        go_ret
        obtain ⟨k1, k2⟩ := HH.out.ends HKV.out.1 HE.out [] (by rw [HX.out]) List.Pairwise.nil
        exact ⟨[], _, rfl, World.ownsRow_nil _ _ _ _, k1, k2, HH.out.bel⟩
      · subst e7
        have HS : Hid (Calls Try.prog 67 #[.slice (some ⟨g7, 0, none⟩) xs.length c7, .func (.func 68) #[] #[]] wr fun e w' => e = .returned (.tuple #[]) ∧ ∃ ys : List Ent, ys.Perm xs ∧ ys.Pairwise (fun a b => a.1 < b.1) ∧ w'.ownsRow (w.heap.size + 1) 122 2 (.slice (some ⟨g7, 0, none⟩) xs.length c7) xs.length (ys.flatMap enE) ∧ wr.grownBy w' (some g7)) := ixsort_any _ g7 c7 xs wr HH.out.row (by have := HH.out.cn; have := HKV.out.2.1; omega) HH.out.nd
        go_wp2_with fail
        refine HS.out.mono ?_
        rintro e w5 ⟨rfl, ys, hp, hs, hr5, hg5⟩
        have H5 : Hid (ys.Perm xs ∧ ys.Pairwise (fun a b => a.1 < b.1) ∧ w5.ownsRow (w.heap.size + 1) 122 2 (.slice (some ⟨g7, 0, none⟩) xs.length c7) xs.length (ys.flatMap enE) ∧ Below w.heap.size w w5) := ⟨hp, hs, hr5, HH.out.bel.grown hg5 HH.out.bel.size fun k e => by
          have := (World.ownsRow.lt HH.out.row g7 rfl).1
          have := Option.some.inj e
          omega⟩
        clear HS hp hs hr5 hg5
        go_wp2_with fail
        go_ret
        obtain ⟨k1, k2⟩ := HH.out.ends HKV.out.1 HE.out ys H5.out.1 H5.out.2.1
        exact ⟨ys, _, rfl, by rw [H5.out.1.length_eq]; exact H5.out.2.2.1, k1, k2, H5.out.2.2.2⟩
    · intro x a3 m3 c3 cnt1 w1 hnx
      obtain ⟨hlx, hkv, hwx, hoi, hrg1, hlt, hg1, hen⟩ := hnx
      by_cases hin : lo ≤ x ∧ x ≤ hi
      · have h1 : (lo ≤ x) = True := by simp [hin.1]
        have h2 : (x ≤ hi) = True := by simp [hin.2]
        obtain ⟨s1, s2, s3⟩ := HH.out.step hrg1 hg1
        have HA : Hid (∀ w2 o2, w1.grownBy w2 u7.ownBlock → w2.ownsRow (w.heap.size + 1) 122 2 o2 (xs.length + 1) (xs.flatMap enE ++ enE (x, a3, m3, c3)) → HL w base b n kvs lo hi (fun z => left z && !z.sameKey (.int .i64 x)) cnt1 (xs ++ [(x, a3, m3, c3)]) o2 w2) := fun w2 o2 hg2 hr2 => HH.out.push (c := (a3, m3, c3)) hkv hwx hoi hlx hrg1 hlt hg1 hin HKV.out.2.2 hg2 hr2
        have HR : Hid (∀ W, W = w1.alloc (.cells #[.int .i64 x, .slice a3 m3 c3] 122) → W.ownsRow (w.heap.size + 1) 122 2 u7 xs.length (xs.flatMap enE) ∧ W.rangeAt w1.heap.size 0 (enE (x, a3, m3, c3)) ∧ w.heap.size + 1 ≤ W.heap.size ∧ w1.grownBy W u7.ownBlock) := fun W e => by
          subst e
          exact ⟨s1.alloc _, (lb_new w1 (enE (x, a3, m3, c3)) 122).range, Nat.le_trans s3 (up0 _ _).size, grown_none (up0 _ _) _⟩
        have HM : Hid (cnt1 < cnt ∧ wr.rangeLeft b w.heap.size = cnt ∧ xs.length ≤ 10000000) := ⟨hlt, HH.out.rg.left_eq, by have := HH.out.cn; have := HKV.out.2.1; omega⟩
        clear hlx hrg1 hlt hg1 hkv hwx hoi s1 s2 s3 hin
        go_wp2_with (at_builtin; refine wpList_appE _ rfl (.tmp 28) (.tmp 32) 119 rfl (w.heap.size + 1) hinE Try.underlying119 u7 xs.length (xs.flatMap enE) rfl (HR.out _ rfl).1 w1.heap.size 1 1 (enE (x, a3, m3, c3)) rfl (HR.out _ rfl).2.1 rfl (by intro u hu; simp [enE, lsE] at hu; rcases hu with rfl | rfl <;> rfl) (by have := HM.out.2.2; omega) (HR.out _ rfl).2.2.1 ?_)
        intro v3 w3 hr3 hg3
        have H3 : Hid (HL w base b n kvs lo hi (fun z => left z && !z.sameKey (.int .i64 x)) cnt1 (xs ++ [(x, a3, m3, c3)]) v3 w3) := HA.out w3 v3 ((HR.out _ rfl).2.2.2.trans hg3) hr3
        clear HA HR hr3 hg3 hen
        go_wp2_with fail
        go_roundw
        case rel => exact ⟨_, _, _, H3.out⟩
        case measure =>
          rw [H3.out.rg.left_eq, HM.out.2.1]
          exact HM.out.1
      · have H3 : Hid (HL w base b n kvs lo hi (fun z => left z && !z.sameKey (.int .i64 x)) cnt1 xs u7 w1) := HH.out.skip hlx hrg1 hlt hg1 hin
        have HM : Hid (cnt1 < cnt ∧ wr.rangeLeft b w.heap.size = cnt) := ⟨hlt, HH.out.rg.left_eq⟩
        clear hlx hrg1 hlt hg1 hkv hwx hoi
        by_cases h1 : lo ≤ x
        · have h1' : (lo ≤ x) = True := by simp [h1]
          have h2 : (x ≤ hi) = False := by simp only [eq_iff_iff, iff_false]; exact fun e => hin ⟨h1, e⟩
          clear hin h1
          go_wp2_with fail
          go_roundw
          case rel => exact ⟨_, _, _, H3.out⟩
          case measure =>
            rw [H3.out.rg.left_eq, HM.out.2]
            exact HM.out.1
        · have h1' : (lo ≤ x) = False := by simp only [eq_iff_iff, iff_false]; exact h1
          clear hin h1
          go_wp2_with fail
          go_roundw
          case rel => exact ⟨_, _, _, H3.out⟩
          case measure =>
            rw [H3.out.rg.left_eq, HM.out.2]
            exact HM.out.1
end Go.Proofs.Ytceokpklcfmadaa
