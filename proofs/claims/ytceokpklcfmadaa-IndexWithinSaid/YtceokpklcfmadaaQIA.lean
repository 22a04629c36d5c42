import Derived.Maps.AppendAt
import Derived.Test.YtceokpklcfmadaaQI9
/-
  Package index: laid, intact.
-/
namespace Go.Proofs.Ytceokpklcfmadaa
open Go Go.RowKit
open Wb

/-- append(v, x...) of bytes onto a row of the call's own, and where it lies -/
theorem wpList_append_at {P : Program} (w : World) {ops : Array Oper} {rest : List Oper} {o : Oper} {a : Act} {Q : Exit → Act → World → Prop} (hgd : o.guard = none) (s x : Operand) (t : TypeId)
    (ho : o.op = .call { callee := .builtin .append, args := #[s, x], argTypes := #[t, t] })
    (B : Nat) (hinfo : (P.info? 5).map (fun i => (i.zero, i.size, i.bytes)) = some (some (.int .u8 0), 1, 1)) (ht : P.underlying t = some (.slice 5))
    (v : Value) (l : List Nat) (hv : a.eval s = v) (h : Wb.Own B w v l) (xv : Value) (m : List Nat) (hx : a.eval x = xv) (hm : Bs w xv m)
    (hmax : l.length + m.length ≤ 140737488355328) (hB : B ≤ w.heap.size)
    (hK : ∀ v' w', Wb.Own B w' v' (l ++ m) → w.grownBy w' v.ownBlock → (v'.ownBlock = v.ownBlock ∨ v'.ownBlock = some w.heap.size) → wpList P ops Q rest (a.put o.dst v') w') : wpList P ops Q (o :: rest) a w := by
  obtain ⟨i0, hi, hz0, hz1, hz2⟩ := info_parts hinfo
  obtain ⟨ao, cap, rfl, hl, hmx, hn, hc⟩ := hm.shape
  cases ao with
  | none =>
    obtain rfl := hn rfl
    have h0 : m = [] := List.eq_nil_of_length_eq_zero (by omega)
    subst h0
    refine wpList_append_own_none hgd s x t ho B 5 i0 1 ht hi v l.length (bv l) hv h.row hx ?_
    exact hK v w (by simpa using h) (World.grownBy.refl _ _) (.inl rfl)
  | some ad =>
    refine wpList_append_own_at w hgd s x t ho B 5 i0 (.int .u8 0) 1 1 ht hi hz0 hz1 hz2 rfl (by decide) v l.length (bv l) hv h.row ad m.length cap (bv m) hx (by rw [bv_length, Nat.mul_one]) ?_ (bv_one m) (by unfold maxLen; omega) (by omega) hB ?_
    · intro j u hj
      have hjl : j < m.length := by have := (List.getElem?_eq_some_iff.1 hj).1; rwa [bv_length] at this
      obtain ⟨b, off, e, hcell⟩ := hc (List.ne_nil_of_length_pos (by omega))
      obtain rfl := Option.some.inj e
      rw [bv_get m j hjl] at hj
      rw [Addr.add_lit, hcell j hjl]
      exact hj
    · intro v' w' h1 h2 _ h4
      refine hK v' w' ⟨?_, ok_append h.good hm.good⟩ h2 h4
      rw [List.length_append, bv_append]
      exact h1
theorem own_slice {B : Nat} {w : World} {v : Value} {l : List Nat} (h : Wb.Own B w v l) : ∃ a, ∃ n c : Nat, v = .slice a n c := by
  obtain ⟨a, c, e, _⟩ := h.bs.shape
  exact ⟨a, _, c, e⟩
def marksB : List Nat := [201, 202, 203, 204, 205]
end Go.Proofs.Ytceokpklcfmadaa

/-
  Package index: Len.
-/
namespace Go.Proofs.Ytceokpklcfmadaa
open Go Go.RowKit Go.ChangeShapes
open Wb

namespace Ix
/-- how many numbers stand at the keys that are behind -/
def sumL (kvs : Gm) (left : Lit → Bool) : Nat := (kvs.map fun p => if left (.int .i64 p.1) = true then 0 else p.2.length).sum
def total (kvs : Gm) : Nat := (kvs.map fun p => p.2.length).sum
theorem sumL_le : ∀ (kvs : Gm) (left : Lit → Bool), sumL kvs left ≤ total kvs
  | [], _ => Nat.le_refl _
  | p :: r, left => by
    have h := sumL_le r left
    unfold sumL total at h ⊢
    rw [List.map_cons, List.map_cons, List.sum_cons, List.sum_cons]
    split <;> omega
theorem sumL_all (kvs : Gm) (left : Lit → Bool) (h : ∀ kl, left kl = false) : sumL kvs left = total kvs := by
  unfold sumL total
  congr 1
  refine List.map_congr_left fun p _ => ?_
  rw [h]
  rfl
theorem sumL_none (left : Lit → Bool) : ∀ (kvs : Gm), (∀ p ∈ kvs, left (.int .i64 p.1) = true) → sumL kvs left = 0
  | [], _ => rfl
  | p :: r, h => by
    have ih := sumL_none left r fun q hq => h q (List.mem_cons_of_mem _ hq)
    unfold sumL at ih ⊢
    rw [List.map_cons, List.sum_cons, ih, if_pos (h p List.mem_cons_self)]
theorem sumL_step (left : Lit → Bool) (x : Int) (l : List Int) (hl : left (.int .i64 x) = true) : ∀ (kvs : Gm), rising kvs → (x, l) ∈ kvs → sumL kvs (fun z => left z && !z.sameKey (.int .i64 x)) = sumL kvs left + l.length
  | [], _, hm => nomatch hm
  | p :: r, hr, hm => by
    unfold rising at hr
    rw [List.pairwise_cons] at hr
    have e0 : ∀ q : Int × List Int, q.1 ≠ x → (left (.int .i64 q.1) && !(Lit.int .i64 q.1).sameKey (.int .i64 x)) = left (.int .i64 q.1) := fun q hq => by
      rw [same_ii, decide_eq_false hq]
      simp
    rcases List.mem_cons.1 hm with e | e
    · subst e
      have e1 : sumL r (fun z => left z && !z.sameKey (.int .i64 x)) = sumL r left := by
        unfold sumL
        congr 1
        refine List.map_congr_left fun q hq => ?_
        have := hr.1 q hq
        simp only [e0 q (by simp only at this; omega)]
      unfold sumL at e1 ⊢
      rw [List.map_cons, List.map_cons, List.sum_cons, List.sum_cons, e1]
      simp only
      rw [hl, same_ii]
      simp
      omega
    · have ih := sumL_step left x l hl r hr.2 e
      have := hr.1 _ e
      unfold sumL at ih ⊢
      rw [List.map_cons, List.map_cons, List.sum_cons, List.sum_cons, ih]
      simp only [e0 p (by simp only at this; omega)]
      omega
end Ix
/-- what Len has counted -/
structure LnS (w : World) (base b n : Nat) (kvs : Ix.Gm) (left : Lit → Bool) (cnt : Nat) (wr : World) : Prop where
  rg : wr.ranges Try.prog 3 (rowE w base b) b w.heap.size n (Ix.dm kvs) left cnt
  bel : Below w.heap.size w wr
set_option maxRecDepth 100000 in
set_option maxHeartbeats 4000000 in
theorem ixlen_any (g b base n : Nat) (kvs : Ix.Gm) (w : World) (h : MI w g b base n kvs) (hk : Ix.total kvs ≤ 1000000000000) :
    Calls Try.prog 14 #[.pointer (some ⟨g, 0, none⟩)] w fun e w' => e = .returned (.int .i64 (Ix.total kvs : Int)) ∧ Below w.heap.size w w' := by
  have HOW : Hid (w.ownsMap Try.prog 3 (rowE w base b) b n (Ix.dm kvs)) := h.ownsE
  have HKV : Hid (Ix.rising kvs) := h.ris
  have HT : Hid (∀ left, Ix.sumL kvs left ≤ Ix.total kvs) := Ix.sumL_le kvs
  have x0 := h.box.cell 0 _ rfl
  clear h
  go_enter Try.func14, Try.ntmps14
  go_wp2_with (at_range; refine wpList_range_own _ rfl _ 97 rfl 3 35 lawI Try.underlying97 _ b n _ rfl HOW.out ?_; intro w0 hrg0 hg0 hs0)
  go_frame
  have HL0 : Hid (LnS w base b n kvs (Maps.has (Ix.dm kvs)) (Maps.size (Ix.dm kvs)) w0 ∧ Ix.sumL kvs (Maps.has (Ix.dm kvs)) = 0) := ⟨⟨hrg0, ⟨hg0.os, hg0.tape, hg0.output, hg0.size, fun k hk => hg0.block k hk (by simp)⟩⟩, Ix.sumL_none _ kvs fun p hp => (has_dm p.1).2 ⟨p.2, hp⟩⟩
  clear hrg0 hg0 hs0 x0
  go_loopw [3] (fun o wr => ∃ (left : Lit → Bool) (cnt : Nat), o = .int .i64 (Ix.sumL kvs left : Int) ∧ LnS w base b n kvs left cnt wr) (fun _ wr => wr.rangeLeft b w.heap.size)
  case atStart => exact ⟨_, _, by rw [HL0.out.2]; rfl, HL0.out.1⟩
  case round =>
    clear HL0
    obtain ⟨left, cnt, rfl, hL⟩ := hrel
    have HH : Hid (LnS w base b n kvs left cnt wr) := hL
    clear hL
    go_wp2_with (at_next; refine wpList_nextI _ rfl _ rfl w base b n kvs left cnt rfl HH.out.rg ?_ ?_)
    · intro hl0
      have HE : Hid (Ix.sumL kvs left = Ix.total kvs) := Ix.sumL_all kvs left hl0
      clear hl0
      go_wp2_with fail
      go_ret
      exact ⟨by rw [HE.out]; rfl, HH.out.bel⟩
    · intro x a3 m3 c3 cnt1 w1 hnx
      obtain ⟨hlx, hkv, hwx, hoi, hrg1, hlt, hg1, hen⟩ := hnx
      have H3 : Hid (LnS w base b n kvs (fun z => left z && !z.sameKey (.int .i64 x)) cnt1 w1) := ⟨hrg1, HH.out.bel.grown hg1 HH.out.bel.size fun k e => by
        have := Option.some.inj e
        omega⟩
      have HM : Hid (cnt1 < cnt ∧ wr.rangeLeft b w.heap.size = cnt) := ⟨hlt, HH.out.rg.left_eq⟩
      have hs1 : Ix.sumL kvs (fun z => left z && !z.sameKey (.int .i64 x)) = Ix.sumL kvs left + m3 := by
        obtain ⟨l, hl⟩ := hkv
        rw [Ix.sumL_step left x l hlx kvs HKV.out hl]
        have e1 := Ix.get_mem HKV.out hl
        obtain ⟨a9, c9, e9, -⟩ := Ri.of hoi.1.1
        simp only [Value.slice.injEq] at e9
        rw [e9.2.1, e1]
      have hb2 := HT.out (fun z => left z && !z.sameKey (.int .i64 x))
      have HS : Hid (Ix.sumL kvs (fun z => left z && !z.sameKey (.int .i64 x)) = Ix.sumL kvs left + m3) := hs1
      rw [hs1] at hb2
      generalize Ix.sumL kvs left = s0 at *
      clear hlx hrg1 hlt hg1 hkv hwx hoi hs1
      go_wp2_with fail
      go_roundw
      case rel => exact ⟨_, _, by rw [HS.out]; go_num, H3.out⟩
      case measure =>
        rw [H3.out.rg.left_eq, HM.out.2]
        exact HM.out.1
end Go.Proofs.Ytceokpklcfmadaa
