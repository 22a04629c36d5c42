/-
  Package index: laid, intact.
-/
import Derived.Test.YtneiokjpbfgioaaIxg
import Derived.Maps.AppendAt
namespace Go.Proofs.Ytneiokjpbfgioaa
open Go Go.RowKit
open Wb

/-- append(v, x...) of bytes onto a row of the call's own, and where it lies -/
theorem wpList_append_at {P : Program} (w : World) {ops : Array Oper} {rest : List Oper} {o : Oper} {a : Act} {Q : Exit → Act → World → Prop} (hgd : o.guard = none) (s x : Operand) (t : TypeId)
    (ho : o.op = .call { callee := .builtin .append, args := #[s, x], argTypes := #[t, t] })
    (B : Nat) (hinfo : (P.info? 5).map (fun i => (i.zero, i.size, i.bytes)) = some (some (.int .u8 0), 1, 1)) (ht : P.underlying t = some (.slice 5))
    (v : Value) (l : List Nat) (hv : a.eval s = v) (h : Wb.Own B w v l) (xv : Value) (m : List Nat) (hx : a.eval x = xv) (hm : Bs w xv m)
    (hmax : l.length + m.length ≤ 140737488355328) (hB : B ≤ w.heap.size)
    (hK : ∀ v' w', Wb.Own B w' v' (l ++ m) → w.grownBy w' v.ownBlock → (v'.ownBlock = v.ownBlock ∨ v'.ownBlock = some w.heap.size) → wpList P ops Q rest (a.put o.dst v') w') : wpList P ops Q (o :: rest) a w := by
  obtain ⟨i0, hi, hz0, hz1, hz2⟩ := info_parts hinfo
  obtain ⟨ao, cap, rfl, hl, hmx, hn, hc⟩ := hm.shape
  cases ao with
  | none =>
    obtain rfl := hn rfl
    have h0 : m = [] := List.eq_nil_of_length_eq_zero (by omega)
    subst h0
    refine wpList_append_own_none hgd s x t ho B 5 i0 1 ht hi v l.length (bv l) hv h.row hx ?_
    exact hK v w (by simpa using h) (World.grownBy.refl _ _) (.inl rfl)
  | some ad =>
    refine wpList_append_own_at w hgd s x t ho B 5 i0 (.int .u8 0) 1 1 ht hi hz0 hz1 hz2 rfl (by decide) v l.length (bv l) hv h.row ad m.length cap (bv m) hx (by rw [bv_length, Nat.mul_one]) ?_ (bv_one m) (by unfold maxLen; omega) (by omega) hB ?_
    · intro j u hj
      have hjl : j < m.length := by have := (List.getElem?_eq_some_iff.1 hj).1; rwa [bv_length] at this
      obtain ⟨b, off, e, hcell⟩ := hc (List.ne_nil_of_length_pos (by omega))
      obtain rfl := Option.some.inj e
      rw [bv_get m j hjl] at hj
      rw [Addr.add_lit, hcell j hjl]
      exact hj
    · intro v' w' h1 h2 _ h4
      refine hK v' w' ⟨?_, ok_append h.good hm.good⟩ h2 h4
      rw [List.length_append, bv_append]
      exact h1
theorem own_slice {B : Nat} {w : World} {v : Value} {l : List Nat} (h : Wb.Own B w v l) : ∃ a, ∃ n c : Nat, v = .slice a n c := by
  obtain ⟨a, c, e, _⟩ := h.bs.shape
  exact ⟨a, _, c, e⟩
def marksB : List Nat := [201, 202, 203, 204, 205]
set_option maxRecDepth 100000 in
set_option maxHeartbeats 4000000 in
theorem ixlaid_any (v : Value) (b : List Nat) (w : World) (h : Bs w v b) (hl : b.length ≤ 2000000) :
    Calls Try.prog 23 #[v] w fun e w' => ∃ ao, ∃ cap : Nat, e = .returned (.slice ao b.length cap) ∧ Wb.Own w.heap.size w' (.slice ao (b.length + 5) cap) (b ++ marksB) ∧ Below w.heap.size w w' := by
  have hin := info5
  have HB : Hid (Bs w v b) := h
  obtain ⟨ab, cb, rfl, _⟩ := h.shape
  clear h
  go_enter Try.func23, Try.ntmps23
  go_wp2_with (at_builtin; refine wpList_append_at _ rfl (.tmp 4) (.tmp 5) 40 rfl w.heap.size hin Try.underlying40 _ [] rfl (Wb.Own.nil _ _) _ b rfl HB.out (by simp; omega) (Nat.le_refl _) ?_)
  intro v1 w1 ho1 g1 hat1
  obtain ⟨a1, n1, c1, e1⟩ := own_slice ho1
  subst e1
  have HO1 : Hid (∀ o, Wb.Own w.heap.size (w1.alloc o) (.slice a1 n1 c1) b ∧ w.heap.size ≤ (w1.alloc o).heap.size ∧ Below w.heap.size w (w1.alloc o)) := fun o => by
    have hb : Below w.heap.size w w1 := (Below.refl _ _).grown g1 (Nat.le_refl _) (fun q hq => by cases hq)
    exact ⟨(by simpa using ho1 : Wb.Own w.heap.size w1 (.slice a1 n1 c1) b).kept (up0 _ _), (up hb o).size, up hb o⟩
  have HLT : Hid (∀ t, Bs (w1.alloc (.cells #[.int .u8 201, .int .u8 202, .int .u8 203, .int .u8 204, .int .u8 205] t)) (.slice (some ⟨w1.heap.size, 0, none⟩) 5 5) marksB) := fun t => by
    refine ⟨⟨_, 5, rfl, by decide, by decide, fun e => (by cases e), fun _ => ⟨_, 0, rfl, fun j hj => ?_⟩⟩, fun x hx => by simp [marksB] at hx; omega⟩
    rw [World.cell?_alloc_new w1 _ t (0 + j)]
    have hj5 : j < 5 := hj
    match j, hj5 with
    | 0, _ => rfl
    | 1, _ => rfl
    | 2, _ => rfl
    | 3, _ => rfl
    | 4, _ => rfl
  clear ho1 g1 hat1 HB
  go_wp2_with (at_builtin; refine wpList_append_at _ rfl (.tmp 7) (.tmp 8) 40 rfl w.heap.size hin Try.underlying40 _ b rfl (HO1.out _).1 _ marksB rfl (HLT.out _) (by simp [marksB]; omega) (HO1.out _).2.1 ?_)
  intro v2 w2 ho2 g2 hat2
  have HB2 : Hid (Below w.heap.size w w2) := (HO1.out _).2.2.grown g2 (HO1.out _).2.1 (fun q hq => (World.ownsRow.lt (HO1.out (.cells #[.int .u8 201, .int .u8 202, .int .u8 203, .int .u8 204, .int .u8 205] 5)).1.row q hq).1)
  obtain ⟨a2, c2, e2, hc1, hc2, -, -⟩ := ho2.bs.shape
  subst e2
  have hl5 : (b ++ marksB).length = b.length + 5 := by simp [marksB]
  have HO2 : Hid (Wb.Own w.heap.size w2 (.slice a2 (b.length + 5) c2) (b ++ marksB)) := by
    show Wb.Own _ _ _ _
    rw [← hl5]
    exact ho2
  rw [hl5] at hc1 ⊢
  unfold maxLen at hc2
  clear ho2 g2 hat2 HO1 HLT hl5
  go_wp2
  go_ret
  exact ⟨_, _, rfl, HO2.out, HB2.out⟩
set_option maxRecDepth 100000 in
set_option maxHeartbeats 4000000 in
theorem ixintact_yes (ao : Option Addr) (cap : Nat) (v2 : Value) (b : List Nat) (w : World) (h : Bs w (.slice ao (b.length + 5) cap) (b ++ marksB)) (h2 : Bs w v2 b) (hl : b.length ≤ 2000000) :
    Calls Try.prog 24 #[.slice ao b.length cap, v2] w fun e w' => e = .returned (.bool true) ∧ Below w.heap.size w w' := by
  have hl5 : (b ++ marksB).length = b.length + 5 := by simp [marksB]
  have HH : Hid (Bs w (.slice ao b.length cap) b) := by
    have h9 := h
    rw [← hl5] at h9
    have h8 := ixbs_take h9 b.length (by omega)
    rw [List.take_left] at h8
    exact h8
  have HSB : Hid (Calls Try.prog 21 #[.slice ao b.length cap, v2] w fun e w'' => e = .returned (.bool true) ∧ Below w.heap.size w w'') := by
    have h9 := ixsameb_any (.slice ao b.length cap) v2 b b w HH.out h2
    rw [decide_eq_true rfl] at h9
    exact h9
  obtain ⟨ao', cap', e, hc1, hc2, -, hcc⟩ := h.shape
  rw [hl5] at e hc1
  simp only [Value.slice.injEq] at e
  obtain ⟨rfl, -, rfl⟩ := e
  obtain ⟨gb, off, rfl, hcell⟩ := hcc (fun e => by have := congrArg List.length e; rw [hl5] at this; simp at this)
  have HC : Hid (∀ (k : Nat) (w' : World), k < 5 → Below w.heap.size w w' → w'.cell? ⟨gb, off + (b.length + k), none⟩ = some (.int .u8 (201 + (k : Int)))) := fun k w' hk hb => by
    have h1 := hcell (b.length + k) (by omega)
    have h2 : (b ++ marksB)[b.length + k]'(by omega) = 201 + k := by
      rw [List.getElem_append_right (by omega)]
      have : ∀ j (hj : j < marksB.length), marksB[j] = 201 + j := by decide
      rw [this]
      omega
    rw [h2] at h1
    have h3 := World.block_lt_of_cell? w _ h1
    rw [World.cell?_of_block (a := ⟨gb, off + (b.length + k), none⟩) (hb.block _ h3), h1]
    simp
  obtain ⟨a2, c2, rfl, hd1, hd2, -, -⟩ := h2.shape
  unfold maxLen at hc2 hd2
  clear h h2 hcc hcell HH hl5
  go_enter Try.func24, Try.ntmps24
  go_wp2_with (go_at_call 21; refine HSB.out.mono ?_; rintro e w1 ⟨rfl, b1⟩)
  clear HSB
  go_loopw [6] (fun i wr => ∃ k : Nat, k ≤ 5 ∧ i = .int .i64 (k : Int) ∧ Below w.heap.size w wr) (fun i _ => 5 - (intOf i).toNat)
  case atStart => exact ⟨0, by omega, rfl, b1⟩
  case round =>
    obtain ⟨k, hk, rfl, hbel⟩ := hrel
    by_cases hlt : k < 5
    · have hk5 : (k : Int) < 5 := by omega
      have c := HC.out k wr hlt hbel
      have hw : IntKind.wrap .u8 (IntKind.wrap .i64 (201 + (k : Int))) = 201 + (k : Int) := by unfold IntKind.wrap; simp [IntKind.bits, IntKind.signed]; omega
      have HBL : Hid (Below w.heap.size w wr) := hbel
      clear hbel b1 HC
      go_wp2
      go_roundw
      case rel => exact ⟨k + 1, by omega, by go_num, HBL.out⟩
      case measure => simp [intOf]; omega
    · obtain rfl : k = 5 := by omega
      clear b1 HC
      go_wp2
      go_ret
      exact ⟨rfl, hbel⟩
end Go.Proofs.Ytneiokjpbfgioaa
