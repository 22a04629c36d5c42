/-
  The reference of manifest: numbers.
-/
import Derived.Test.YtfccimacloagiaaDoorMq2
import Derived.Test.YtfccimacloagiaaDoorFrx
namespace Go.Proofs.YtfccimacloagiaaDoor
open Go Go.RowKit
open Wb

def iv (ns : List Int) : List Value := ns.map fun n => Value.int .i64 n
/-- numbers in a row of the call's own -/
def RowN (B : Nat) (w : World) (v : Value) (ns : List Int) : Prop := w.ownsRow B 3 1 v ns.length (iv ns)
theorem infoTI8m : (Tryd.prog.info? 3).map (fun i => (i.zero, i.size, i.bytes)) = some (some (.int .i64 0), 1, 8) := by kernel_rfl
theorem RowN.at {B : Nat} {w : World} {v : Value} {ns : List Int} (h : RowN B w v ns) : IntsAt w v ns := by
  have h0 := h
  unfold RowN at h
  rcases h.2 with ⟨rfl, h1⟩ | ⟨g, cap, cur, rfl, _, hh, h1, h2, h3, h4⟩
  · obtain rfl : ns = [] := List.eq_nil_of_length_eq_zero h1
    exact ⟨none, 0, rfl, Nat.le_refl _, Nat.zero_le _, fun k n hn => by simp at hn⟩
  · refine ⟨some ⟨g, 0, none⟩, cap, rfl, h1, h2, fun k n hn => ⟨g, 0, rfl, (Array.getElem?_eq_some_iff.1 hh).1, ?_⟩⟩
    have hk := (List.getElem?_eq_some_iff.1 hn).1
    rw [Nat.zero_add, World.ownsRow.cellAt h0 k (by omega)]
    simp [iv, hn]
theorem RowN.block {B : Nat} {w w' : World} {v : Value} {ns : List Int} (h : RowN B w v ns) (hg : ∀ g, v.ownBlock = some g → w'.heap[g]? = w.heap[g]?) : RowN B w' v ns := by
  unfold RowN at h ⊢
  refine ⟨h.1, ?_⟩
  rcases h.2 with h1 | ⟨g, cap, cur, e, hb, hh, rest⟩
  · exact .inl h1
  · exact .inr ⟨g, cap, cur, e, hb, (hg g (by rw [e]; rfl)).trans hh, rest⟩
theorem RowN.kept {B : Nat} {w w' : World} {v : Value} {ns : List Int} (h : RowN B w v ns) (hb : Below w.heap.size w w') : RowN B w' v ns := h.block fun g hg => hb.block g (World.ownsRow.lt h g hg).2
theorem RowN.lit (w : World) (ns : List Int) (cs : Array Value) (hcs : cs.toList = iv ns) (hm : ns.length ≤ 1000) : RowN w.heap.size (w.alloc (.cells cs 3)) (.slice (some ⟨w.heap.size, 0, none⟩) ns.length ns.length) ns := by
  have h := World.ownsRow_lit (base := w.heap.size) (e := 3) (size := 1) w cs ns.length (Nat.le_refl _) (by unfold maxLen; omega) (by rw [← Array.length_toList, hcs]; simp [iv])
  rw [hcs] at h
  exact h
theorem RowN.weak {B B2 : Nat} {w : World} {v : Value} {ns : List Int} (h : RowN B2 w v ns) (hB : B ≤ B2) : RowN B w v ns := by
  unfold RowN at h ⊢
  refine ⟨h.1, ?_⟩
  rcases h.2 with h1 | ⟨g, cap, cur, e, hb, rest⟩
  · exact .inl h1
  · exact .inr ⟨g, cap, cur, e, Nat.le_trans hB hb, rest⟩
theorem rowN_slice {B : Nat} {w : World} {v : Value} {ns : List Int} (h : RowN B w v ns) : ∃ a, ∃ c : Nat, v = .slice a ns.length c := by
  obtain ⟨a, c, e, _⟩ := h.at
  exact ⟨a, c, e⟩
theorem wpList_append_ints {P : Program} (w : World) {ops : Array Oper} {rest : List Oper} {o : Oper} {a : Act} {Q : Exit → Act → World → Prop} (hgd : o.guard = none) (s x : Operand) (t : TypeId)
    (ho : o.op = .call { callee := .builtin .append, args := #[s, x], argTypes := #[t, t] })
    (B : Nat) (hinfo : (P.info? 3).map (fun i => (i.zero, i.size, i.bytes)) = some (some (.int .i64 0), 1, 8)) (ht : P.underlying t = some (.slice 3))
    (v : Value) (l : List Int) (hv : a.eval s = v) (h : RowN B w v l) (g : Nat) (ms : List Int) (hx : a.eval x = .slice (some ⟨g, 0, none⟩) ms.length ms.length)
    (hc : ∀ j u, (iv ms)[j]? = some u → w.cell? ⟨g, j, none⟩ = some u) (hmax : l.length + ms.length ≤ 100000) (hB : B ≤ w.heap.size)
    (hK : ∀ v' w', RowN B w' v' (l ++ ms) → w.grownBy w' v.ownBlock → wpList P ops Q rest (a.put o.dst v') w') : wpList P ops Q (o :: rest) a w := by
  obtain ⟨i0, hi, hz0, hz1, hz2⟩ := info_partsM hinfo
  refine wpList_append_own_at w hgd s x t ho B 3 i0 _ 1 8 ht hi hz0 hz1 hz2 rfl (by decide) v l.length (iv l) hv h ⟨g, 0, none⟩ ms.length ms.length (iv ms) hx (by simp [iv]) ?_ ?_ (by unfold maxLen; omega) (by omega) hB ?_
  · intro j u hj
    rw [Addr.add_lit, Nat.zero_add]
    exact hc j u hj
  · intro u hu
    simp only [iv, List.mem_map] at hu
    obtain ⟨z, _, rfl⟩ := hu
    rfl
  · intro v' w' h2 h3 _ _
    refine hK v' w' ?_ h3
    unfold RowN
    rw [List.length_append]
    have e : iv (l ++ ms) = iv l ++ iv ms := by simp [iv]
    rw [e]
    exact h2
set_option maxRecDepth 100000 in
set_option maxHeartbeats 8000000 in
theorem numbers_any (m : Mf) (v : Value) (w : World) (h : SgsAt w v m.l) (hc : chkM m = 0) :
    Calls Tryd.prog 33 #[mfv m v] w fun e w' => ∃ v', e = .returned v' ∧ RowN w.heap.size w' v' (numsM m) ∧ Below w.heap.size w w' := by
  have hin := infoTI8m
  have HIS : Hid ((Tryd.prog.info? 46).map (·.size) = some 3) := infoSg
  have HSA : Hid (∀ w', Below w.heap.size w w' → SgsAt w' v m.l) := fun w' hb => h.kept hb
  obtain ⟨p1, p2, p3, p4, p5, p6, p7, p8, p9, p10⟩ := chk_parts hc
  have HFT : Hid (Fits 0 m.l) := fits_of m.x p6 m.l 0 p10
  obtain ⟨ao, cap, rfl, hc1, hc2, _⟩ := h
  unfold maxLen at hc2
  obtain ⟨g, vv, x, t, l⟩ := m
  unfold mfv numsM
  simp only at HSA p1 p2 p3 p4 p5 p6 p7 p8 p9 HFT hc1 ⊢
  clear hc p10
  obtain ⟨W, hW⟩ : ∃ W, W = w.alloc (.cells #[.int .i64 g, .int .i64 vv, .int .i64 x, .int .i64 t, .slice ao l.length cap] 24) := ⟨_, rfl⟩
  have HWE : Hid (W = w.alloc (.cells #[.int .i64 g, .int .i64 vv, .int .i64 x, .int .i64 t, .slice ao l.length cap] 24) ∧ W.heap.size = w.heap.size + 1) := ⟨hW, by rw [hW, heap1]⟩
  have HMB : Hid (∀ w', Below W.heap.size W w' → w'.cell? ⟨w.heap.size, 4, none⟩ = some (.slice ao l.length cap)) := fun w' hb => by
    have h9 : Mb W w.heap.size ⟨g, vv, x, t, []⟩ (.slice ao l.length cap) := by rw [hW]; exact mb_new w ⟨g, vv, x, t, []⟩ _ 24
    exact (h9.block (hb.block _ (by rw [hW, heap1]; omega))).cells.2.2.2.2
  have HBW : Hid (∀ w', Below W.heap.size W w' → Below w.heap.size w w') := fun w' hb => andThen (by rw [hW]; exact up0 w _) hb
  have HR0 : Hid (RowN W.heap.size (W.alloc (.cells #[.int .i64 g, .int .i64 vv, .int .i64 x, .int .i64 t, .int .i64 (l.length : Int)] 3)) (.slice (some ⟨W.heap.size, 0, none⟩) 5 5) [g, vv, x, t, (l.length : Int)]) := RowN.lit W [g, vv, x, t, (l.length : Int)] _ rfl (by simp)
  clear hW
  go_enter Tryd.func33, Tryd.ntmps33
  go_wp2
  rw [show w.heap.size + 1 = W.heap.size from HWE.out.2.symm, ← HWE.out.1]
  go_loopw [3, 4, 5] (fun o la i wr => ∃ (k : Nat) (bef : Int) (cb : List Int), k ≤ l.length ∧ i = .int .i64 (k : Int) ∧ la = .int .i64 bef ∧ 0 ≤ bef ∧ bef ≤ 1099511627776 ∧ Fits bef (l.drop k) ∧ cb ++ sgNums bef (l.drop k) = g :: vv :: x :: t :: (l.length : Int) :: sgNums 0 l ∧ cb.length = 5 + 3 * k ∧ RowN W.heap.size wr o cb ∧ Below W.heap.size W wr) (fun _ _ i _ => l.length - (intOf i).toNat)
  case atStart => exact ⟨0, 0, _, Nat.zero_le _, rfl, rfl, by omega, by omega, HFT.out, rfl, rfl, HR0.out, up0 _ _⟩
  case round =>
    obtain ⟨k, bef, cb, hk, rfl, rfl, hb0, hbn, hft, hcb, hcl, ho, hbel⟩ := hrel
    have q4 := HMB.out _ hbel
    have HCL : Hid (cb.length = 5 + 3 * k) := hcl
    clear HR0 HWE hcl
    by_cases hlt : k < l.length
    · obtain ⟨s, hsk⟩ : ∃ s, l[k]? = some s := ⟨l[k], List.getElem?_eq_getElem hlt⟩
      have HD : Hid (l.drop k = s :: l.drop (k + 1)) := by
        show _ = _
        rw [List.drop_eq_getElem_cons hlt]
        congr 1
        rw [List.getElem?_eq_getElem hlt] at hsk
        exact Option.some.inj hsk
      rw [HD.out] at hft hcb
      obtain ⟨f1, f2, f3, f4, f5, f6, f7⟩ := fits_cons hft
      obtain ⟨ao', cap', e', _, _, hcr⟩ := HSA.out _ (HBW.out _ hbel)
      simp only [Value.slice.injEq] at e'
      obtain ⟨rfl, _, rfl⟩ := e'
      obtain ⟨b, off, rfl, hrg⟩ := hcr k s hsk
      obtain ⟨n, z, c⟩ := s
      simp only [sgNums] at f1 f2 f3 f4 f5 f6 f7 hcb
      have HR0 : Hid (wr.rangeAt b (off + k * 3) [.int .i64 n, .int .i64 z, .int .i64 c]) := hrg
      have HCB : Hid (cb ++ [n - bef, z, c] ++ sgNums n (l.drop (k + 1)) = g :: vv :: x :: t :: (l.length : Int) :: sgNums 0 l) := by
        show _ = _
        rw [← hcb]
        simp
      have HO : Hid (∀ o1 o2, RowN W.heap.size ((wr.alloc o1).alloc o2) u3 cb ∧ Below W.heap.size W ((wr.alloc o1).alloc o2) ∧ W.heap.size ≤ ((wr.alloc o1).alloc o2).heap.size) := fun o1 o2 => ⟨(ho.kept (up0 _ _)).kept (up0 _ _), up (up hbel _) _, (up (up hbel _) _).size⟩
      have HU : Hid (∀ q, u3.ownBlock = some q → W.heap.size ≤ q ∧ q < wr.heap.size) := fun q hq => World.ownsRow.lt ho q hq
      have HC3 : Hid (∀ o1 t j u, (iv [n - bef, z, c])[j]? = some u → ((wr.alloc o1).alloc (.cells #[.int .i64 (n - bef), .int .i64 z, .int .i64 c] t)).cell? ⟨wr.heap.size + 1, j, none⟩ = some u) := fun o1 t j u hj => by
        have h9 := World.cell?_alloc_new (wr.alloc o1) #[.int .i64 (n - bef), .int .i64 z, .int .i64 c] t j
        rw [heap1] at h9
        rw [h9]
        simpa [iv] using hj
      obtain ⟨a3, c3, e3⟩ := rowN_slice ho
      subst e3
      have hmx : cb.length + [n - bef, z, c].length ≤ 100000 := by rw [HCL.out]; simp; omega
      clear hcr hsk hrg ho hft hcb HD HSA
      go_wp2_with (first
        | (refine wpList_load_mid rfl 46 _ rfl b (off + k * 3) rfl [.int .i64 n, .int .i64 z, .int .i64 c] _ HR0.out Tryd.underlying46 rfl HIS.out ?_)
        | (at_builtin; refine wpList_append_ints _ rfl (.tmp 31) (.tmp 40) 59 rfl W.heap.size hin Tryd.underlying59 _ cb rfl (HO.out _ _).1 (wr.heap.size + 1) [n - bef, z, c] rfl (HC3.out _ _) hmx (HO.out _ _).2.2 ?_))
      intro v4 w4 ho4 g4
      have hl4 : w4.cell? ⟨wr.heap.size, 0, none⟩ = some (.int .i64 n) := by
        have h1 := g4.block wr.heap.size (by rw [heap1, heap1]; omega) (fun e => by have := (HU.out _ e.symm).2; omega)
        rw [World.cell?_of_block (a := ⟨wr.heap.size, 0, none⟩) h1]
        exact ((up0 (wr.alloc _) _).cell (p := ⟨wr.heap.size, 0, none⟩) (by show wr.heap.size < (wr.alloc _).heap.size; rw [heap1]; omega)).trans (World.cell?_alloc_new wr _ _ 0)
      have R : Hid (RowN W.heap.size w4 v4 (cb ++ [n - bef, z, c]) ∧ Below W.heap.size W w4) := ⟨ho4, (HO.out _ _).2.1.grown g4 (HO.out _ _).2.2 (fun q hq => (HU.out q hq).1)⟩
      obtain ⟨a4, c4, e4⟩ := rowN_slice ho4
      subst e4
      clear ho4 g4 HO HC3 HR0 HU hbel q4
      go_wp2
      go_roundw
      case rel => exact ⟨k + 1, n, _, by omega, by go_num, rfl, by omega, by omega, f7, HCB.out, by rw [List.length_append, HCL.out]; simp; omega, R.out.1, R.out.2⟩
      case measure => simp [intOf]; omega
    · obtain rfl : k = l.length := by omega
      rw [List.drop_length] at hcb
      simp only [sgNums, List.append_nil] at hcb
      subst hcb
      have HB := HBW.out _ hbel
      have HS : Hid (w.heap.size ≤ W.heap.size) := (HBW.out _ (Below.refl _ _)).size
      clear hbel hft HSA
      go_wp2
      go_ret
      exact ⟨_, rfl, ho.weak HS.out, HB⟩
end Go.Proofs.YtfccimacloagiaaDoor
