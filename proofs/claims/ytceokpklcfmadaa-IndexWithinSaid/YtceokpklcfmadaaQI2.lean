import Derived.BigQuiet
import Derived.Deep.QuietTactic
import Derived.Test.YtceokpklcfmadaaQI1
import Derived.Test.YtceokpklcfmadaaQW1
/-
  Package index: New; the reader's number, key.
-/
namespace Go.Proofs.Ytceokpklcfmadaa
open Go Go.RowKit Go.ChangeShapes
open Wb

namespace Ix
/-- what number reads at a place: the number, where it ends, the error -/
def nm (l : List Nat) (p : Nat) : Nat × Nat × Nat := ((Wn.rd (l.drop p) 0 0).1, (if (Wn.rd (l.drop p) 0 0).2.2 = 0 then p + (Wn.rd (l.drop p) 0 0).2.1 else p), (Wn.rd (l.drop p) 0 0).2.2)
theorem nm_ru (l : List Nat) (p : Nat) (hp : p ≤ l.length) : (∃ er, er ≠ 0 ∧ er ≤ 12 ∧ nm l p = (0, p, er) ∧ Wn.ru l (p : Int) = (0, 0, er)) ∨ ∃ v q, p < q ∧ q ≤ l.length ∧ nm l p = (v, q, 0) ∧ Wn.ru l (p : Int) = (v, (q : Int), 0) ∧ Wn.rd (l.drop p) 0 0 = (v, q - p, 0) := by
  obtain ⟨v, n, e, hr⟩ : ∃ v n e, Wn.rd (l.drop p) 0 0 = (v, n, e) := ⟨_, _, _, rfl⟩
  have hru := Wn.ru_in l p hp v n e hr
  by_cases he : e = 0
  · subst he
    have h1 := Wn.rd_len _ _ _ _ _ hr
    rw [List.length_drop] at h1
    refine .inr ⟨v, p + n, by omega, by omega, ?_, ?_, ?_⟩
    · unfold nm
      rw [hr]
      simp
    · rw [hru, if_pos rfl]
    · rw [hr]
      simp
  · have h1 := Wn.rd_err _ _ _ _ _ _ hr he
    refine .inl ⟨e, he, h1.2.2, ?_, ?_⟩
    · unfold nm
      rw [hr, h1.1]
      simp [he]
    · rw [hru, if_neg he, h1.1]
end Ix
theorem bel_drewI {B : Nat} {a w : World} (h : Below B a w) (n : Nat) : Below B a (w.drewN n) := h.trans ⟨rfl, rfl, rfl, Nat.le_refl _, fun _ _ => rfl⟩
theorem LB.other' {w w' : World} {g : Nat} {t : TypeId} {D : List Value} {row : Option Nat} (h : LB w g t D) (hg : w.grownBy w' row) (hne : row ≠ some g) : LB w' g t D := (hg.block g h.lt fun e => hne e.symm).trans h
set_option maxRecDepth 100000 in
theorem ixnew_any (w : World) : Calls Try.prog 9 #[] w fun e w' => e = .returned (.pointer (some ⟨w.heap.size + 1, 0, none⟩)) ∧ MI w' (w.heap.size + 1) w.heap.size (w.heap.size + 2) 0 [] ∧ Below w.heap.size w w' ∧ ∀ q, ¬ Mrow w' w.heap.size q := by
  have hmm := @run_makeMap Try.prog
  have HW : Hid (∀ W, W = (w.alloc (.map #[] 0)).alloc (.cells #[.map (some w.heap.size)] 99) → MI W (w.heap.size + 1) w.heap.size (w.heap.size + 2) 0 [] ∧ Below w.heap.size w W ∧ ∀ q, ¬ Mrow W w.heap.size q) := fun W e => by
    subst e
    have h1 : (w.alloc (.map #[] 0)).heap[w.heap.size]? = some (.map #[] 0) := Array.getElem?_push_size
    have h2 : ((w.alloc (.map #[] 0)).alloc (.cells #[.map (some w.heap.size)] 99)).heap[w.heap.size]? = some (.map #[] 0) := (Below.heap_alloc _ _ _ (by rw [heap_one]; omega)).trans h1
    have hL := lb_new (w.alloc (.map #[] 0)) [.map (some w.heap.size)] 99
    rw [heap_one] at hL
    refine ⟨⟨hL, ⟨#[], 0, h2, ⟨by simp, MapKept.stamped_empty 0, by simp⟩, Nat.le_refl _, rfl, by omega, by simp, by simp⟩, List.Pairwise.nil, by omega, by rw [heap_one, heap_one]; omega⟩, up (up0 _ _) _, ?_⟩
    rintro q ⟨es, clock, hb, x, hx, -⟩
    rw [h2] at hb
    simp at hb
    obtain ⟨rfl, -⟩ := hb
    simp at hx
  go_enter Try.func9, Try.ntmps9
  go_wp2_with fail
  go_ret
  exact ⟨rfl, HW.out _ rfl⟩
/-- the reader of index in memory -/
structure RI (w0 : World) (bv : Value) (gr p : Nat) (W : World) : Prop where
  box : LB W gr 112 [bv, .int .i64 (p : Int)]
  bel : Below w0.heap.size w0 W
  ge : w0.heap.size ≤ gr
theorem RI.other {w0 : World} {bv : Value} {gr p : Nat} {W W' : World} (h : RI w0 bv gr p W) {F : Nat → Prop} (hf : IFr W W' F) (h1 : ¬ F gr) (h2 : ∀ k, F k → w0.heap.size ≤ k) : RI w0 bv gr p W' := ⟨(hf.block gr h.box.lt h1).trans h.box, h.bel.trans (hf.below _ h.bel.size h2), h.ge⟩
def NmPost (l : List Nat) (w0 : World) (bv : Value) (gr p : Nat) (W : World) (e : Ending) (W' : World) : Prop := ∃ v p' er, Ix.nm l p = (v, p', er) ∧ e = .returned (.tuple #[.int .u64 (v : Int), .int .i64 (er : Int)]) ∧ RI w0 bv gr p' W' ∧ W.grownBy W' (some gr)
set_option maxRecDepth 100000 in
set_option maxHeartbeats 1000000 in
theorem ixnum_any (w0 : World) (bv : Value) (l : List Nat) (gr p : Nat) (W : World) (hb : Bs w0 bv l) (hl : l.length ≤ 140737488355328) (hp : p ≤ l.length) (h : RI w0 bv gr p W) :
    Calls Try.prog 53 #[.pointer (some ⟨gr, 0, none⟩)] W fun e W' => NmPost l w0 bv gr p W e W' := by
  have HRU : Hid (∀ t, Calls Try.prog 66 #[bv, .int .i64 (p : Int)] (W.drewN t) fun e w' => e = .returned (.tuple #[.int .u64 ((Wn.ru l p).1 : Int), .int .i64 (Wn.ru l p).2.1, .int .i64 ((Wn.ru l p).2.2 : Int)]) ∧ w' = W.drewN t) := fun t => (readUint_any bv l p (W.drewN t) (hb.kept (bel_drewI h.bel t)) hl).mono fun e w' ⟨h1, h2⟩ => ⟨h1, h2.symm⟩
  have x0 := h.box.cell 0 _ rfl
  have x1 := h.box.cell 1 _ rfl
  have f1 := h.box.free 1
  obtain ⟨ao, cap, rfl, -⟩ := hb.shape
  have HN : Hid (∀ (t : Nat) (q : Nat), RI w0 (.slice ao l.length cap) gr q ((W.drewN t).setCell ⟨gr, 1, none⟩ (.int .i64 (q : Int))) ∧ W.grownBy ((W.drewN t).setCell ⟨gr, 1, none⟩ (.int .i64 (q : Int))) (some gr)) := fun t q => by
    have hL : LB (W.drewN t) gr 112 [.slice ao l.length cap, .int .i64 (p : Int)] := h.box
    exact ⟨⟨hL.set 1 _, (bel_drewI h.bel t).setCell (p := ⟨gr, 1, none⟩) h.ge _, h.ge⟩, ⟨rfl, rfl, rfl, by simp [World.setCell, World.drewN], fun k hk hne => set_other _ _ _ _ fun e => hne (by rw [e])⟩⟩
  have HS : Hid (∀ t, RI w0 (.slice ao l.length cap) gr p (W.drewN t) ∧ W.grownBy (W.drewN t) (some gr)) := fun t => ⟨⟨h.box, bel_drewI h.bel t, h.ge⟩, ⟨rfl, rfl, rfl, Nat.le_refl _, fun _ _ _ => rfl⟩⟩
  clear h hb
  rcases Ix.nm_ru l p hp with ⟨er, he0, -, e1, e2⟩ | ⟨v, q, -, -, e1, e2, -⟩
  · rw [e2] at HRU
    simp only at HRU
    have hd : ((er : Int) != 0) = true := by simp; exact he0
    have HE : Hid (Ix.nm l p = (0, p, er)) := e1
    clear e1 e2 he0
    go_enter Try.func53, Try.ntmps53
    go_wp2_with fail
    go_quiet (first | (go_at_call 66; refine Calls.quiet_of_same (HRU.out _)))
    go_wp2_with fail
    go_returns
    exact ⟨0, p, er, HE.out, rfl, (HS.out _).1, (HS.out _).2⟩
  · rw [e2] at HRU
    simp only at HRU
    have HE : Hid (Ix.nm l p = (v, q, 0)) := e1
    clear e1 e2
    go_enter Try.func53, Try.ntmps53
    go_wp2_with fail
    go_quiet (first | (go_at_call 66; refine Calls.quiet_of_same (HRU.out _)))
    go_wp2_with fail
    go_returns
    exact ⟨v, q, 0, HE.out, rfl, (HN.out _ _).1, (HN.out _ _).2⟩
end Go.Proofs.Ytceokpklcfmadaa

/-
  Package index: the reader's key, offsets.
-/
namespace Go.Proofs.Ytceokpklcfmadaa
open Go Go.RowKit Go.ChangeShapes
open Wb

namespace Ix
/-- key's answer: the key, where it ends, the error -/
def keyP (l : List Nat) (p before : Nat) : Nat × Nat × Nat := if (nm l p).2.2 ≠ 0 then (0, p, (nm l p).2.2) else if (nm l p).1 = 0 ∨ 9223372036854775807 - before < (nm l p).1 then (0, (nm l p).2.1, 50) else (before + (nm l p).1, (nm l p).2.1, 0)
/-- offsets, one by one: the error, where it ends, what was added -/
def offP (l : List Nat) : Nat → Bool → Nat → Nat → List Nat → Nat × Nat × List Nat
  | 0, _, p, _, acc => (0, p, acc)
  | c + 1, first, p, off, acc => if (nm l p).2.2 ≠ 0 then ((nm l p).2.2, p, acc) else if ((nm l p).1 = 0 ∧ first = false) ∨ 9223372036854775807 - off < (nm l p).1 then (52, (nm l p).2.1, acc) else offP l c false (nm l p).2.1 (off + (nm l p).1) (acc ++ [off + (nm l p).1])
def offsP (l : List Nat) (p : Nat) : Nat × Nat × List Nat := if (nm l p).2.2 ≠ 0 then ((nm l p).2.2, p, []) else if (nm l p).1 = 0 then (51, (nm l p).2.1, []) else offP l (nm l p).1 true (nm l p).2.1 0 []
/-- offsets as the numbers of a key -/
def nums (acc : List Nat) : List Int := acc.map fun (x : Nat) => (x : Int)
def withK (kvs : Gm) (k : Nat) (acc : List Nat) : Gm := if acc = [] then kvs else kvs ++ [((k : Int), nums acc)]
theorem withK_add (kvs : Gm) (k x : Nat) (acc : List Nat) (h : ∀ p ∈ kvs, p.1 < (k : Int)) : add (withK kvs k acc) (k : Int) (x : Int) = withK kvs k (acc ++ [x]) := by
  unfold withK
  by_cases he : acc = []
  · subst he
    rw [if_pos rfl, if_neg (by simp), add_new _ _ _ h]
    rfl
  · rw [if_neg he, if_neg (by simp), add_last _ _ _ _ h]
    simp [nums]
theorem nm_le (l : List Nat) (p : Nat) (hp : p ≤ l.length) : p ≤ (nm l p).2.1 ∧ (nm l p).2.1 ≤ l.length ∧ ((nm l p).2.2 = 0 → p < (nm l p).2.1) := by
  rcases nm_ru l p hp with ⟨er, h0, -, e, -⟩ | ⟨v, q, h1, h2, e, -, -⟩
  · rw [e]
    exact ⟨Nat.le_refl _, hp, fun h => absurd h h0⟩
  · rw [e]
    exact ⟨Nat.le_of_lt h1, h2, fun _ => h1⟩
theorem nm_lt (l : List Nat) (hok : ok l) (p : Nat) (hp : p ≤ l.length) : (nm l p).1 < 18446744073709551616 := by
  rcases nm_ru l p hp with ⟨er, h0, -, e, -⟩ | ⟨v, q, h1, h2, e, -, hr⟩
  · rw [e]
    simp
  · rw [e]
    exact (rd_back0 _ _ _ (ok_drop hok p) hr).2.2
end Ix
def KyPost (l : List Nat) (w0 : World) (bv : Value) (gr p before : Nat) (W : World) (e : Ending) (W' : World) : Prop := e = .returned (.tuple #[.int .i64 ((Ix.keyP l p before).1 : Int), .int .i64 ((Ix.keyP l p before).2.2 : Int)]) ∧ RI w0 bv gr (Ix.keyP l p before).2.1 W' ∧ W.grownBy W' (some gr)
set_option maxRecDepth 100000 in
set_option maxHeartbeats 1000000 in
theorem ixkey_any (w0 : World) (bv : Value) (l : List Nat) (gr p before : Nat) (W : World) (hb : Bs w0 bv l) (hl : l.length ≤ 140737488355328) (hp : p ≤ l.length) (hbf : before ≤ 9223372036854775807) (h : RI w0 bv gr p W) :
    Calls Try.prog 54 #[.pointer (some ⟨gr, 0, none⟩), .int .i64 (before : Int)] W fun e W' => KyPost l w0 bv gr p before W e W' := by
  have HN : Hid (Calls Try.prog 53 #[.pointer (some ⟨gr, 0, none⟩)] W fun e W' => NmPost l w0 bv gr p W e W') := ixnum_any w0 bv l gr p W hb hl hp h
  have hlt := Ix.nm_lt l hb.good p hp
  obtain ⟨v, q, er, hnm⟩ : ∃ v q er, Ix.nm l p = (v, q, er) := ⟨_, _, _, rfl⟩
  obtain ⟨A, hA⟩ : ∃ A, Ix.keyP l p before = A := ⟨_, rfl⟩
  unfold KyPost
  rw [hA]
  unfold Ix.keyP at hA
  rw [hnm] at hA hlt
  simp only at hA hlt
  have HQ : Hid (er ≠ 0 → q = p) := fun h0 => by
    rcases Ix.nm_ru l p hp with ⟨er', -, -, e, -⟩ | ⟨v', q', -, -, e, -, -⟩ <;> rw [hnm] at e <;> simp at e <;> omega
  unfold NmPost at HN
  rw [hnm] at HN
  clear hb h hnm
  have hw1 : IntKind.i64.wrap (9223372036854775807 - (before : Int)) = 9223372036854775807 - (before : Int) := IntWalk.i64_in _ (by omega)
  have hw2 : IntKind.u64.wrap (9223372036854775807 - (before : Int)) = 9223372036854775807 - (before : Int) := IntWalk.u64_in _ (by omega)
  by_cases h0 : er ≠ 0
  · rw [if_pos h0] at hA
    have HQ2 : Hid (q = p) := HQ.out h0
    have hd : ((er : Int) != 0) = true := by simp; exact h0
    clear h0 HQ
    go_enter Try.func54, Try.ntmps54
    go_wp2_with fail
    refine HN.out.mono ?_
    rintro e W1 ⟨v', q', er', h1, rfl, r1, g1⟩
    simp only [Prod.mk.injEq] at h1
    obtain ⟨rfl, rfl, rfl⟩ := h1
    have HR : Hid (RI w0 bv gr q W1 ∧ W.grownBy W1 (some gr)) := ⟨r1, g1⟩
    clear r1 g1 HN
    go_wp2_with fail
    go_returns
    subst hA
    refine ⟨rfl, ?_, HR.out.2⟩
    have := HR.out.1
    rw [HQ2.out] at this
    exact this
  · obtain rfl : er = 0 := by omega
    rw [if_neg (by simp)] at hA
    by_cases h1 : v = 0 ∨ 9223372036854775807 - before < v
    · rw [if_pos h1] at hA
      subst hA
      have hv1 : v = 0 → ((v : Int) == 0) = true := fun e => by rw [e]; rfl
      by_cases hv : v = 0
      · subst hv
        clear h1 h0 HQ hv1
        go_enter Try.func54, Try.ntmps54
        go_wp2_with fail
        refine HN.out.mono ?_
        rintro e W1 ⟨v', q', er', h1, rfl, r1, g1⟩
        simp only [Prod.mk.injEq] at h1
        obtain ⟨rfl, rfl, rfl⟩ := h1
        have HR : Hid (RI w0 bv gr q W1 ∧ W.grownBy W1 (some gr)) := ⟨r1, g1⟩
        clear r1 g1 HN
        go_wp2_with fail
        go_returns
        exact ⟨rfl, HR.out.1, HR.out.2⟩
      · have hz : ((v : Int) == 0) = false := by simp; exact hv
        have hg : (9223372036854775807 - (before : Int) < (v : Int)) = True := by simp only [eq_iff_iff, iff_true]; omega
        clear h1 h0 HQ hv1
        go_enter Try.func54, Try.ntmps54
        go_wp2_with fail
        refine HN.out.mono ?_
        rintro e W1 ⟨v', q', er', h1, rfl, r1, g1⟩
        simp only [Prod.mk.injEq] at h1
        obtain ⟨rfl, rfl, rfl⟩ := h1
        have HR : Hid (RI w0 bv gr q W1 ∧ W.grownBy W1 (some gr)) := ⟨r1, g1⟩
        clear r1 g1 HN
        go_wp2_with fail
        go_returns
        exact ⟨rfl, HR.out.1, HR.out.2⟩
    · rw [if_neg h1] at hA
      subst hA
      have hv : v ≠ 0 := fun e => h1 (.inl e)
      have hz : ((v : Int) == 0) = false := by simp; exact hv
      have hg : (9223372036854775807 - (before : Int) < (v : Int)) = False := by simp only [eq_iff_iff, iff_false]; omega
      have hw3 : IntKind.i64.wrap (v : Int) = (v : Int) := IntWalk.i64_in _ (by omega)
      have hw4 : IntKind.i64.wrap ((before : Int) + (v : Int)) = (before : Int) + (v : Int) := IntWalk.i64_in _ (by omega)
      clear h1 h0 HQ
      go_enter Try.func54, Try.ntmps54
      go_wp2_with fail
      refine HN.out.mono ?_
      rintro e W1 ⟨v', q', er', h1, rfl, r1, g1⟩
      simp only [Prod.mk.injEq] at h1
      obtain ⟨rfl, rfl, rfl⟩ := h1
      have HR : Hid (RI w0 bv gr q W1 ∧ W.grownBy W1 (some gr)) := ⟨r1, g1⟩
      clear r1 g1 HN
      go_wp2_with fail
      go_returns
      exact ⟨rfl, HR.out.1, HR.out.2⟩
end Go.Proofs.Ytceokpklcfmadaa
