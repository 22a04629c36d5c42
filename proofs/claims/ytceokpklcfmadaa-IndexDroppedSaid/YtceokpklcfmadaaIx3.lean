/-
  Package index: the reader's key, offsets.
-/
import Derived.Test.YtceokpklcfmadaaIx2
import Derived.Test.YtceokpklcfmadaaNum2
namespace Go.Proofs.Ytceokpklcfmadaa
open Go Go.RowKit Go.ChangeShapes
open Wb

namespace Ix
/-- key's answer: the key, where it ends, the error -/
def keyP (l : List Nat) (p before : Nat) : Nat × Nat × Nat := if (nm l p).2.2 ≠ 0 then (0, p, (nm l p).2.2) else if (nm l p).1 = 0 ∨ 9223372036854775807 - before < (nm l p).1 then (0, (nm l p).2.1, 50) else (before + (nm l p).1, (nm l p).2.1, 0)
/-- offsets, one by one: the error, where it ends, what was added -/
def offP (l : List Nat) : Nat → Bool → Nat → Nat → List Nat → Nat × Nat × List Nat
  | 0, _, p, _, acc => (0, p, acc)
  | c + 1, first, p, off, acc => if (nm l p).2.2 ≠ 0 then ((nm l p).2.2, p, acc) else if ((nm l p).1 = 0 ∧ first = false) ∨ 9223372036854775807 - off < (nm l p).1 then (52, (nm l p).2.1, acc) else offP l c false (nm l p).2.1 (off + (nm l p).1) (acc ++ [off + (nm l p).1])
def offsP (l : List Nat) (p : Nat) : Nat × Nat × List Nat := if (nm l p).2.2 ≠ 0 then ((nm l p).2.2, p, []) else if (nm l p).1 = 0 then (51, (nm l p).2.1, []) else offP l (nm l p).1 true (nm l p).2.1 0 []
/-- offsets as the numbers of a key -/
def nums (acc : List Nat) : List Int := acc.map fun (x : Nat) => (x : Int)
def withK (kvs : Gm) (k : Nat) (acc : List Nat) : Gm := if acc = [] then kvs else kvs ++ [((k : Int), nums acc)]
theorem withK_add (kvs : Gm) (k x : Nat) (acc : List Nat) (h : ∀ p ∈ kvs, p.1 < (k : Int)) : add (withK kvs k acc) (k : Int) (x : Int) = withK kvs k (acc ++ [x]) := by
  unfold withK
  by_cases he : acc = []
  · subst he
    rw [if_pos rfl, if_neg (by simp), add_new _ _ _ h]
    rfl
  · rw [if_neg he, if_neg (by simp), add_last _ _ _ _ h]
    simp [nums]
theorem nm_le (l : List Nat) (p : Nat) (hp : p ≤ l.length) : p ≤ (nm l p).2.1 ∧ (nm l p).2.1 ≤ l.length ∧ ((nm l p).2.2 = 0 → p < (nm l p).2.1) := by
  rcases nm_ru l p hp with ⟨er, h0, -, e, -⟩ | ⟨v, q, h1, h2, e, -, -⟩
  · rw [e]
    exact ⟨Nat.le_refl _, hp, fun h => absurd h h0⟩
  · rw [e]
    exact ⟨Nat.le_of_lt h1, h2, fun _ => h1⟩
theorem nm_lt (l : List Nat) (hok : ok l) (p : Nat) (hp : p ≤ l.length) : (nm l p).1 < 18446744073709551616 := by
  rcases nm_ru l p hp with ⟨er, h0, -, e, -⟩ | ⟨v, q, h1, h2, e, -, hr⟩
  · rw [e]
    simp
  · rw [e]
    exact (rd_back0 _ _ _ (ok_drop hok p) hr).2.2
end Ix
def KyPost (l : List Nat) (w0 : World) (bv : Value) (gr p before : Nat) (W : World) (e : Ending) (W' : World) : Prop := e = .returned (.tuple #[.int .i64 ((Ix.keyP l p before).1 : Int), .int .i64 ((Ix.keyP l p before).2.2 : Int)]) ∧ RI w0 bv gr (Ix.keyP l p before).2.1 W' ∧ W.grownBy W' (some gr)
set_option maxRecDepth 100000 in
set_option maxHeartbeats 1000000 in
theorem ixkey_any (w0 : World) (bv : Value) (l : List Nat) (gr p before : Nat) (W : World) (hb : Bs w0 bv l) (hl : l.length ≤ 140737488355328) (hp : p ≤ l.length) (hbf : before ≤ 9223372036854775807) (h : RI w0 bv gr p W) :
    Calls Try.prog 54 #[.pointer (some ⟨gr, 0, none⟩), .int .i64 (before : Int)] W fun e W' => KyPost l w0 bv gr p before W e W' := by
  have HN : Hid (Calls Try.prog 53 #[.pointer (some ⟨gr, 0, none⟩)] W fun e W' => NmPost l w0 bv gr p W e W') := ixnum_any w0 bv l gr p W hb hl hp h
  have hlt := Ix.nm_lt l hb.good p hp
  obtain ⟨v, q, er, hnm⟩ : ∃ v q er, Ix.nm l p = (v, q, er) := ⟨_, _, _, rfl⟩
  obtain ⟨A, hA⟩ : ∃ A, Ix.keyP l p before = A := ⟨_, rfl⟩
  unfold KyPost
  rw [hA]
  unfold Ix.keyP at hA
  rw [hnm] at hA hlt
  simp only at hA hlt
  have HQ : Hid (er ≠ 0 → q = p) := fun h0 => by
    rcases Ix.nm_ru l p hp with ⟨er', -, -, e, -⟩ | ⟨v', q', -, -, e, -, -⟩ <;> rw [hnm] at e <;> simp at e <;> omega
  unfold NmPost at HN
  rw [hnm] at HN
  clear hb h hnm
  have hw1 : IntKind.i64.wrap (9223372036854775807 - (before : Int)) = 9223372036854775807 - (before : Int) := IntWalk.i64_in _ (by omega)
  have hw2 : IntKind.u64.wrap (9223372036854775807 - (before : Int)) = 9223372036854775807 - (before : Int) := IntWalk.u64_in _ (by omega)
  by_cases h0 : er ≠ 0
  · rw [if_pos h0] at hA
    have HQ2 : Hid (q = p) := HQ.out h0
    have hd : ((er : Int) != 0) = true := by simp; exact h0
    clear h0 HQ
    go_enter Try.func54, Try.ntmps54
    go_wp2_with fail
    refine HN.out.mono ?_
    rintro e W1 ⟨v', q', er', h1, rfl, r1, g1⟩
    simp only [Prod.mk.injEq] at h1
    obtain ⟨rfl, rfl, rfl⟩ := h1
    have HR : Hid (RI w0 bv gr q W1 ∧ W.grownBy W1 (some gr)) := ⟨r1, g1⟩
    clear r1 g1 HN
    go_wp2_with fail
    go_returns
    subst hA
    refine ⟨rfl, ?_, HR.out.2⟩
    have := HR.out.1
    rw [HQ2.out] at this
    exact this
  · obtain rfl : er = 0 := by omega
    rw [if_neg (by simp)] at hA
    by_cases h1 : v = 0 ∨ 9223372036854775807 - before < v
    · rw [if_pos h1] at hA
      subst hA
      have hv1 : v = 0 → ((v : Int) == 0) = true := fun e => by rw [e]; rfl
      by_cases hv : v = 0
      · subst hv
        clear h1 h0 HQ hv1
        go_enter Try.func54, Try.ntmps54
        go_wp2_with fail
        refine HN.out.mono ?_
        rintro e W1 ⟨v', q', er', h1, rfl, r1, g1⟩
        simp only [Prod.mk.injEq] at h1
        obtain ⟨rfl, rfl, rfl⟩ := h1
        have HR : Hid (RI w0 bv gr q W1 ∧ W.grownBy W1 (some gr)) := ⟨r1, g1⟩
        clear r1 g1 HN
        go_wp2_with fail
        go_returns
        exact ⟨rfl, HR.out.1, HR.out.2⟩
      · have hz : ((v : Int) == 0) = false := by simp; exact hv
        have hg : (9223372036854775807 - (before : Int) < (v : Int)) = True := by simp only [eq_iff_iff, iff_true]; omega
        clear h1 h0 HQ hv1
        go_enter Try.func54, Try.ntmps54
        go_wp2_with fail
        refine HN.out.mono ?_
        rintro e W1 ⟨v', q', er', h1, rfl, r1, g1⟩
        simp only [Prod.mk.injEq] at h1
        obtain ⟨rfl, rfl, rfl⟩ := h1
        have HR : Hid (RI w0 bv gr q W1 ∧ W.grownBy W1 (some gr)) := ⟨r1, g1⟩
        clear r1 g1 HN
        go_wp2_with fail
        go_returns
        exact ⟨rfl, HR.out.1, HR.out.2⟩
    · rw [if_neg h1] at hA
      subst hA
      have hv : v ≠ 0 := fun e => h1 (.inl e)
      have hz : ((v : Int) == 0) = false := by simp; exact hv
      have hg : (9223372036854775807 - (before : Int) < (v : Int)) = False := by simp only [eq_iff_iff, iff_false]; omega
      have hw3 : IntKind.i64.wrap (v : Int) = (v : Int) := IntWalk.i64_in _ (by omega)
      have hw4 : IntKind.i64.wrap ((before : Int) + (v : Int)) = (before : Int) + (v : Int) := IntWalk.i64_in _ (by omega)
      clear h1 h0 HQ
      go_enter Try.func54, Try.ntmps54
      go_wp2_with fail
      refine HN.out.mono ?_
      rintro e W1 ⟨v', q', er', h1, rfl, r1, g1⟩
      simp only [Prod.mk.injEq] at h1
      obtain ⟨rfl, rfl, rfl⟩ := h1
      have HR : Hid (RI w0 bv gr q W1 ∧ W.grownBy W1 (some gr)) := ⟨r1, g1⟩
      clear r1 g1 HN
      go_wp2_with fail
      go_returns
      exact ⟨rfl, HR.out.1, HR.out.2⟩
end Go.Proofs.Ytceokpklcfmadaa
