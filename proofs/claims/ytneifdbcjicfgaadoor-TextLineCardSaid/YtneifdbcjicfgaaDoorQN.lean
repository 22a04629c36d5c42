import Derived.Test.YtneifdbcjicfgaaDoorQG
import Derived.Test.YtneifdbcjicfgaaDoorQM9
/-
  TextKept: the law.
-/
namespace Go.Proofs.YtneifdbcjicfgaaDoor
open Go Go.RowKit
open Tx

theorem wds_len (s : ByteArray) : ∀ (n i : Nat), s.size - i ≤ n → (wds s i).1.length ≤ s.size - i := by
  intro n
  induction n with
  | zero => intro i hi; rw [wds_out s i (by omega)]; exact Nat.zero_le _
  | succ n ih =>
    intro i hi
    by_cases hlt : i < s.size
    · by_cases h1 : at' s i = 35
      · rw [wds_hash s i hlt h1]; exact Nat.zero_le _
      · cases h2 : blk (at' s i) with
        | true =>
          rw [wds_blank s i hlt h1 h2]
          have := ih (i + 1) (by omega)
          omega
        | false =>
          cases h3 : wordP s i with
          | inr ep => rw [wds_bad s i hlt h1 h2 ep h3]; exact Nat.zero_le _
          | inl we =>
            obtain ⟨d, e⟩ := we
            have he := word_end s i hlt d e h3
            rw [wds_word s i hlt h1 h2 d e h3]
            have hb : (bhd s d.k e).1.length ≤ s.size - e := by
              unfold bhd
              split
              · exact Nat.zero_le _
              · exact ih e (by omega)
            unfold fin
            split
            · rw [List.length_append]
              simp
              omega
            · exact Nat.zero_le _
    · rw [wds_out s i hlt]; exact Nat.zero_le _
theorem wdA_len (s : ByteArray) : (wdA s).1.length ≤ 65536 := by
  unfold wdA
  split
  · exact Nat.zero_le _
  · have := wds_len s s.size 0 (by omega)
    omega
theorem mk_other {m : Int} {B : Nat} {w w' : World} {v : Value} {n : Nat} {row : Option Nat} (h : MkW m B w v n) (k : w.grownBy w' row) (hne : ∀ g, v.ownBlock = some g → row ≠ some g) : MkW m B w' v n :=
  h.block fun g hg => k.block g (World.ownsRow.lt h g hg).2 fun e => hne g hg e.symm
theorem wd_other {B : Nat} {w w' : World} {v : Value} {l : List Wd} {row : Option Nat} (h : WdR B w v l) (k : w.grownBy w' row) (hne : ∀ g, v.ownBlock = some g → row ≠ some g) : WdR B w' v l :=
  h.block fun g hg => k.block g (World.ownsRow.lt h g hg).2 fun e => hne g hg e.symm
theorem below_grownW {w w1 w2 : World} {row : Option Nat} (h : Below w.heap.size w w1) (k : w1.grownBy w2 row) (hr : ∀ g, row = some g → w.heap.size ≤ g) : Below w.heap.size w w2 :=
  ⟨k.os.trans h.os, k.tape.trans h.tape, k.output.trans h.output, Nat.le_trans h.size k.size, fun g hg => (k.block g (Nat.lt_of_lt_of_le hg h.size) fun e => by have := hr g e.symm; omega).trans (h.block g hg)⟩
def Tx.oneT : ByteArray := ⟨#[97, 32, 49]⟩
set_option maxRecDepth 100000 in
theorem one_len : (wdA oneT).1.length = 2 := by decide +kernel
/-- the variables that the law reads -/
structure KTab (w : World) : Prop where
  wt : WTab w
  rl : TabP 1 .i64 lets w
  rh : TabP 3 .i64 hids w
theorem KTab.kept {w w' : World} (h : KTab w) (hb : Below w.heap.size w w') : KTab w' := ⟨h.wt.kept hb, h.rl.kept hb, h.rh.kept hb⟩
end Go.Proofs.YtneifdbcjicfgaaDoor
