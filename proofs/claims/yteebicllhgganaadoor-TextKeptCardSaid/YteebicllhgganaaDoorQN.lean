import Derived.Test.YteebicllhgganaaDoorQG
import Derived.Test.YteebicllhgganaaDoorQM9
/-
  TextKept: the law.
-/
namespace Go.Proofs.YteebicllhgganaaDoor
open Go Go.RowKit
open Tx

theorem wds_len (s : ByteArray) : ∀ (n i : Nat), s.size - i ≤ n → (wds s i).1.length ≤ s.size - i := by
  intro n
  induction n with
  | zero => intro i hi; rw [wds_out s i (by omega)]; exact Nat.zero_le _
  | succ n ih =>
    intro i hi
    by_cases hlt : i < s.size
    · by_cases h1 : at' s i = 35
      · rw [wds_hash s i hlt h1]; exact Nat.zero_le _
      · cases h2 : blk (at' s i) with
        | true =>
          rw [wds_blank s i hlt h1 h2]
          have := ih (i + 1) (by omega)
          omega
        | false =>
          cases h3 : wordP s i with
          | inr ep => rw [wds_bad s i hlt h1 h2 ep h3]; exact Nat.zero_le _
          | inl we =>
            obtain ⟨d, e⟩ := we
            have he := word_end s i hlt d e h3
            rw [wds_word s i hlt h1 h2 d e h3]
            have hb : (bhd s d.k e).1.length ≤ s.size - e := by
              unfold bhd
              split
              · exact Nat.zero_le _
              · exact ih e (by omega)
            unfold fin
            split
            · rw [List.length_append]
              simp
              omega
            · exact Nat.zero_le _
    · rw [wds_out s i hlt]; exact Nat.zero_le _
theorem wdA_len (s : ByteArray) : (wdA s).1.length ≤ 65536 := by
  unfold wdA
  split
  · exact Nat.zero_le _
  · have := wds_len s s.size 0 (by omega)
    omega
theorem mk_other {m : Int} {B : Nat} {w w' : World} {v : Value} {n : Nat} {row : Option Nat} (h : MkW m B w v n) (k : w.grownBy w' row) (hne : ∀ g, v.ownBlock = some g → row ≠ some g) : MkW m B w' v n :=
  h.block fun g hg => k.block g (World.ownsRow.lt h g hg).2 fun e => hne g hg e.symm
theorem wd_other {B : Nat} {w w' : World} {v : Value} {l : List Wd} {row : Option Nat} (h : WdR B w v l) (k : w.grownBy w' row) (hne : ∀ g, v.ownBlock = some g → row ≠ some g) : WdR B w' v l :=
  h.block fun g hg => k.block g (World.ownsRow.lt h g hg).2 fun e => hne g hg e.symm
theorem below_grownW {w w1 w2 : World} {row : Option Nat} (h : Below w.heap.size w w1) (k : w1.grownBy w2 row) (hr : ∀ g, row = some g → w.heap.size ≤ g) : Below w.heap.size w w2 :=
  ⟨k.os.trans h.os, k.tape.trans h.tape, k.output.trans h.output, Nat.le_trans h.size k.size, fun g hg => (k.block g (Nat.lt_of_lt_of_le hg h.size) fun e => by have := hr g e.symm; omega).trans (h.block g hg)⟩
def Tx.oneT : ByteArray := ⟨#[97, 32, 49]⟩
set_option maxRecDepth 100000 in
theorem one_len : (wdA oneT).1.length = 2 := by decide +kernel
/-- the variables that the law reads -/
structure KTab (w : World) : Prop where
  wt : WTab w
  rl : TabP 1 .i64 lets w
  rh : TabP 3 .i64 hids w
theorem KTab.kept {w w' : World} (h : KTab w) (hb : Below w.heap.size w w') : KTab w' := ⟨h.wt.kept hb, h.rl.kept hb, h.rh.kept hb⟩
end Go.Proofs.YteebicllhgganaaDoor

/-
  TextKept: the walk.
-/
namespace Go.Proofs.YteebicllhgganaaDoor
open Go Go.RowKit
open Tx

set_option maxRecDepth 100000 in
set_option maxHeartbeats 8000000 in
theorem kept_any (line : ByteArray) (w : World) (hT : KTab w) :
    Calls Tryd.prog 4 #[.string line] w fun e w' => e = .returned (.bool true) ∧ Below w.heap.size w w' := by
  have HCT : Hid (∀ w', Calls Tryd.prog 11 #[.string line] w' fun e w'' => e = .returned (.string (cutT line)) ∧ w'' = w') := fun w' => cut_any line w'
  generalize cutT line = s at *
  have hlen := wdA_len s
  have HRW : Hid (∀ w', Below w.heap.size w w' → Calls Tryd.prog 12 #[.string s] w' fun e w'' => ∃ v, e = .returned (.tuple #[v, .int .i64 (wdA s).2.1, .int .i64 (wdA s).2.2]) ∧ WdR w'.heap.size w'' v (wdA s).1 ∧ Below w'.heap.size w' w'') := fun w' hb => rwords_any s w' (hT.kept hb).rl (hT.kept hb).rh
  have HPW : Hid (∀ w', Below w.heap.size w w' → Calls Tryd.prog 9 #[.string s] w' fun e w'' => ∃ v, e = .returned (.tuple #[v, .int .i64 (wdA s).2.1, .int .i64 (wdA s).2.2]) ∧ WdR w'.heap.size w'' v (wdA s).1 ∧ Below w'.heap.size w' w'') := fun w' hb => words_any s w' (hT.kept hb).wt
  have HP1 : Hid (∀ w', Below w.heap.size w w' → Calls Tryd.prog 9 #[.string ⟨#[97, 32, 49]⟩] w' fun e w'' => ∃ v x y, e = .returned (.tuple #[v, .int .i64 x, .int .i64 y]) ∧ WdR w'.heap.size w'' v (wdA oneT).1 ∧ Below w'.heap.size w' w'') := fun w' hb => (words_any oneT w' (hT.kept hb).wt).mono fun e w'' ⟨v, he, h1, h2⟩ => ⟨v, _, _, he, h1, h2⟩
  have hone := one_len
  obtain ⟨l1, hl1⟩ : ∃ l1, (wdA oneT).1 = l1 := ⟨_, rfl⟩
  rw [hl1] at HP1 hone
  clear hl1 hT
  generalize wdA s = A at *
  obtain ⟨l, er, pl⟩ := A
  simp only at HRW HPW hlen
  go_enter Tryd.func4, Tryd.ntmps4
  go_wp2_with fail
  refine (HCT.out _).mono ?_
  rintro e w0 ⟨rfl, hw0⟩
  have hw1 := hw0.symm
  clear hw0
  subst hw1
  clear HCT
  go_wp2_with fail
  refine (HRW.out _ (Below.refl _ _)).mono ?_
  rintro e w1 ⟨v3, rfl, hr3, B1⟩
  obtain ⟨a3, c3, e3⟩ := hr3.shape
  subst e3
  clear HRW
  go_wp2_with fail
  refine (HPW.out _ B1).mono ?_
  rintro e w2 ⟨v6, rfl, hr6, b2⟩
  obtain ⟨a6, c6, e6⟩ := hr6.shape
  subst e6
  have B2 := andThen B1 b2
  go_wp2_with fail
  refine (HPW.out _ B2).mono ?_
  rintro e w3 ⟨v9, rfl, hr9, b3⟩
  obtain ⟨a9, c9, e9⟩ := hr9.shape
  subst e9
  have B3 := andThen B2 b3
  go_wp2_with fail
  refine (HP1.out _ B3).mono ?_
  rintro e w4 ⟨v12, x12, y12, rfl, hr12, b4⟩
  obtain ⟨a12, c12, e12⟩ := hr12.shape
  rw [hone] at e12
  subst e12
  have B4 := andThen B3 b4
  clear HP1
  -- where the lists lie
  have HLO : Hid ((∀ g, (Value.slice a3 l.length c3).ownBlock = some g → w.heap.size ≤ g ∧ g < w1.heap.size) ∧ (∀ g, (Value.slice a6 l.length c6).ownBlock = some g → w1.heap.size ≤ g ∧ g < w2.heap.size) ∧ (∀ g, (Value.slice a9 l.length c9).ownBlock = some g → w2.heap.size ≤ g ∧ g < w3.heap.size) ∧ (∀ g, (Value.slice a12 2 c12).ownBlock = some g → w3.heap.size ≤ g ∧ g < w4.heap.size)) := ⟨fun g hg => World.ownsRow.lt hr3 g hg, fun g hg => World.ownsRow.lt hr6 g hg, fun g hg => World.ownsRow.lt hr9 g hg, fun g hg => World.ownsRow.lt hr12 g hg⟩
  have HSZ : Hid (w.heap.size ≤ w1.heap.size ∧ w1.heap.size ≤ w2.heap.size ∧ w2.heap.size ≤ w3.heap.size ∧ w3.heap.size ≤ w4.heap.size) := ⟨B1.size, b2.size, b3.size, b4.size⟩
  have H4 : Hid (WdR w.heap.size w4 (.slice a3 l.length c3) l ∧ WdR w1.heap.size w4 (.slice a6 l.length c6) l ∧ WdR w2.heap.size w4 (.slice a9 l.length c9) l ∧ WdR w3.heap.size w4 (.slice a12 2 c12) l1 ∧ Below w.heap.size w w4) := ⟨((hr3.kept b2).kept b3).kept b4, (hr6.kept b3).kept b4, hr9.kept b4, hr12, B4⟩
  clear hr3 hr6 hr9 hr12 B1 B2 B3 B4 b2 b3 b4
  have HS1 : Hid (∀ w', Below w4.heap.size w4 w' → Calls Tryd.prog 10 #[.slice a6 l.length c6, .slice a3 l.length c3] w' fun e w'' => e = .returned (.bool true) ∧ Below w'.heap.size w' w'') := fun w' hb => sameWords_yes l _ _ w' (fun w2 h2 => (H4.out.2.1.kept (andThen hb h2)).at) (fun w2 h2 => (H4.out.1.kept (andThen hb h2)).at)
  have HS2 : Hid (∀ w', Below w4.heap.size w4 w' → Calls Tryd.prog 10 #[.slice a9 l.length c9, .slice a3 l.length c3] w' fun e w'' => e = .returned (.bool true) ∧ Below w'.heap.size w' w'') := fun w' hb => sameWords_yes l _ _ w' (fun w2 h2 => (H4.out.2.2.1.kept (andThen hb h2)).at) (fun w2 h2 => (H4.out.1.kept (andThen hb h2)).at)
  go_wp2_with fail
  refine (HS1.out _ (Below.refl _ _)).mono ?_
  rintro e w5 ⟨rfl, b5⟩
  go_wp2_with fail
  refine (HS2.out _ b5).mono ?_
  rintro e w6 ⟨rfl, b6⟩
  have b56 := andThen b5 b6
  have H6 : Hid (WdR w.heap.size w6 (.slice a3 l.length c3) l ∧ WdR w1.heap.size w6 (.slice a6 l.length c6) l ∧ WdR w2.heap.size w6 (.slice a9 l.length c9) l ∧ WdR w3.heap.size w6 (.slice a12 2 c12) l1 ∧ Below w.heap.size w w6 ∧ w4.heap.size ≤ w6.heap.size) := ⟨H4.out.1.kept b56, H4.out.2.1.kept b56, H4.out.2.2.1.kept b56, H4.out.2.2.2.1.kept b56, andThen H4.out.2.2.2.2 b56, b56.size⟩
  clear b5 b6 b56 HS1 HS2 H4
  -- the first list is written full
  have HF1 : Hid (Calls Tryd.prog 13 #[.slice a6 l.length c6, .int .i64 (-71)] w6 fun e w' => ∃ v', e = .returned v' ∧ MkW (-71) w1.heap.size w' v' (l.length + 40) ∧ MkW (-71) w1.heap.size w' (.slice a6 l.length c6) l.length ∧ w6.grownBy w' (Value.slice a6 l.length c6).ownBlock ∧ (∀ g, v'.ownBlock = some g → (Value.slice a6 l.length c6).ownBlock = some g ∨ w6.heap.size ≤ g)) := filledW_any (-71) l _ _ w6 H6.out.2.1 (by have := HSZ.out; have := H6.out.2.2.2.2.2; omega) (by omega)
  go_wp2_with fail
  refine HF1.out.mono ?_
  rintro e w7 ⟨v15, rfl, m15, m6, hg7, ho15⟩
  obtain ⟨a15, c15, e15⟩ := m15.wd.shape
  rw [List.length_replicate] at e15
  subst e15
  have H7 : Hid (WdR w.heap.size w7 (.slice a3 l.length c3) l ∧ WdR w2.heap.size w7 (.slice a9 l.length c9) l ∧ WdR w3.heap.size w7 (.slice a12 2 c12) l1 ∧ Below w.heap.size w w7 ∧ w4.heap.size ≤ w7.heap.size ∧ MkW (-71) w1.heap.size w7 (.slice a15 (l.length + 40) c15) (l.length + 40) ∧ MkW (-71) w1.heap.size w7 (.slice a6 l.length c6) l.length ∧ (∀ g, (Value.slice a15 (l.length + 40) c15).ownBlock = some g → (Value.slice a6 l.length c6).ownBlock = some g ∨ w4.heap.size ≤ g)) := by
    have hs := HSZ.out
    have h6 := H6.out
    have hl := HLO.out
    refine ⟨wd_other h6.1 hg7 (fun g hg e => ?_), wd_other h6.2.2.1 hg7 (fun g hg e => ?_), wd_other h6.2.2.2.1 hg7 (fun g hg e => ?_), below_grownW h6.2.2.2.2.1 hg7 (fun g e => ?_), Nat.le_trans h6.2.2.2.2.2 hg7.size, m15, m6, fun g hg => ?_⟩
    · have h1 := hl.1 g hg; have h2 := hl.2.1 g e; omega
    · have h1 := hl.2.2.1 g hg; have h2 := hl.2.1 g e; omega
    · have h1 := hl.2.2.2 g hg; have h2 := hl.2.1 g e; omega
    · have h2 := hl.2.1 g e; omega
    · rcases ho15 g hg with h | h
      · exact .inl h
      · exact .inr (by omega)
  clear HF1 m15 m6 hg7 ho15 H6
  have HF2 : Hid (Calls Tryd.prog 13 #[.slice a9 l.length c9, .int .i64 (-72)] w7 fun e w' => ∃ v', e = .returned v' ∧ MkW (-72) w2.heap.size w' v' (l.length + 40) ∧ MkW (-72) w2.heap.size w' (.slice a9 l.length c9) l.length ∧ w7.grownBy w' (Value.slice a9 l.length c9).ownBlock ∧ (∀ g, v'.ownBlock = some g → (Value.slice a9 l.length c9).ownBlock = some g ∨ w7.heap.size ≤ g)) := filledW_any (-72) l _ _ w7 H7.out.2.1 (by have := HSZ.out; have := H7.out.2.2.2.2.1; omega) (by omega)
  go_wp2_with fail
  refine HF2.out.mono ?_
  rintro e w8 ⟨v16, rfl, m16, m9, hg8, ho16⟩
  obtain ⟨a16, c16, e16⟩ := m16.wd.shape
  rw [List.length_replicate] at e16
  subst e16
  have H8 : Hid (WdR w.heap.size w8 (.slice a3 l.length c3) l ∧ WdR w3.heap.size w8 (.slice a12 2 c12) l1 ∧ Below w.heap.size w w8 ∧ w4.heap.size ≤ w8.heap.size ∧ MkW (-71) w1.heap.size w8 (.slice a15 (l.length + 40) c15) (l.length + 40) ∧ MkW (-71) w1.heap.size w8 (.slice a6 l.length c6) l.length ∧ (∀ g, (Value.slice a15 (l.length + 40) c15).ownBlock = some g → (Value.slice a6 l.length c6).ownBlock = some g ∨ w4.heap.size ≤ g) ∧ MkW (-72) w2.heap.size w8 (.slice a16 (l.length + 40) c16) (l.length + 40) ∧ MkW (-72) w2.heap.size w8 (.slice a9 l.length c9) l.length ∧ (∀ g, (Value.slice a16 (l.length + 40) c16).ownBlock = some g → (Value.slice a9 l.length c9).ownBlock = some g ∨ w4.heap.size ≤ g)) := by
    have hs := HSZ.out
    have h7 := H7.out
    have hl := HLO.out
    refine ⟨wd_other h7.1 hg8 (fun g hg e => ?_), wd_other h7.2.2.1 hg8 (fun g hg e => ?_), below_grownW h7.2.2.2.1 hg8 (fun g e => ?_), Nat.le_trans h7.2.2.2.2.1 hg8.size, mk_other h7.2.2.2.2.2.1 hg8 (fun g hg e => ?_), mk_other h7.2.2.2.2.2.2.1 hg8 (fun g hg e => ?_), h7.2.2.2.2.2.2.2, m16, m9, fun g hg => ?_⟩
    · have h1 := hl.1 g hg; have h2 := hl.2.2.1 g e; omega
    · have h1 := hl.2.2.2 g hg; have h2 := hl.2.2.1 g e; omega
    · have h2 := hl.2.2.1 g e; omega
    · have h2 := hl.2.2.1 g e
      rcases h7.2.2.2.2.2.2.2 g hg with h | h
      · have h1 := hl.2.1 g h; omega
      · omega
    · have h1 := hl.2.1 g hg; have h2 := hl.2.2.1 g e; omega
    · rcases ho16 g hg with h | h
      · exact .inl h
      · exact .inr (by have := h7.2.2.2.2.1; omega)
  clear HF2 m16 m9 hg8 ho16 H7
  have HF3 : Hid (Calls Tryd.prog 13 #[.slice a12 2 c12, .int .i64 (-73)] w8 fun e w' => ∃ v', e = .returned v' ∧ MkW (-73) w3.heap.size w' v' 42 ∧ MkW (-73) w3.heap.size w' (.slice a12 2 c12) 2 ∧ w8.grownBy w' (Value.slice a12 2 c12).ownBlock) := (filledW_any (-73) l1 _ _ w8 H8.out.2.1 (by have := HSZ.out; have := H8.out.2.2.2.1; omega) (by omega)).mono fun e w' ⟨v', he, h1, h2, h3, _⟩ => by
    rw [hone] at h1 h2
    exact ⟨v', he, h1, h2, h3⟩
  go_wp2_with fail
  refine HF3.out.mono ?_
  rintro e w9 ⟨v17, rfl, m17, m12, hg9⟩
  obtain ⟨a17, c17, e17⟩ := m17.wd.shape
  rw [List.length_replicate] at e17
  subst e17
  have H9 : Hid (WdR w.heap.size w9 (.slice a3 l.length c3) l ∧ Below w.heap.size w w9 ∧ MkW (-71) w1.heap.size w9 (.slice a15 (l.length + 40) c15) (l.length + 40) ∧ MkW (-71) w1.heap.size w9 (.slice a6 l.length c6) l.length ∧ MkW (-72) w2.heap.size w9 (.slice a16 (l.length + 40) c16) (l.length + 40) ∧ MkW (-72) w2.heap.size w9 (.slice a9 l.length c9) l.length ∧ MkW (-73) w3.heap.size w9 (.slice a17 42 c17) 42 ∧ MkW (-73) w3.heap.size w9 (.slice a12 2 c12) 2) := by
    have hs := HSZ.out
    have h8 := H8.out
    have hl := HLO.out
    refine ⟨wd_other h8.1 hg9 (fun g hg e => ?_), below_grownW h8.2.2.1 hg9 (fun g e => ?_), mk_other h8.2.2.2.2.1 hg9 (fun g hg e => ?_), mk_other h8.2.2.2.2.2.1 hg9 (fun g hg e => ?_), mk_other h8.2.2.2.2.2.2.2.1 hg9 (fun g hg e => ?_), mk_other h8.2.2.2.2.2.2.2.2.1 hg9 (fun g hg e => ?_), m17, m12⟩
    · have h1 := hl.1 g hg; have h2 := hl.2.2.2 g e; omega
    · have h2 := hl.2.2.2 g e; omega
    · have h2 := hl.2.2.2 g e
      rcases h8.2.2.2.2.2.2.1 g hg with h | h
      · have h1 := hl.2.1 g h; omega
      · omega
    · have h1 := hl.2.1 g hg; have h2 := hl.2.2.2 g e; omega
    · have h2 := hl.2.2.2 g e
      rcases h8.2.2.2.2.2.2.2.2.2 g hg with h | h
      · have h1 := hl.2.2.1 g h; omega
      · omega
    · have h1 := hl.2.2.1 g hg; have h2 := hl.2.2.2 g e; omega
  clear HF3 m17 m12 hg9 H8 HLO HSZ
  go_wp2_with fail
  refine (HPW.out _ H9.out.2.1).mono ?_
  rintro e w10 ⟨v18, rfl, hr18, b10⟩
  obtain ⟨a18, c18, e18⟩ := hr18.shape
  subst e18
  have HS3 : Hid (Calls Tryd.prog 10 #[.slice a18 l.length c18, .slice a3 l.length c3] w10 fun e w'' => e = .returned (.bool true) ∧ Below w10.heap.size w10 w'') := sameWords_yes l _ _ w10 (fun w2 h2 => (hr18.kept h2).at) (fun w2 h2 => (H9.out.1.kept (andThen b10 h2)).at)
  clear hr18 HPW
  go_wp2_with fail
  refine HS3.out.mono ?_
  rintro e w11 ⟨rfl, b11⟩
  have b9 := andThen b10 b11
  have HM1 : Hid (Calls Tryd.prog 14 #[.slice a6 l.length c6, .int .i64 (-71)] w11 fun e w'' => e = .returned (.bool true) ∧ w'' = w11) := markedW_yes _ _ _ w11 (H9.out.2.2.2.1.kept b9).wd.at
  have HM2 : Hid (Calls Tryd.prog 14 #[.slice a15 (l.length + 40) c15, .int .i64 (-71)] w11 fun e w'' => e = .returned (.bool true) ∧ w'' = w11) := markedW_yes _ _ _ w11 (H9.out.2.2.1.kept b9).wd.at
  have HM3 : Hid (Calls Tryd.prog 14 #[.slice a9 l.length c9, .int .i64 (-72)] w11 fun e w'' => e = .returned (.bool true) ∧ w'' = w11) := markedW_yes _ _ _ w11 (H9.out.2.2.2.2.2.1.kept b9).wd.at
  have HM4 : Hid (Calls Tryd.prog 14 #[.slice a16 (l.length + 40) c16, .int .i64 (-72)] w11 fun e w'' => e = .returned (.bool true) ∧ w'' = w11) := markedW_yes _ _ _ w11 (H9.out.2.2.2.2.1.kept b9).wd.at
  have HM5 : Hid (Calls Tryd.prog 14 #[.slice a12 2 c12, .int .i64 (-73)] w11 fun e w'' => e = .returned (.bool true) ∧ w'' = w11) := markedW_yes _ _ _ w11 (H9.out.2.2.2.2.2.2.2.kept b9).wd.at
  have HM6 : Hid (Calls Tryd.prog 14 #[.slice a17 42 c17, .int .i64 (-73)] w11 fun e w'' => e = .returned (.bool true) ∧ w'' = w11) := markedW_yes _ _ _ w11 (H9.out.2.2.2.2.2.2.1.kept b9).wd.at
  have HB : Hid (Below w.heap.size w w11) := andThen H9.out.2.1 b9
  clear b10 b11 b9 HS3 H9
  go_wp2_with fail
  refine HM1.out.mono ?_
  rintro e w12 ⟨rfl, rfl⟩
  clear HM1
  go_wp2_with fail
  refine HM2.out.mono ?_
  rintro e w13 ⟨rfl, rfl⟩
  clear HM2
  go_wp2_with fail
  refine HM3.out.mono ?_
  rintro e w14 ⟨rfl, rfl⟩
  clear HM3
  go_wp2_with fail
  refine HM4.out.mono ?_
  rintro e w15 ⟨rfl, rfl⟩
  clear HM4
  go_wp2_with fail
  refine HM5.out.mono ?_
  rintro e w16 ⟨rfl, rfl⟩
  clear HM5
  go_wp2_with fail
  refine HM6.out.mono ?_
  rintro e w17 ⟨rfl, rfl⟩
  clear HM6
  go_wp2
  go_ret
  exact ⟨rfl, HB.out⟩
end Go.Proofs.YteebicllhgganaaDoor
