/-
  DiskLasts: the disk and the words side by side.
-/
import Derived.Test.YtjepeeopjjnglaaDl4
import Derived.Test.YtjepeeopjjnglaaDkv
namespace Go.Proofs.Ytjepeeopjjnglaa
open Go Go.RowKit Go.ChangeShapes
open Wb
namespace Dk
section
variable {S T : DS} {l : List Wd} {N : Nat}
/-- an operation that is refused -/
theorem do_stay (o : Rop) (f : Nat) (he : doE S o ≠ 0) : doS S o f = S ∨ doS S o f = (cnt S).2 := by
  unfold doE at he
  unfold doS
  split
  · rename_i hk
    rw [if_pos hk] at he
    unfold crtE at he
    unfold crt
    split
    · rename_i h
      rw [if_pos h.1, if_neg (by rw [h.2]; simp)] at he
      rw [if_neg he]
      exact .inr rfl
    · exact .inl rfl
  rename_i hk1
  rw [if_neg hk1] at he
  split
  · rename_i hk
    rw [if_pos hk] at he
    unfold appE at he
    unfold app
    split
    · rename_i h
      rw [if_pos h.1, if_neg h.2] at he
      rw [if_neg he]
      exact .inr rfl
    · exact .inl rfl
  rename_i hk2
  rw [if_neg hk2] at he
  split
  · rename_i hk
    rw [if_pos hk] at he
    unfold synE at he
    unfold syn
    split
    · rename_i h
      rw [if_pos h] at he
      rw [if_neg he]
      exact .inr rfl
    · exact .inl rfl
  rename_i hk3
  rw [if_neg hk3] at he
  split
  · rename_i hk
    rw [if_pos hk] at he
    unfold truE at he
    unfold tru
    split
    · rename_i h
      rw [if_pos h.1, if_neg (by rw [h.2]; simp)] at he
      rw [if_neg he]
      exact .inr rfl
    · exact .inl rfl
  rename_i hk4
  rw [if_neg hk4] at he
  split
  · rename_i hk
    rw [if_pos hk] at he
    unfold renE synE at he
    unfold ren
    split
    · rename_i h
      rw [if_pos h.1, if_pos h.2] at he
      rw [if_neg he]
      exact .inr rfl
    · exact .inl rfl
  rename_i hk5
  rw [if_neg hk5] at he
  split
  · rename_i hk
    rw [if_pos hk] at he
    unfold synE at he
    unfold rem
    split
    · rename_i h
      rw [if_pos h] at he
      rw [if_neg he]
      exact .inr rfl
    · exact .inl rfl
  rename_i hk6
  rw [if_neg hk6] at he
  unfold sdE at he
  unfold sd
  split
  · rename_i h
    rw [if_pos h] at he
    rw [if_neg he]
    exact .inr rfl
  · exact .inl rfl
theorem Kn.same (h : Kn S l) (h1 : T.nm = S.nm) (h2 : T.ch = S.ch) (h3 : T.la = S.la) (h4 : T.fo = S.fo) : Kn T l :=
  ⟨by rw [h1]; exact h.cov, h.nd, fun x hx => by
    obtain ⟨f, k⟩ := h.kn x hx
    exact ⟨f, k.same h1 h2 h3 (by rw [h4])⟩⟩
theorem Kn.stay (h : Kn S l) (o : Rop) (f : Nat) (he : doE S o ≠ 0) : Kn (doS S o f) l := by
  obtain ⟨-, -, c3, c4, c5, -, c7⟩ := cnt_same S
  rcases do_stay o f he with e | e
  · rw [e]
    exact h
  · rw [e]
    exact h.same c3 c5 c4 c7
theorem Kn.arm (h : Kn S l) (n : Int) : Kn (Dk.arm S n) l := by
  unfold Dk.arm
  split
  · exact h
  · exact h.same rfl rfl rfl rfl
/-- how many names and changes there are -/
def nn (S : DS) : Nat := S.la.length + S.ch.length
theorem nn_arm (S : DS) (n : Int) : nn (Dk.arm S n) = nn S := by
  unfold Dk.arm nn
  split <;> rfl
theorem nn_do (hG : WG S) (o : Rop) (f : Nat) : nn (doS S o f) ≤ nn S + 1 := by
  obtain ⟨-, -, c3, c4, c5, -, -⟩ := cnt_same S
  have h0 : nn (cnt S).2 = nn S := by unfold nn; rw [c4, c5]
  have h9 := lvF_len S.ch S.la
  rw [← hG.nmE] at h9
  unfold nn at h0 ⊢
  unfold doS crt app syn tru ren rem sd mk
  repeat' split
  all_goals first
    | omega
    | (simp only [List.length_append, List.length_singleton, List.length_nil, c4, c5] at *; omega)
theorem ntd_len (l : List Wd) (o : Rop) : (ntd l o).length ≤ l.length + 1 := by
  have hl : ∀ (l : List Wd) s, (lss l s).length ≤ l.length := fun l s => List.length_filter_le _ _
  unfold ntd
  split
  · rw [List.length_append]
    have := hl l o.a.data.toList
    simpa using this
  split
  · split
    · omega
    · rw [List.length_append]
      have h1 := hl l o.a.data.toList
      have h2 := hl (lss l o.a.data.toList) o.b.data.toList
      simp only [List.length_singleton]
      omega
  split
  · have := hl l o.a.data.toList
    omega
  split
  · rw [List.length_map]
    omega
  · split
    · omega
    · repeat' split
      all_goals (try rw [List.length_set]); omega
theorem Kn.len (hW : WF S N) (h : Kn S l) : ∀ x ∈ l, x.data.length ≤ 4194304 := fun x hx => by
  obtain ⟨f, k⟩ := h.kn x hx
  rw [← k.data]
  exact (hW.fl f (hW.ids _ (get_mem k.get))).2
/-- what noted asks of an operation that was done -/
theorem Kn.need (hW : WF S N) (h : Kn S l) (o : Rop) (he : doE S o = 0) : (o.k = 2 → o.data.length ≤ 4194304) ∧ (2 ≤ o.k → o.k ≤ 5 → ∃ i, plc l o.a.data.toList = some i) ∧ (o.k = 4 → ∀ i, plc l o.a.data.toList = some i → 0 ≤ o.n ∧ o.n ≤ ((wat l i).data.length : Int)) := by
  have hpl : ∀ s, (findE S s).1 = 0 → ∃ i, plc l s = some i := fun s hs => by
    obtain ⟨i, hi, -⟩ := h.place (find_some hs).1
    exact ⟨i, hi⟩
  unfold doE at he
  refine ⟨fun hk => ?_, fun h2 h5 => ?_, fun hk i hi => ?_⟩
  · rw [if_neg (by omega), if_pos hk] at he
    unfold appE at he
    split at he
    · split at he
      · omega
      · have h1 := hW.t0
        have h2 := hW.q
        omega
    · rename_i hf
      exact absurd he hf
  · by_cases k2 : o.k = 2
    · rw [if_neg (by omega), if_pos k2] at he
      unfold appE at he
      split at he
      · rename_i hf
        exact hpl _ hf
      · rename_i hf
        exact absurd he hf
    by_cases k3 : o.k = 3
    · rw [if_neg (by omega), if_neg k2, if_pos k3] at he
      unfold synE at he
      split at he
      · rename_i hf
        exact hpl _ hf
      · rename_i hf
        exact absurd he hf
    by_cases k4 : o.k = 4
    · rw [if_neg (by omega), if_neg k2, if_neg k3, if_pos k4] at he
      unfold truE at he
      split at he
      · rename_i hf
        exact hpl _ hf
      · rename_i hf
        exact absurd he hf
    · rw [if_neg (by omega), if_neg k2, if_neg k3, if_neg k4, if_pos (by omega)] at he
      unfold renE synE at he
      split at he
      · split at he
        · rename_i hf
          exact hpl _ hf
        · rename_i hf
          exact absurd he hf
      · rename_i ha
        exact absurd he ha
  · rw [if_neg (by omega), if_neg (by omega), if_neg (by omega), if_pos hk] at he
    unfold truE at he
    split at he
    · rename_i hf
      split at he
      · omega
      · rename_i hb
        obtain ⟨j, hj, hjl, -, kw⟩ := h.place (find_some hf).1
        rw [hi] at hj
        cases hj
        have hb2 : bad S (fil S o.a.data.toList) o.n = false := by simpa using hb
        unfold bad at hb2
        have h9 := of_decide_eq_false hb2
        rw [kw.data] at h9
        rw [wat_eq hjl]
        omega
    · rename_i hf
      exact absurd he hf
end
end Dk
/-- the disk and the words, apart -/
structure LM (B : Nat) (K : Nat → Prop) (w : World) (g : Nat) (S : Dk.DS) (M : Mm) (v : Value) (xs : List WE) : Prop where
  dm : DM B w g S M
  wm : WM B K w v xs
  kt : ∀ q, K q → KT B w q
  ks : ∀ q, K q → ¬ Ft g S M q
  vs : ∀ q, v.ownBlock = some q → ¬ Ft g S M q
section
variable {B g : Nat} {K : Nat → Prop} {w w' : World} {S S' : Dk.DS} {M : Mm} {v v' : Value} {xs ys : List WE}
theorem LM.kept (h : LM B K w g S M v xs) (hb : Below w.heap.size w w') : LM B K w' g S M v xs :=
  ⟨h.dm.kept hb, h.wm.kept hb, fun q hq => (h.kt q hq).kept hb, h.ks, h.vs⟩
/-- the disk changes -/
theorem LM.do (h : LM B K w g S M v xs) (hB : B ≤ w.heap.size) (hp : DPost B g S M w S' w') : ∃ M', LM B K w' g S' M' v xs ∧ Below B w w' ∧ B ≤ w'.heap.size := by
  obtain ⟨M', h1, h2, h3⟩ := hp
  refine ⟨M', ⟨h1, h.wm.blk fun q hq hl => h2.block q hl fun e => ?_, fun q hq => (h.kt q hq).blk (h2.block q (h.kt q hq).lt fun e => h.ks q hq e), fun q hq e => ?_, fun q hq e => ?_⟩, h2.below B hB fun q hq => (h.dm.ft hq).1, Nat.le_trans hB h2.size⟩
  · rcases hq with hq | hq
    · exact h.ks q hq e
    · exact h.vs q hq e
  · rcases h3 q e with e2 | e2
    · exact h.ks q hq e2
    · have := (h.kt q hq).lt
      omega
  · rcases h3 q e with e2 | e2
    · exact h.vs q hq e2
    · have := (World.ownsRow.lt h.wm.row q hq).2
      omega
/-- the words change -/
theorem LM.noted (h : LM B K w g S M v xs) (hB : B ≤ w.heap.size) (hp : NtP B K w v w' v' ys) : LM B (fun q => K q ∨ KT w.heap.size w' q) w' g S M v' ys ∧ Below B w w' ∧ B ≤ w'.heap.size := by
  refine ⟨⟨h.dm.blk fun q hq => hp.fr.block q (h.dm.ft hq).2 fun e => h.vs q e hq, hp.wm, fun q hq => ?_, fun q hq e => ?_, fun q hq e => ?_⟩, hp.fr.below B hB fun q e => (World.ownsRow.lt h.wm.row q e).1, Nat.le_trans hB hp.fr.size⟩
  · rcases hq with hq | hq
    · exact (h.kt q hq).blk (hp.fr.block q (h.kt q hq).lt fun e => h.wm.nk q e (h.kt q hq))
    · exact ⟨Nat.le_trans hB hq.1, hq.2⟩
  · rcases hq with hq | hq
    · exact h.ks q hq e
    · have h1 := (h.dm.ft e).2
      have h2 := hq.1
      omega
  · rcases hp.row q hq with e2 | e2
    · exact h.vs q e2 e
    · have h1 := (h.dm.ft e).2
      omega
/-- a disk, and words made behind it -/
theorem LM.new (h : DM B w g S M) (hb : Below w.heap.size w w') (hw : WM w.heap.size (KT w.heap.size w') w' v xs) (hB : B ≤ w.heap.size) : LM B (KT w.heap.size w') w' g S M v xs := by
  refine ⟨h.kept hb, hw.low hB, fun q hq => ⟨Nat.le_trans hB hq.1, hq.2⟩, fun q hq e => ?_, fun q hq e => ?_⟩
  · have h1 := (h.ft e).2
    have h2 := hq.1
    omega
  · have h1 := (h.ft e).2
    have h2 := (World.ownsRow.lt hw.row q hq).1
    omega
end
end Go.Proofs.Ytjepeeopjjnglaa
