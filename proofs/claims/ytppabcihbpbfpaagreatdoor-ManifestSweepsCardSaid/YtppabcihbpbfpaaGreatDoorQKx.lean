import Derived.Test.YtppabcihbpbfpaaGreatDoorQKw
import Derived.Test.YtppabcihbpbfpaaGreatDoorQKn
import Derived.Test.YtppabcihbpbfpaaGreatDoorQK18
/-
  ManifestMany, no program: many segments' files, and what a Sweep leaves of them.
-/
namespace Go.Proofs.YtppabcihbpbfpaaGreatDoor
open Go Go.RowKit
open Wb
open Rd
namespace Sw
open Dk
def foreignN : List UInt8 := [102, 111, 114, 101, 105, 103, 110]
def freshN : List UInt8 := [77, 65, 78, 73, 70, 69, 83, 84, 46, 116, 109, 112]
/-- a segment's file name -/
def sN (i : Nat) : List UInt8 := nmL ((i : Nat) : Int)
/-- the files -/
def many (n : Nat) : List (List UInt8 × List Nat) := (foreignN, []) :: (List.range n).map fun i => (sN (i + 1), [])
/-- does a name of the store's not count? -/
def old (cnt : Int → Bool) (s : List UInt8) : Bool := decide (s = freshN) || ((mNum s).2 && !cnt (mNum s).1)
theorem sN_num {i : Nat} (h1 : 1 ≤ i) (h2 : i ≤ 1099511627776) : mNum (sN i) = ((i : Int), true) := by
  unfold sN
  rw [num_back, if_pos (by omega)]
theorem sN_inj {i j : Nat} (h1 : 1 ≤ i) (h2 : i ≤ 1099511627776) (h3 : 1 ≤ j) (h4 : j ≤ 1099511627776) (h : sN i = sN j) : i = j := by
  have e := sN_num h1 h2
  rw [h, sN_num h3 h4] at e
  have := congrArg Prod.fst e
  simp at this
  omega
theorem sN_cons {i : Nat} (h1 : 1 ≤ i) (h2 : i ≤ 1099511627776) : sN i = 115 :: Lib.decDigits i := nm_in i h1 h2
theorem dig_okc {c : UInt8} (h : 48 ≤ c.toNat ∧ c.toNat ≤ 57) : okc c = true := by
  have key : ∀ n : Fin 256, 48 ≤ n.val ∧ n.val ≤ 57 → okc (UInt8.ofNat n.val) = true := by decide +kernel
  have := key ⟨c.toNat, c.toNat_lt⟩ h
  rwa [show UInt8.ofNat c.toNat = c from UInt8.ofNat_toNat] at this
theorem sN_nm {i : Nat} (h1 : 1 ≤ i) (h2 : i ≤ 1099511627776) : isNm (sN i) = true := by
  rw [sN_cons h1 h2]
  unfold isNm
  have hl : (Lib.decDigits i).length ≤ 13 := decDigits_short 12 i (by omega)
  rw [Bool.and_eq_true]
  refine ⟨decide_eq_true ⟨by simp, by rw [List.length_cons]; omega⟩, ?_⟩
  rw [List.all_cons, Bool.and_eq_true]
  refine ⟨by decide +kernel, List.all_eq_true.2 fun c hc => dig_okc (decDigits_dig i c hc)⟩
theorem foreign_nm : isNm foreignN = true := by decide +kernel
theorem foreign_num : mNum foreignN = (0, false) := by decide +kernel
theorem many_len (n : Nat) : (many n).length = n + 1 := by simp [many]
theorem many_names (n : Nat) : (many n).map (·.1) = foreignN :: (List.range n).map fun i => sN (i + 1) := by
  simp [many]
theorem many_mem {n : Nat} {s : List UInt8} : s ∈ (many n).map (·.1) ↔ s = foreignN ∨ ∃ i, 1 ≤ i ∧ i ≤ n ∧ s = sN i := by
  rw [many_names, List.mem_cons, List.mem_map]
  refine or_congr Iff.rfl ⟨fun ⟨i, hi, e⟩ => ⟨i + 1, by omega, by have := List.mem_range.1 hi; omega, e.symm⟩, fun ⟨i, h1, h2, e⟩ => ⟨i - 1, List.mem_range.2 (by omega), ?_⟩⟩
  rw [e, Nat.sub_add_cancel h1]
theorem foreign_ne {i : Nat} (h1 : 1 ≤ i) (h2 : i ≤ 1099511627776) : sN i ≠ foreignN := fun e => by
  have := sN_num h1 h2
  rw [e, foreign_num] at this
  cases this
theorem many_nd {n : Nat} (hn : n ≤ 1099511627776) : ((many n).map (·.1)).Nodup := by
  rw [many_names]
  refine List.nodup_cons.2 ⟨fun hm => ?_, ?_⟩
  · obtain ⟨i, hi, e⟩ := List.mem_map.1 hm
    have := List.mem_range.1 hi
    exact foreign_ne (by omega) (by omega) e
  · refine List.pairwise_map.2 (List.Pairwise.imp_of_mem (fun {a b} ha hb hab e => ?_) List.nodup_range)
    have := List.mem_range.1 ha
    have := List.mem_range.1 hb
    have := sN_inj (by omega) (by omega) (by omega) (by omega) e
    omega
theorem many_nm {n : Nat} (hn : n ≤ 1099511627776) : ∀ x ∈ many n, isNm x.1 = true := fun x hx => by
  have hm : x.1 ∈ (many n).map (·.1) := List.mem_map.2 ⟨x, hx, rfl⟩
  rcases many_mem.1 hm with e | ⟨i, h1, h2, e⟩
  · rw [e]
    exact foreign_nm
  · rw [e]
    exact sN_nm h1 (by omega)
theorem many_flen (n : Nat) : flen (many n) = 0 := by
  unfold flen many
  rw [List.map_cons, List.sum_cons, List.map_map]
  show 0 + _ = 0
  rw [Nat.zero_add]
  induction n with
  | zero => rfl
  | succ n ih => rw [List.range_succ, List.map_append, List.sum_append, ih]; rfl
/-- names that are names, each once: no error -/
theorem scn_ok : ∀ (fs : List (List UInt8 × List Nat)) (pre : List (List UInt8)), (∀ x ∈ fs, isNm x.1 = true) → (fs.map (·.1)).Nodup → (∀ x ∈ fs, x.1 ∉ pre) → scn pre fs = 0
  | [], _, _, _, _ => rfl
  | x :: r, pre, h1, h2, h3 => by
    unfold scn
    rw [List.map_cons] at h2
    obtain ⟨h4, h5⟩ := List.nodup_cons.1 h2
    rw [if_neg (by rw [h1 x (List.mem_cons_self ..)]; decide), if_neg (h3 x (List.mem_cons_self ..))]
    refine scn_ok r _ (fun y hy => h1 y (List.mem_cons_of_mem _ hy)) h5 fun y hy e => ?_
    rcases List.mem_append.1 e with e | e
    · exact h3 y (List.mem_cons_of_mem _ hy) e
    · exact h4 (List.mem_map.2 ⟨y, hy, List.mem_singleton.1 e⟩)
theorem many_ok {n : Nat} (hn : n ≤ 1099511627776) : rldE 4194304 (many n) = 0 := by
  unfold rldE
  have h0 := scn_ok (many n) [] (many_nm hn) (many_nd hn) fun _ _ => by simp
  rw [if_neg (by omega), if_neg (by rw [h0]; decide), many_flen, if_neg (by decide)]
/-- the names of a disk that was loaded -/
theorem load_names {S : DS} {q : Int} {fs : List (List UInt8 × List Nat)} (h : Rl S (rbgn q fs)) (s : List UInt8) : s ∈ S.nm.map (·.1) ↔ s ∈ fs.map (·.1) := by
  have e : S.nm.map (·.1) = (bnm fs fs.length).map (·.1) := by
    rw [h.nm]
    unfold mp
    rw [List.map_map]
    rfl
  have h9 := bnm_some (fs := fs) s fs.length (Nat.le_refl _)
  rw [List.take_length] at h9
  rw [e, ← h9]
  constructor
  · intro hm
    obtain ⟨p, hp, rfl⟩ := List.mem_map.1 hm
    unfold Dk.get
    rw [Option.isSome_map]
    exact List.find?_isSome.2 ⟨p, hp, by simp⟩
  · intro hs
    obtain ⟨f, hf⟩ := Option.isSome_iff_exists.1 hs
    exact List.mem_map.2 ⟨_, get_mem hf, rfl⟩
/-- a list without doubles lies in another: it is no longer -/
theorem sub_len {α : Type} [BEq α] [LawfulBEq α] : ∀ (a b : List α), a.Nodup → (∀ x ∈ a, x ∈ b) → a.length ≤ b.length
  | [], _, _, _ => Nat.zero_le _
  | x :: r, b, h, hs => by
    obtain ⟨h1, h2⟩ := List.nodup_cons.1 h
    have hx := hs x (List.mem_cons_self ..)
    have h3 := sub_len r (b.erase x) h2 fun y hy => (List.mem_erase_of_ne fun e => h1 (by rw [← e]; exact hy)).2 (hs y (List.mem_cons_of_mem _ hy))
    rw [List.length_erase_of_mem hx] at h3
    have := List.length_pos_of_mem hx
    rw [List.length_cons]
    omega
/-- two names in their order -/
theorem two_of {l : List (List UInt8)} {a b : List UInt8} (hl : l.Pairwise fun x y => bytesBefore x y = true) (hab : bytesBefore a b = true) (hm : ∀ s, s ∈ l ↔ s = a ∨ s = b) : l = [a, b] := by
  have hne : a ≠ b := fun e => by
    rw [e, bb_irrefl] at hab
    cases hab
  match l, hl, hm with
  | [], _, hm => exact absurd ((hm a).2 (.inl rfl)) (by simp)
  | x :: r, hl, hm =>
    obtain ⟨h1, h2⟩ := List.pairwise_cons.1 hl
    have hx : x = a := by
      rcases (hm x).1 (List.mem_cons_self ..) with e | e
      · exact e
      · rcases List.mem_cons.1 ((hm a).2 (.inl rfl)) with e2 | e2
        · exact e2.symm
        · have h3 := h1 a e2
          rw [e] at h3
          have h4 := bb_trans _ _ _ hab h3
          rw [bb_irrefl] at h4
          cases h4
    subst hx
    have hr : ∀ s, s ∈ r ↔ s = b := fun s => by
      constructor
      · intro hs
        rcases (hm s).1 (List.mem_cons_of_mem _ hs) with e | e
        · have h3 := h1 s hs
          rw [e, bb_irrefl] at h3
          cases h3
        · exact e
      · intro e
        rcases List.mem_cons.1 ((hm s).2 (.inr e)) with e2 | e2
        · exact absurd (e2.symm.trans e) hne
        · exact e2
    match r, h2, hr with
    | [], _, hr => exact absurd ((hr b).2 rfl) (by simp)
    | y :: t, h2, hr =>
      obtain ⟨h3, -⟩ := List.pairwise_cons.1 h2
      have hy := (hr y).1 (List.mem_cons_self ..)
      match t, h3, hr with
      | [], _, _ => rw [hy]
      | z :: u, h3, hr =>
        have hz := (hr z).1 (List.mem_cons_of_mem _ (List.mem_cons_self ..))
        have h4 := h3 z (List.mem_cons_self ..)
        rw [hy, hz, bb_irrefl] at h4
        cases h4
theorem foreign_before {i : Nat} (h1 : 1 ≤ i) (h2 : i ≤ 1099511627776) : bytesBefore foreignN (sN i) = true := by
  rw [sN_cons h1 h2]
  rfl
theorem old_foreign (c : Int → Bool) : old c foreignN = false := by
  unfold old
  rw [foreign_num]
  show (decide (foreignN = freshN) || (false && _)) = false
  rw [Bool.false_and, Bool.or_false]
  decide +kernel
theorem old_sN (c : Int → Bool) {i : Nat} (h1 : 1 ≤ i) (h2 : i ≤ 1099511627776) : old c (sN i) = !c (i : Int) := by
  unfold old
  rw [sN_num h1 h2]
  have : sN i ≠ freshN := fun e => by
    rw [sN_cons h1 h2] at e
    have := congrArg List.head? e
    simp [freshN] at this
  rw [decide_eq_false this]
  rfl
/-- what a Sweep for the number k alone leaves of many files -/
theorem many_left {S : DS} {q : Int} {n k : Nat} (hr : Rl S (rbgn q (many n))) (hri : rising S.nm) (hn : n ≤ 1099511627776) (hk : 1 ≤ k ∧ k ≤ n) :
    (S.nm.map (·.1)).filter (fun s => !old (fun u => decide ((k : Int) = u)) s) = [foreignN, sN k] ∧ ((S.nm.map (·.1)).filter (old (fun u => decide ((k : Int) = u)))).length = n - 1 ∧ ∀ s ∈ (S.nm.map (·.1)).filter (old (fun u => decide ((k : Int) = u))), ∃ i, 1 ≤ i ∧ i ≤ n ∧ i ≠ k ∧ s = sN i := by
  have hmem : ∀ s, s ∈ S.nm.map (·.1) ↔ s = foreignN ∨ ∃ i, 1 ≤ i ∧ i ≤ n ∧ s = sN i := fun s => (load_names hr s).trans many_mem
  have hpw : (S.nm.map (·.1)).Pairwise fun x y => bytesBefore x y = true := List.pairwise_map.2 hri
  have h1 : (S.nm.map (·.1)).filter (fun s => !old (fun u => decide ((k : Int) = u)) s) = [foreignN, sN k] := by
    refine two_of (hpw.filter _) (foreign_before hk.1 (by omega)) fun s => ?_
    rw [List.mem_filter, hmem]
    constructor
    · rintro ⟨e | ⟨i, i1, i2, e⟩, ho⟩
      · exact .inl e
      · rw [e, old_sN _ i1 (by omega)] at ho
        simp at ho
        have : i = k := by omega
        rw [this] at e
        exact .inr e
    · rintro (e | e)
      · exact ⟨.inl e, by rw [e, old_foreign]; rfl⟩
      · refine ⟨.inr ⟨k, hk.1, hk.2, e⟩, ?_⟩
        rw [e, old_sN _ hk.1 (by omega)]
        simp
  refine ⟨h1, ?_, fun s hs => ?_⟩
  · have hlen : (S.nm.map (·.1)).length = n + 1 := by
      have hnd := names_nd hri
      have e1 := sub_len _ _ hnd fun s hs => (load_names hr s).1 hs
      have e2 := sub_len _ _ (many_nd hn) fun s hs => (load_names hr s).2 hs
      simp only [List.length_map, many_len] at e1 e2 ⊢
      omega
    have h3 := List.length_eq_countP_add_countP (old (fun u => decide ((k : Int) = u))) (l := S.nm.map (·.1))
    rw [List.countP_eq_length_filter, List.countP_eq_length_filter, hlen] at h3
    have h4 : ((S.nm.map (·.1)).filter fun a => decide ¬ old (fun u => decide ((k : Int) = u)) a = true) = [foreignN, sN k] := by
      rw [← h1]
      congr 1
      funext a
      cases old (fun u => decide ((k : Int) = u)) a <;> rfl
    rw [h4] at h3
    have h5 : [foreignN, sN k].length = 2 := rfl
    omega
  · obtain ⟨h3, h4⟩ := List.mem_filter.1 hs
    rcases (hmem s).1 h3 with e | ⟨i, i1, i2, e⟩
    · rw [e, old_foreign] at h4
      cases h4
    · refine ⟨i, i1, i2, fun e2 => ?_, e⟩
      rw [e, old_sN _ i1 (by omega), e2] at h4
      simp at h4
end Sw
end Go.Proofs.YtppabcihbpbfpaaGreatDoor
