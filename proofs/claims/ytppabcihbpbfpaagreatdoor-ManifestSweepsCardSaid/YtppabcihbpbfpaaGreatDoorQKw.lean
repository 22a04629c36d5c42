import Derived.Test.YtppabcihbpbfpaaGreatDoorQK9
/-
  Package manifest on a disk, no program: names removed one after the other.
-/
namespace Go.Proofs.YtppabcihbpbfpaaGreatDoor
open Go Go.RowKit
open Wb
namespace Dk
/-- Remove, one after the other, till one is refused -/
def rms (S : DS) : List (List UInt8) → DS × Int
  | [] => (S, 0)
  | s :: r => if synE S s = 0 then rms (rem S s) r else (rem S s, synE S s)
theorem rms_snoc (s : List UInt8) : ∀ (l : List (List UInt8)) (S : DS), (rms S l).2 = 0 → rms S (l ++ [s]) = (rem (rms S l).1 s, synE (rms S l).1 s)
  | [], S, _ => by
    show (if synE S s = 0 then _ else _) = _
    by_cases h : synE S s = 0
    · rw [if_pos h]
      show (rem S s, (0 : Int)) = (rem S s, synE S s)
      rw [h]
    · rw [if_neg h]
      rfl
  | x :: r, S, h => by
    show (if synE S x = 0 then rms (rem S x) (r ++ [s]) else _) = _
    by_cases hx : synE S x = 0
    · have e : rms S (x :: r) = rms (rem S x) r := if_pos hx
      rw [e] at h ⊢
      rw [if_pos hx]
      exact rms_snoc s r _ h
    · have e : rms S (x :: r) = (rem S x, synE S x) := if_neg hx
      rw [e] at h
      exact absurd h hx
theorem rms_pre : ∀ (l l2 : List (List UInt8)) (S : DS), (rms S l).2 ≠ 0 → rms S (l ++ l2) = rms S l
  | [], _, S, h => absurd rfl h
  | x :: r, l2, S, h => by
    by_cases hx : synE S x = 0
    · have e : rms S (x :: r) = rms (rem S x) r := if_pos hx
      have e2 : rms S (x :: r ++ l2) = rms (rem S x) (r ++ l2) := if_pos hx
      rw [e] at h ⊢
      rw [e2]
      exact rms_pre r l2 _ h
    · have e : rms S (x :: r) = (rem S x, synE S x) := if_neg hx
      have e2 : rms S (x :: r ++ l2) = (rem S x, synE S x) := if_neg hx
      rw [e, e2]
theorem WF.rms : ∀ (l : List (List UInt8)) {S : DS} {N : Nat}, WF S N → WF (Dk.rms S l).1 (N + l.length)
  | [], _, _, h => h
  | x :: r, S, N, h => by
    have h1 := h.rem x
    by_cases hx : synE S x = 0
    · have e : Dk.rms S (x :: r) = Dk.rms (Dk.rem S x) r := if_pos hx
      rw [e]
      have h2 := WF.rms r h1
      rw [List.length_cons]
      exact h2.mono (by omega)
    · have e : Dk.rms S (x :: r) = (Dk.rem S x, synE S x) := if_neg hx
      rw [e, List.length_cons]
      exact h1.mono (by omega)
/-- a disk that is not armed, and not down -/
structure Qt (S : DS) : Prop where
  ar : S.armed = false
  dn : S.down = false
theorem Qt.cnt {S : DS} (h : Qt S) : Dk.cnt S = (0, S) := by
  unfold Dk.cnt
  rw [if_pos h.ar]
theorem Qt.ask {S : DS} (h : Qt S) {l : List (List UInt8)} (hl : l.all isNm = true) : askE S l = 0 := by
  unfold askE
  rw [if_neg (by rw [h.dn]; decide), if_pos hl]
theorem Qt.rem {S : DS} (h : Qt S) {s : List UInt8} {f : Nat} (hn : isNm s = true) (hg : get S.nm s = some f) : synE S s = 0 ∧ Dk.rem S s = { S with nm := del S.nm s, ch := S.ch ++ [⟨s, [], none⟩] } := by
  have h0 : findE S s = (0, some f) := by
    unfold findE
    rw [if_pos (h.ask (by simp [hn])), hg]
  refine ⟨?_, ?_⟩
  · unfold synE
    rw [h0, if_pos rfl, h.cnt]
  · unfold Dk.rem
    rw [h0, if_pos rfl, h.cnt, if_pos rfl]
    rfl
/-- all of a list are removed -/
structure Rmd (S T : DS) (l : List (List UInt8)) : Prop where
  qt : Qt T
  nm : T.nm = S.nm.filter fun p => !l.contains p.1
  fo : T.fo = S.fo
  ids : T.ids = S.ids
theorem Qt.rms : ∀ (l : List (List UInt8)) {S : DS}, Qt S → l.Nodup → (∀ s ∈ l, isNm s = true ∧ ∃ f, get S.nm s = some f) → (Dk.rms S l).2 = 0 ∧ Rmd S (Dk.rms S l).1 l
  | [], S, h, _, _ => ⟨rfl, h, (by
    show S.nm = S.nm.filter fun _ => true
    rw [List.filter_eq_self.2 (fun _ _ => rfl)]), rfl, rfl⟩
  | x :: r, S, h, hn, hl => by
    obtain ⟨f, hf⟩ := (hl x (List.mem_cons_self ..)).2
    obtain ⟨h1, h2⟩ := h.rem (hl x (List.mem_cons_self ..)).1 hf
    have e : Dk.rms S (x :: r) = Dk.rms (Dk.rem S x) r := if_pos h1
    have hxr := (List.nodup_cons.1 hn).1
    have hq : Qt (Dk.rem S x) := by
      rw [h2]
      exact ⟨h.ar, h.dn⟩
    have hnm : (Dk.rem S x).nm = del S.nm x := by rw [h2]
    obtain ⟨h3, h4⟩ := Qt.rms r hq (List.nodup_cons.1 hn).2 fun s hs => by
      obtain ⟨h5, f2, h6⟩ := hl s (List.mem_cons_of_mem _ hs)
      refine ⟨h5, f2, ?_⟩
      rw [hnm, get_del, if_neg (fun e => hxr (by rw [← e]; exact hs))]
      exact h6
    rw [e]
    refine ⟨h3, h4.qt, ?_, ?_, ?_⟩
    · rw [h4.nm, hnm]
      unfold del
      rw [List.filter_filter]
      congr 1
      funext p
      rw [List.contains_cons]
      cases p.1 == x <;> simp
    · rw [h4.fo, h2]
    · rw [h4.ids, h2]
theorem Qt.sd {S : DS} (h : Qt S) : sdE S = 0 ∧ Rmd S (Dk.sd S) [] := by
  have ha : askE S [] = 0 := h.ask rfl
  refine ⟨?_, ?_⟩
  · unfold sdE
    rw [if_pos ha, h.cnt]
  · unfold Dk.sd
    rw [if_pos ha, h.cnt, if_pos rfl]
    exact ⟨⟨h.ar, h.dn⟩, (by
      show S.nm = S.nm.filter fun _ => true
      rw [List.filter_eq_self.2 (fun _ _ => rfl)]), rfl, rfl⟩
theorem Rmd.files {S T : DS} {l : List (List UInt8)} (h : Rmd S T l) : files T = (files S).filter fun x => !l.contains x.1 := by
  unfold Dk.files
  rw [h.nm, h.fo, List.filter_map]
  rfl
theorem Qt.lst {S : DS} (h : Qt S) : Dk.lst S = S.nm.map (·.1) := by
  unfold Dk.lst
  rw [if_neg (by rw [h.dn]; decide)]
/-- the names in their order, each once -/
theorem names_nd {l : Nm} (h : rising l) : (l.map (·.1)).Nodup := by
  refine List.pairwise_map.2 (h.imp fun {p q} hpq e => ?_)
  rw [e, bb_irrefl] at hpq
  cases hpq
end Dk
end Go.Proofs.YtppabcihbpbfpaaGreatDoor
