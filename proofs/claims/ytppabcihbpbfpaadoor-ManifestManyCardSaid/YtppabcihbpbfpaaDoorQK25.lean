import Derived.BigQuiet
import Derived.Test.YtppabcihbpbfpaaDoorQK24
/-
  ManifestMany: swept.
-/
namespace Go.Proofs.YtppabcihbpbfpaaDoor
open Go Go.RowKit Go.ChangeShapes
open Wb
open Rd
namespace Sw
open Dk
/-- the names that go -/
def gon (S : DS) (k : Nat) : List (List UInt8) := (S.nm.map (·.1)).filter (old (fun u => decide ((k : Int) = u)))
theorem load_quiet {S : DS} {q : Int} {fs : List (List UInt8 × List Nat)} {N : Nat} (hr : Rl S (rbgn q fs)) (hW : WF S N) : Qt S := by
  have h1 := hr.arm
  have h2 := hr.down
  have e1 : (rbgn q fs).left = -1 := rfl
  have e2 : (rbgn q fs).down = false := rfl
  rw [e1] at h1
  rw [e2] at h2
  refine ⟨?_, h2.symm⟩
  cases ha : S.armed with
  | false => rfl
  | true =>
    rw [if_pos ha] at h1
    have := hW.ar ha
    omega
theorem many_chk {n k : Nat} (hn : n ≤ 600) (hk : 1 ≤ k ∧ k ≤ n) : chkM ⟨1, 3, ((n : Int) + 2), 0, [⟨(k : Int), 0, 0⟩]⟩ = 0 := by
  unfold chkM
  rw [if_neg (by show ¬ ¬ ((1 : Int) ≤ 1 ∧ (1 : Int) ≤ 1099511627776); omega), if_neg (by show ¬ ((3 : Int) < 1 ∨ (3 : Int) < 3); omega), if_neg (by show ¬ ¬ (1 ≤ (n : Int) + 2 ∧ (n : Int) + 2 ≤ 1099511627776); omega), if_neg (by show ¬ ((0 : Int) < 0); omega), if_neg (by simp), if_pos ?_]
  show (sgOk ((n : Int) + 2) 0 true ⟨(k : Int), 0, 0⟩ && true) = true
  unfold sgOk
  simp
  omega
theorem cnd_one (k : Int) : cnd [⟨k, 0, 0⟩] = fun u => decide (k = u) := by
  funext u
  unfold cnd
  rw [List.any_cons, List.any_nil, Bool.or_false]
theorem many_swR {S : DS} {n k N : Nat} (hr : Rl S (rbgn 4194304 (many n))) (hW : WF S N) (hri : rising S.nm) (hn : n ≤ 600) (hk : 1 ≤ k ∧ k ≤ n) :
    (swR S ⟨1, 3, ((n : Int) + 2), 0, [⟨(k : Int), 0, 0⟩]⟩).2.1 = 0 ∧ (swR S ⟨1, 3, ((n : Int) + 2), 0, [⟨(k : Int), 0, 0⟩]⟩).2.2 = gon S k ∧ (Dk.files (swR S ⟨1, 3, ((n : Int) + 2), 0, [⟨(k : Int), 0, 0⟩]⟩).1).map (·.1) = [foreignN, sN k] ∧ WF (swR S ⟨1, 3, ((n : Int) + 2), 0, [⟨(k : Int), 0, 0⟩]⟩).1 (N + (gon S k).length) := by
  have hq := load_quiet hr hW
  have hl := many_left hr hri (by omega) hk
  have hnd : (gon S k).Nodup := (names_nd hri).filter _
  have hmem : ∀ s ∈ gon S k, isNm s = true ∧ ∃ f, get S.nm s = some f := fun s hs => by
    obtain ⟨h1, -⟩ := List.mem_filter.1 hs
    obtain ⟨p, hp, rfl⟩ := List.mem_map.1 h1
    exact ⟨hW.nm p hp, p.2, mem_get hri hp⟩
  obtain ⟨h1, h2⟩ := hq.rms (gon S k) hnd hmem
  have hL : (lst S).filter (old (cnd [⟨(k : Int), 0, 0⟩])) = gon S k := by
    rw [hq.lst, cnd_one]
    rfl
  have hf : ∀ T, Rmd S T (gon S k) → (Dk.files T).map (·.1) = [foreignN, sN k] := fun T hT => by
    rw [hT.files, ← hl.1]
    have e1 : (Dk.files S).map (·.1) = S.nm.map (·.1) := by
      unfold Dk.files
      rw [List.map_map]
      rfl
    have e2 : ((Dk.files S).filter fun x => !(gon S k).contains x.1).map (·.1) = ((Dk.files S).map (·.1)).filter fun s => !(gon S k).contains s := by
      rw [List.filter_map]
      rfl
    rw [e2, e1]
    refine List.filter_congr fun s hs => ?_
    congr 1
    cases ho : old (fun u => decide ((k : Int) = u)) s with
    | true => exact List.contains_iff_mem.2 (List.mem_filter.2 ⟨hs, ho⟩)
    | false =>
      rw [Bool.eq_false_iff]
      intro hc
      have := (List.mem_filter.1 (List.contains_iff_mem.1 hc)).2
      rw [ho] at this
      cases this
  have hW2 := hW.rms (gon S k)
  obtain ⟨h3, h4⟩ := h2.qt.sd
  have h5 : Rmd S (Dk.sd (Dk.rms S (gon S k)).1) (gon S k) := by
    refine ⟨h4.qt, ?_, h4.fo.trans h2.fo, h4.ids.trans h2.ids⟩
    rw [h4.nm, h2.nm]
    exact List.filter_eq_self.2 fun _ _ => rfl
  have hR : swR S ⟨1, 3, ((n : Int) + 2), 0, [⟨(k : Int), 0, 0⟩]⟩ = if gon S k = [] then (S, 0, []) else (Dk.sd (Dk.rms S (gon S k)).1, 0, gon S k) := by
    unfold swR
    rw [if_neg (by rw [hq.dn]; decide), if_neg (by rw [many_chk hn hk]; decide)]
    show (let L := (lst S).filter (old (cnd [⟨(k : Int), 0, 0⟩])); _) = _
    rw [hL]
    show (if (Dk.rms S (gon S k)).2 ≠ 0 then _ else if gon S k = [] then _ else if sdE (Dk.rms S (gon S k)).1 ≠ 0 then _ else _) = _
    rw [if_neg (by rw [h1]; decide), if_neg (c := sdE (Dk.rms S (gon S k)).1 ≠ 0) (by rw [h3]; decide)]
  rw [hR]
  by_cases hg : gon S k = []
  · rw [if_pos hg]
    refine ⟨rfl, hg.symm, hf S ⟨hq, ?_, rfl, rfl⟩, by rw [hg]; exact hW⟩
    rw [hg]
    exact (List.filter_eq_self.2 fun _ _ => rfl).symm
  · rw [if_neg hg]
    exact ⟨rfl, rfl, hf _ h5, hW2.sd⟩
end Sw
end Go.Proofs.YtppabcihbpbfpaaDoor
