/-
  Package disk: what is loaded stands, and outlives a crash.
-/
import Derived.Test.YtjepeeopjjnglaaDkq
namespace Go.Proofs.Ytjepeeopjjnglaa
open Go Go.RowKit Go.ChangeShapes
namespace Dk
abbrev Lx := List ((List UInt8 × List Nat) × Nat)
/-- the names of what is loaded -/
def nmx (xs : Lx) : Nm := xs.map fun x => (x.1.1, x.2)
/-- files that Load takes -/
structure Gd (fs : List (List UInt8 × List Nat)) : Prop where
  nm : ∀ x ∈ fs, isNm x.1 = true
  ri : fs.Pairwise fun x y => bytesBefore x.1 y.1 = true
/-- behind the Creates -/
structure CG (q : Int) (A : Nm) (S : DS) : Prop where
  quota : S.quota = q
  taken : S.taken = 0
  nm : S.nm = A
  armed : S.armed = false
  down : S.down = false
  fo : ∀ p ∈ A, S.fo p.2 = ⟨[], 0⟩
theorem ask_yes {S : DS} {s : List UInt8} (hd : S.down = false) (hs : isNm s = true) : askE S [s] = 0 := by simp [askE, hd, hs]
theorem CG.step {q : Int} {A : Nm} {S : DS} (h : CG q A S) (s : List UInt8) (f : Nat) (hs : isNm s = true) (hA : ∀ p ∈ A, isNm p.1 = true ∧ bytesBefore p.1 s = true) : crtE S s = 0 ∧ CG q (A ++ [(s, f)]) (crt S s f) := by
  have ha := ask_yes h.down hs
  have hg : get S.nm s = none := by
    cases hg : get S.nm s with
    | none => rfl
    | some k =>
      have h9 := (hA _ (h.nm ▸ get_mem hg)).2
      rw [bb_irrefl] at h9
      cases h9
  have hdel : del S.nm [] = A := by
    rw [h.nm]
    unfold del
    rw [List.filter_eq_self]
    intro p hp
    have h9 := (isNm_len (hA p hp).1).1
    have : (p.1 == ([] : List UInt8)) = false := by simpa using h9
    rw [this]
    rfl
  have hap : Ch.app ⟨[], s, some f⟩ S.nm = A ++ [(s, f)] := by
    unfold Ch.app
    rw [if_neg (isNm_len hs).1]
    show put (del S.nm []) s f = _
    rw [hdel, put_last A s f fun p hp => (hA p hp).2]
  refine ⟨?_, ?_⟩
  · unfold crtE
    rw [if_pos ha, hg, cnt_un h.armed]
    rfl
  · unfold crt
    rw [if_pos ⟨ha, by rw [hg]; rfl⟩, cnt_un h.armed, if_pos rfl]
    refine ⟨h.quota, h.taken, hap, h.armed, h.down, fun p hp => ?_⟩
    show upd S.fo f ⟨[], 0⟩ p.2 = _
    by_cases e : p.2 = f
    · rw [e, upd_same]
    · rw [upd_ne _ _ e]
      rcases List.mem_append.1 hp with h9 | h9
      · exact h.fo p h9
      · rw [List.mem_singleton.1 h9] at e
        exact absurd rfl e
theorem CG.all {q : Int} : ∀ (xs : Lx) (A : Nm) (S : DS), CG q A S → (∀ p ∈ A, isNm p.1 = true ∧ ∀ x ∈ xs, bytesBefore p.1 x.1.1 = true) → (∀ x ∈ xs, isNm x.1.1 = true) → (xs.Pairwise fun x y => bytesBefore x.1.1 y.1.1 = true) → CG q (A ++ nmx xs) (xs.foldl (fun S x => crt S x.1.1 x.2) S)
  | [], A, S, h, _, _, _ => by
    have e : nmx [] = [] := rfl
    rw [e, List.append_nil]
    exact h
  | x :: r, A, S, h, hA, hn, hr => by
    have hp := List.pairwise_cons.1 hr
    have h1 := (h.step x.1.1 x.2 (hn x (List.mem_cons_self ..)) fun p hp => ⟨(hA p hp).1, (hA p hp).2 x (List.mem_cons_self ..)⟩).2
    have h2 := CG.all r _ _ h1 (fun p hp' => by
      rcases List.mem_append.1 hp' with h9 | h9
      · exact ⟨(hA p h9).1, fun y hy => (hA p h9).2 y (List.mem_cons_of_mem _ hy)⟩
      · rw [List.mem_singleton.1 h9]
        exact ⟨hn x (List.mem_cons_self ..), fun y hy => hp.1 y hy⟩) (fun y hy => hn y (List.mem_cons_of_mem _ hy)) hp.2
    rw [List.append_assoc] at h2
    exact h2
theorem zip_sub {α β : Type} {R : α → α → Prop} : ∀ (fs : List α) (l : List β), fs.Pairwise R → (fs.zip l).Pairwise fun x y => R x.1 y.1
  | [], l, _ => by simp
  | x :: r, [], _ => by simp
  | x :: r, y :: l, h => by
    have hp := List.pairwise_cons.1 h
    rw [List.zip_cons_cons]
    exact List.pairwise_cons.2 ⟨fun z hz => hp.1 _ (List.of_mem_zip hz).1, zip_sub r l hp.2⟩
theorem CG.new (q : Int) : CG q [] (new q) := ⟨rfl, rfl, rfl, rfl, rfl, fun p hp => by cases hp⟩
theorem CG.crs {q : Int} {fs : List (List UInt8 × List Nat)} (hg : Gd fs) (l : List Nat) (i : Nat) : CG q (nmx ((fs.zip l).take i)) (crs q ((fs.zip l).take i)) := by
  have h9 := CG.all (q := q) ((fs.zip l).take i) [] (Dk.new q) (CG.new q) (fun p hp => by cases hp) (fun x hx => hg.nm _ (List.of_mem_zip (List.mem_of_mem_take hx)).1) ((zip_sub fs l hg.ri).sublist (List.take_sublist _ _))
  rw [List.nil_append] at h9
  exact h9
/-- no Create is refused -/
theorem Gd.crtE {q : Int} {fs : List (List UInt8 × List Nat)} (hg : Gd fs) (l : List Nat) (h : l.length < fs.length) : crtE (Dk.crs q (fs.zip l)) fs[l.length].1 = 0 := by
  have hzl : (fs.zip l).length = l.length := by rw [List.length_zip]; omega
  have h9 := CG.crs (q := q) hg l l.length
  rw [List.take_of_length_le (by omega)] at h9
  refine (h9.step _ 0 (hg.nm _ (List.getElem_mem h)) fun p hp => ?_).1
  obtain ⟨x, hx, rfl⟩ := List.mem_map.1 hp
  refine ⟨hg.nm _ (List.of_mem_zip hx).1, ?_⟩
  obtain ⟨i, hi, rfl⟩ := List.getElem_of_mem hx
  rw [List.getElem_zip]
  exact (List.pairwise_iff_getElem.1 hg.ri) i l.length (by omega) h (by omega)
end Dk
end Go.Proofs.Ytjepeeopjjnglaa
