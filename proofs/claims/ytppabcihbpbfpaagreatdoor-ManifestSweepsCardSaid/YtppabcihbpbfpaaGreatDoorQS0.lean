import Derived.Test.YtppabcihbpbfpaaGreatDoorQKx
/-
  ManifestSweeps, no program: names removed from a disk whose files last.
-/
namespace Go.Proofs.YtppabcihbpbfpaaGreatDoor
open Go Go.RowKit
open Wb
open Rd
namespace Dk
/-- all lasts -/
structure Syn (S : DS) : Prop where
  ri : rising S.nm
  la : S.la = S.nm
  ch : S.ch = []
  sy : ∀ p ∈ S.nm, (S.fo p.2).syn = (S.fo p.2).data.length
/-- these names are removed, not yet for good -/
structure RT (S T : DS) (l : List (List UInt8)) : Prop where
  nm : T.nm = S.nm.filter fun p => !l.contains p.1
  la : T.la = S.nm
  ch : T.ch = l.map fun s => ⟨s, [], none⟩
  fo : T.fo = S.fo
theorem filter_del (nm : Nm) (l : List (List UInt8)) (s : List UInt8) : (del nm s).filter (fun p => !l.contains p.1) = nm.filter fun p => !(s :: l).contains p.1 := by
  unfold del
  rw [List.filter_filter]
  congr 1
  funext p
  rw [List.contains_cons]
  cases p.1 == s <;> simp
theorem del_filter (nm : Nm) (l : List (List UInt8)) (s : List UInt8) : del (nm.filter fun p => !l.contains p.1) s = nm.filter fun p => !(l ++ [s]).contains p.1 := by
  unfold del
  rw [List.filter_filter]
  congr 1
  funext p
  have e : (l ++ [s]).contains p.1 = (l.contains p.1 || (p.1 == s)) := by
    rw [List.contains_eq_any_beq, List.contains_eq_any_beq, List.any_append]
    simp
  rw [e]
  cases l.contains p.1 <;> cases p.1 == s <;> rfl
theorem lvF_rem : ∀ (l : List (List UInt8)) (nm : Nm), lvF (l.map fun s => (⟨s, [], none⟩ : Ch)) nm = nm.filter fun p => !l.contains p.1
  | [], nm => by
    show nm = nm.filter fun _ => true
    rw [List.filter_eq_self.2 (fun _ _ => rfl)]
  | s :: r, nm => by
    show lvF (r.map fun s => (⟨s, [], none⟩ : Ch)) (Ch.app ⟨s, [], none⟩ nm) = _
    rw [lvF_rem r, ← filter_del]
    rfl
theorem RT.crash {S T : DS} {l : List (List UInt8)} (h : RT S T l) (hS : Syn S) (keep : Int) (cs : List (Int × Int)) : ∃ j, Dk.crash T keep cs = (S.nm.filter fun p => !(l.take j).contains p.1).map fun p => (p.1, (S.fo p.2).data) := by
  refine ⟨lvK T keep, ?_⟩
  unfold Dk.crash lvN
  rw [h.ch, h.la, ← List.map_take, lvF_rem, h.fo]
  unfold crL
  refine List.ext_getElem (by simp) fun i h1 h2 => ?_
  rw [List.getElem_mapIdx, List.getElem_map]
  rw [List.length_mapIdx] at h1
  have hm := (List.mem_filter.1 (List.getElem_mem h1)).1
  have hs := hS.sy _ hm
  refine Prod.ext rfl ?_
  show lv (S.fo _) _ = _
  have e : ∀ x : Fl, x.syn = x.data.length → ∀ c, lv x c = x.data := fun x hx c => by
    obtain ⟨d, n⟩ := x
    simp only at hx
    subst hx
    exact lv_syn d c
  exact e _ hs _
theorem rms_rt {S : DS} (hS : Syn S) : ∀ (l l0 : List (List UInt8)) (T : DS), RT S T l0 → T.down = false → (l0 ++ l).Nodup → (∀ s ∈ l, isNm s = true ∧ ∃ f, get S.nm s = some f) →
    ∃ l1 l2, l = l1 ++ l2 ∧ RT S (rms T l).1 (l0 ++ l1) ∧ (((rms T l).2 = 0 ∧ l2 = [] ∧ (rms T l).1.down = false) ∨ ((rms T l).2 = 60 ∧ (rms T l).1.down = true))
  | [], l0, T, h, hd, _, _ => ⟨[], [], rfl, by rw [List.append_nil]; exact h, .inl ⟨rfl, rfl, hd⟩⟩
  | x :: r, l0, T, h, hd, hn, hl => by
    obtain ⟨hx1, f, hf⟩ := hl x (List.mem_cons_self ..)
    have hx0 : x ∉ l0 := fun hm => (List.nodup_append.1 hn).2.2 x hm x (List.mem_cons_self ..) rfl
    have hgT : get T.nm x = some f := by
      have h1 : rising T.nm := by
        rw [h.nm]
        exact hS.ri.filter _
      refine mem_get h1 ?_
      rw [h.nm]
      refine List.mem_filter.2 ⟨get_mem hf, ?_⟩
      show (!l0.contains x) = true
      rw [Bool.not_eq_true', Bool.eq_false_iff]
      intro hc
      exact hx0 (List.contains_iff_mem.1 hc)
    have hfE : findE T x = (0, some f) := by
      have ha : askE T [x] = 0 := by
        unfold askE
        rw [if_neg (by rw [hd]; decide), if_pos (by simp [hx1])]
      unfold findE
      rw [if_pos ha, hgT]
    have hsy : synE T x = (cnt T).1 := by
      unfold synE
      rw [hfE, if_pos rfl]
    have hrm : rem T x = if (cnt T).1 = 0 then { (cnt T).2 with nm := Ch.app ⟨x, [], none⟩ (cnt T).2.nm, ch := (cnt T).2.ch ++ [⟨x, [], none⟩] } else (cnt T).2 := by
      unfold rem
      rw [hfE, if_pos rfl]
    have hc : ((cnt T).1 = 60 ∧ (cnt T).2.down = true ∨ (cnt T).1 = 0 ∧ (cnt T).2.down = false) ∧ (cnt T).2.nm = T.nm ∧ (cnt T).2.la = T.la ∧ (cnt T).2.ch = T.ch ∧ (cnt T).2.fo = T.fo := by
      unfold cnt
      split
      · exact ⟨.inr ⟨rfl, hd⟩, rfl, rfl, rfl, rfl⟩
      · split
        · exact ⟨.inl ⟨rfl, rfl⟩, rfl, rfl, rfl, rfl⟩
        · exact ⟨.inr ⟨rfl, hd⟩, rfl, rfl, rfl, rfl⟩
    obtain ⟨hc1, c1, c2, c3, c4⟩ := hc
    rcases hc1 with ⟨e1, e2⟩ | ⟨e1, e2⟩
    · have hs1 : ¬ synE T x = 0 := by rw [hsy, e1]; decide
      have e : rms T (x :: r) = (rem T x, synE T x) := if_neg hs1
      rw [if_neg (by rw [e1]; decide)] at hrm
      refine ⟨[], x :: r, rfl, ?_, .inr ?_⟩
      · rw [e, List.append_nil, hrm]
        exact ⟨c1.trans h.nm, c2.trans h.la, c3.trans h.ch, c4.trans h.fo⟩
      · rw [e, hrm, hsy]
        exact ⟨e1, e2⟩
    · have hs1 : synE T x = 0 := hsy.trans e1
      have e : rms T (x :: r) = rms (rem T x) r := if_pos hs1
      rw [if_pos e1] at hrm
      have h2 : RT S (rem T x) (l0 ++ [x]) := by
        rw [hrm]
        refine ⟨?_, c2.trans h.la, ?_, c4.trans h.fo⟩
        · show del (cnt T).2.nm x = _
          rw [c1, h.nm, del_filter]
        · show (cnt T).2.ch ++ [_] = _
          rw [c3, h.ch, List.map_append]
          rfl
      have hd2 : (rem T x).down = false := by
        rw [hrm]
        exact e2
      obtain ⟨l1, l2, q1, q2, q3⟩ := rms_rt hS r (l0 ++ [x]) (rem T x) h2 hd2 (by rw [List.append_assoc]; exact hn) fun s hs => hl s (List.mem_cons_of_mem _ hs)
      refine ⟨x :: l1, l2, by rw [q1]; rfl, ?_, ?_⟩
      · rw [e]
        rw [List.append_assoc] at q2
        exact q2
      · rw [e]
        exact q3
theorem sd_rt {S T : DS} {l : List (List UInt8)} (h : RT S T l) (hd : T.down = false) : (sdE T = 0 ∧ (sd T).nm = T.nm ∧ (sd T).la = T.nm ∧ (sd T).ch = [] ∧ (sd T).fo = T.fo ∧ (sd T).down = false) ∨ (sdE T = 60 ∧ RT S (sd T) l ∧ (sd T).down = true) := by
  have ha : askE T [] = 0 := by
    unfold askE
    rw [if_neg (by rw [hd]; decide)]
    rfl
  unfold sdE sd
  rw [if_pos ha, if_pos ha]
  unfold cnt
  split
  · exact .inl ⟨rfl, rfl, rfl, rfl, rfl, hd⟩
  · split
    · exact .inr ⟨rfl, ⟨h.nm, h.la, h.ch, h.fo⟩, rfl⟩
    · exact .inl ⟨rfl, rfl, rfl, rfl, rfl, hd⟩
/-- a disk that was just loaded lasts -/
theorem syn_load {S : DS} {q : Int} {fs : List (List UInt8 × List Nat)} (hr : Rl S (rbgn q fs)) (hri : rising S.nm) : Syn S := by
  have hc : S.ch = [] := by
    have h9 := hr.ch.len
    exact List.eq_nil_of_length_eq_zero h9.symm
  have hnl : S.la = S.nm := by
    rw [hr.nm, hr.la]
    rfl
  refine ⟨hri, hnl, hc, fun p hp => ?_⟩
  rw [hr.nm] at hp
  obtain ⟨p0, hp0, rfl⟩ := List.mem_map.1 hp
  obtain ⟨-, t, h1, h2⟩ := hr.okn p0 hp0
  have h3 := hr.fo p0.2 t h1 h2
  show (S.fo (ix S p0.2)).syn = (S.fo (ix S p0.2)).data.length
  rw [h3]
  obtain ⟨x, -, rfl⟩ := List.mem_map.1 (show t ∈ bth fs from List.mem_of_getElem? h1)
  rfl
end Dk
end Go.Proofs.YtppabcihbpbfpaaGreatDoor
