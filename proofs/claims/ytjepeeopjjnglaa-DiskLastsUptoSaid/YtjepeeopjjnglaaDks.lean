/-
  Package disk: what is loaded stands, and outlives a crash.
-/
import Derived.Test.YtjepeeopjjnglaaDkr
namespace Go.Proofs.Ytjepeeopjjnglaa
open Go Go.RowKit Go.ChangeShapes
namespace Dk
/-- how many bytes these files hold -/
def flen (fs : List (List UInt8 × List Nat)) : Nat := (fs.map fun x => x.2.length).sum
theorem flen_snoc (fs : List (List UInt8 × List Nat)) (x : List UInt8 × List Nat) : flen (fs ++ [x]) = flen fs + x.2.length := by
  unfold flen
  rw [List.map_append, List.sum_append]
  simp
theorem flen_take (fs : List (List UInt8 × List Nat)) (k : Nat) : flen (fs.take k) ≤ flen fs := by
  unfold flen
  rw [List.map_take]
  exact sum_take _ _
theorem nodup_at {l : List Nat} (h : l.Nodup) (i j : Nat) (hi : i < l.length) (hj : j < l.length) (e : l[i] = l[j]) : i = j := by
  have h9 := List.pairwise_iff_getElem.1 h
  rcases Nat.lt_trichotomy i j with h8 | h8 | h8
  · exact absurd e (h9 i j hi hj h8)
  · exact h8
  · exact absurd e.symm (h9 j i hj hi h8)
/-- behind the first Appends -/
structure AG (q : Int) (fs : List (List UInt8 × List Nat)) (l : List Nat) (k : Nat) (S : DS) : Prop where
  quota : S.quota = q
  taken : S.taken = (flen (fs.take k) : Int)
  nm : S.nm = nmx (fs.zip l)
  armed : S.armed = false
  down : S.down = false
  fo : ∀ i (h : i < fs.length) (h2 : i < l.length), S.fo l[i] = if i < k then ⟨fs[i].2, fs[i].2.length⟩ else ⟨[], 0⟩
section
variable {q : Int} {fs : List (List UInt8 × List Nat)} {l : List Nat}
theorem nmx_at (fs : List (List UInt8 × List Nat)) (l : List Nat) (i : Nat) (h : i < fs.length) (h2 : i < l.length) : (fs[i].1, l[i]) ∈ nmx (fs.zip l) := by
  unfold nmx
  refine List.mem_map.2 ⟨(fs[i], l[i]), ?_, rfl⟩
  have hz : i < (fs.zip l).length := by rw [List.length_zip]; omega
  have h9 := List.getElem_mem hz
  rw [List.getElem_zip] at h9
  exact h9
theorem nmx_rising (hg : Gd fs) (l : List Nat) : rising (nmx (fs.zip l)) := by
  unfold rising nmx
  exact List.pairwise_map.2 (zip_sub fs l hg.ri)
theorem AG.start (hg : Gd fs) (hl : l.length = fs.length) : AG q fs l 0 (Dk.crs q (fs.zip l)) := by
  have h9 := CG.crs (q := q) hg l fs.length
  rw [List.take_of_length_le (by rw [List.length_zip]; omega)] at h9
  exact ⟨h9.quota, by rw [h9.taken]; rfl, h9.nm, h9.armed, h9.down, fun i h h2 => by
    rw [if_neg (Nat.not_lt_zero _)]
    exact h9.fo _ (nmx_at fs l i h h2)⟩
theorem findG (hg : Gd fs) {S : DS} (hn : S.nm = nmx (fs.zip l)) (hd : S.down = false) (k : Nat) (h : k < fs.length) (h2 : k < l.length) : findE S fs[k].1 = (0, some l[k]) := by
  have hgt : get S.nm fs[k].1 = some l[k] := by
    rw [hn]
    exact mem_get (nmx_rising hg l) (nmx_at fs l k h h2)
  unfold findE
  rw [if_pos (ask_yes hd (hg.nm _ (List.getElem_mem h))), hgt]
theorem AG.step (hg : Gd fs) (hnd : l.Nodup) {k : Nat} {S : DS} (hA : AG q fs l k S) (h : k < fs.length) (h2 : k < l.length) (hq : (flen fs : Int) ≤ q) : appE S fs[k].1 fs[k].2 = 0 ∧ AG q fs l (k + 1) (syn (app S fs[k].1 fs[k].2) fs[k].1) := by
  have hf := findG hg hA.nm hA.down k h h2
  have hfo := hA.fo k h h2
  rw [if_neg (Nat.lt_irrefl _)] at hfo
  have htk : flen (fs.take (k + 1)) = flen (fs.take k) + fs[k].2.length := by rw [List.take_succ_eq_append_getElem h, flen_snoc]
  have hle := flen_take fs (k + 1)
  have hr : ¬ ((fs[k].2.length : Int) > S.quota - S.taken) := by
    rw [hA.quota, hA.taken]
    omega
  have hT : app S fs[k].1 fs[k].2 = { S with fo := upd S.fo l[k] ⟨fs[k].2, 0⟩, taken := S.taken + (fs[k].2.length : Int) } := by
    unfold app fil
    rw [hf, if_pos ⟨rfl, hr⟩, cnt_un hA.armed, if_pos rfl]
    show DS.mk _ _ _ _ _ _ _ _ _ (upd S.fo l[k] ⟨(S.fo l[k]).data ++ fs[k].2, (S.fo l[k]).syn⟩) = _
    rw [hfo]
    rfl
  refine ⟨?_, ?_⟩
  · unfold appE
    rw [hf, if_pos rfl, if_neg hr, cnt_un hA.armed]
  · rw [hT]
    obtain ⟨T, hTe⟩ : ∃ T : DS, T = { S with fo := upd S.fo l[k] ⟨fs[k].2, 0⟩, taken := S.taken + (fs[k].2.length : Int) } := ⟨_, rfl⟩
    rw [← hTe]
    have t1 : T.nm = nmx (fs.zip l) := by rw [hTe]; exact hA.nm
    have t2 : T.down = false := by rw [hTe]; exact hA.down
    have t3 : T.armed = false := by rw [hTe]; exact hA.armed
    have t4 : T.fo = upd S.fo l[k] ⟨fs[k].2, 0⟩ := by rw [hTe]
    have hf2 := findG hg t1 t2 k h h2
    have hU : syn T fs[k].1 = { T with fo := upd T.fo l[k] ⟨fs[k].2, fs[k].2.length⟩ } := by
      unfold syn fil
      rw [hf2, if_pos rfl, cnt_un t3, if_pos rfl]
      show DS.mk _ _ _ _ _ _ _ _ _ (upd T.fo l[k] ⟨(T.fo l[k]).data, (T.fo l[k]).data.length⟩) = _
      rw [t4, upd_same]
    rw [hU]
    refine ⟨by rw [hTe]; exact hA.quota, ?_, t1, t3, t2, fun i hi hi2 => ?_⟩
    · show T.taken = _
      rw [hTe, htk]
      show S.taken + _ = _
      rw [hA.taken]
      omega
    · show upd T.fo l[k] ⟨fs[k].2, fs[k].2.length⟩ l[i] = _
      by_cases hik : i = k
      · subst hik
        rw [upd_same, if_pos (Nat.lt_succ_self _)]
      · have hne : l[i] ≠ l[k] := fun e => hik (nodup_at hnd i k hi2 h2 e)
        rw [upd_ne _ _ hne, t4, upd_ne _ _ hne, hA.fo i hi hi2]
        by_cases h8 : i < k
        · rw [if_pos h8, if_pos (by omega)]
        · rw [if_neg h8, if_neg (by omega)]
theorem AG.all (hg : Gd fs) (hnd : l.Nodup) (hl : l.length = fs.length) (hq : (flen fs : Int) ≤ q) : ∀ k, k ≤ fs.length → AG q fs l k (aps (Dk.crs q (fs.zip l)) (fs.take k))
  | 0, _ => AG.start hg hl
  | k + 1, h => by
    have h9 := (AG.all hg hnd hl hq k (by omega)).step hg hnd (by omega) (by omega) hq
    rw [List.take_succ_eq_append_getElem (by omega), aps_snoc]
    exact h9.2
/-- the disk that Load leaves -/
structure LG (q : Int) (fs : List (List UInt8 × List Nat)) (S : DS) : Prop where
  quota : S.quota = q
  armed : S.armed = false
  down : S.down = false
  files : files S = fs
  crash : ∀ keep cs, crash S keep cs = fs
  ch : S.ch = []
  la : S.la = S.nm
  sy : ∀ p ∈ S.nm, (S.fo p.2).syn = (S.fo p.2).data.length
theorem AG.sd (hl : l.length = fs.length) {S : DS} (hA : AG q fs l fs.length S) : LG q fs (sd S) := by
  have ha : askE S [] = 0 := by simp [askE, hA.down]
  have hS : Dk.sd S = { S with la := S.nm, ch := [], taken := (tot S.nm S.fo : Int) } := by
    unfold Dk.sd
    rw [if_pos ha, cnt_un hA.armed, if_pos rfl]
  have hnl : (nmx (fs.zip l)).length = fs.length := by
    unfold nmx
    rw [List.length_map, List.length_zip]
    omega
  have hat : ∀ i (h : i < fs.length), (nmx (fs.zip l))[i]'(by omega) = (fs[i].1, l[i]'(by omega)) := fun i h => by
    unfold nmx
    rw [List.getElem_map, List.getElem_zip]
  have hfo : ∀ i (h : i < fs.length), S.fo (l[i]'(by omega)) = ⟨fs[i].2, fs[i].2.length⟩ := fun i h => by
    rw [hA.fo i h (by omega), if_pos h]
  rw [hS]
  refine ⟨hA.quota, hA.armed, hA.down, ?_, fun keep cs => ?_, rfl, rfl, fun p hp => ?_⟩
  · show S.nm.map (fun p => (p.1, (S.fo p.2).data)) = fs
    rw [hA.nm]
    refine List.ext_getElem (by rw [List.length_map]; exact hnl) fun i h1 h2 => ?_
    rw [List.getElem_map, hat i h2]
    show (fs[i].1, (S.fo (l[i]'(by omega))).data) = _
    rw [hfo i h2]
  · show (lvF (([] : List Ch).take _) S.nm).mapIdx (fun k p => (p.1, lv (S.fo p.2) (cs.getD k (0, 0)))) = fs
    rw [List.take_nil]
    show S.nm.mapIdx (fun k p => (p.1, lv (S.fo p.2) (cs.getD k (0, 0)))) = fs
    rw [hA.nm]
    refine List.ext_getElem (by rw [List.length_mapIdx]; exact hnl) fun i h1 h2 => ?_
    rw [List.getElem_mapIdx, hat i h2]
    show (fs[i].1, lv (S.fo (l[i]'(by omega))) _) = _
    rw [hfo i h2, lv_syn]
  · have hp2 : p ∈ S.nm := hp
    rw [hA.nm] at hp2
    obtain ⟨i, hi, e⟩ := List.getElem_of_mem hp2
    have hi2 : i < fs.length := by omega
    rw [hat i hi2] at e
    show (S.fo p.2).syn = (S.fo p.2).data.length
    rw [← e]
    show (S.fo (l[i]'(by omega))).syn = (S.fo (l[i]'(by omega))).data.length
    rw [hfo i hi2]
end
end Dk
end Go.Proofs.Ytjepeeopjjnglaa
