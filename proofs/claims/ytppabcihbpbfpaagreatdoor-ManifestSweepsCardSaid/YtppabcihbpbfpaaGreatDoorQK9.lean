import Derived.Deep.RegionHeld
import Derived.Test.YtppabcihbpbfpaaGreatDoorQK8
/-
  Package disk: what stays true of every disk.
-/
namespace Go.Proofs.YtppabcihbpbfpaaGreatDoor
open Go Go.RowKit Go.ChangeShapes
namespace Dk
/-- how many bytes these files hold -/
def fsum (fo : Nat → Fl) (l : List Nat) : Nat := (l.map fun f => (fo f).data.length).sum
theorem fsum_cons (fo : Nat → Fl) (f : Nat) (l : List Nat) : fsum fo (f :: l) = (fo f).data.length + fsum fo l := by
  unfold fsum
  rw [List.map_cons, List.sum_cons]
theorem upd_same (fo : Nat → Fl) (f : Nat) (x : Fl) : upd fo f x f = x := by simp [upd]
theorem upd_ne (fo : Nat → Fl) {f k : Nat} (x : Fl) (h : k ≠ f) : upd fo f x k = fo k := by simp [upd, h]
theorem fsum_not (fo : Nat → Fl) (f : Nat) (x : Fl) : ∀ l : List Nat, f ∉ l → fsum (upd fo f x) l = fsum fo l
  | [], _ => rfl
  | k :: r, h => by
    rw [fsum_cons, fsum_cons, fsum_not fo f x r (fun e => h (List.mem_cons_of_mem _ e)), upd_ne fo x (fun e => h (by rw [e]; exact List.mem_cons_self ..))]
theorem fsum_upd (fo : Nat → Fl) (f : Nat) (x : Fl) : ∀ l : List Nat, l.Nodup → f ∈ l → fsum (upd fo f x) l + (fo f).data.length = fsum fo l + x.data.length
  | [], _, h => by cases h
  | k :: r, hd, h => by
    rw [fsum_cons, fsum_cons]
    have hd2 := List.nodup_cons.1 hd
    by_cases hk : k = f
    · subst hk
      rw [fsum_not fo k x r hd2.1, upd_same]
      omega
    · have hm : f ∈ r := by
        rcases List.mem_cons.1 h with e | e
        · exact absurd e.symm hk
        · exact e
      have h9 := fsum_upd fo f x r hd2.2 hm
      rw [upd_ne fo x hk]
      omega
theorem fsum_mem (fo : Nat → Fl) : ∀ (l : List Nat) (f : Nat), f ∈ l → (fo f).data.length ≤ fsum fo l
  | [], _, h => by cases h
  | k :: r, f, h => by
    rw [fsum_cons]
    rcases List.mem_cons.1 h with e | e
    · subst e
      omega
    · have := fsum_mem fo r f e
      omega
theorem fsum_perm (fo : Nat → Fl) {l r : List Nat} (h : l.Perm r) : fsum fo l = fsum fo r := (h.map _).sum_nat
theorem fsum_sub (fo : Nat → Fl) : ∀ (l r : List Nat), l.Nodup → (∀ f ∈ l, f ∈ r) → fsum fo l ≤ fsum fo r
  | [], _, _, _ => Nat.zero_le _
  | k :: l, r, hd, h => by
    have hd2 := List.nodup_cons.1 hd
    have hk : k ∈ r := h k (List.mem_cons_self ..)
    rw [fsum_cons, fsum_perm fo (List.perm_cons_erase hk), fsum_cons]
    have := fsum_sub fo l (r.erase k) hd2.2 fun f hf => (List.mem_erase_of_ne (fun e => hd2.1 (by rw [← e]; exact hf))).2 (h f (List.mem_cons_of_mem _ hf))
    omega
theorem tot_fsum (l : Nm) (fo : Nat → Fl) : tot l fo = fsum fo (l.map (·.2)) := by
  unfold tot fsum
  rw [List.map_map]
  rfl
theorem isNm_len {s : List UInt8} (h : isNm s = true) : s ≠ [] ∧ s.length ≤ 40 := by
  unfold isNm at h
  rw [Bool.and_eq_true] at h
  exact of_decide_eq_true h.1
theorem inj_of : ∀ {l : Nm}, (l.map (·.2)).Nodup → ∀ p ∈ l, ∀ q ∈ l, p.2 = q.2 → p = q
  | [], _, p, hp, _, _, _ => by cases hp
  | x :: r, hd, p, hp, q, hq, e => by
    rw [List.map_cons] at hd
    have hd2 := List.nodup_cons.1 hd
    rcases List.mem_cons.1 hp with e1 | e1 <;> rcases List.mem_cons.1 hq with e2 | e2
    · rw [e1, e2]
    · exact absurd (List.mem_map.2 ⟨q, e2, by rw [← e, e1]⟩) hd2.1
    · exact absurd (List.mem_map.2 ⟨p, e1, by rw [e, e2]⟩) hd2.1
    · exact inj_of hd2.2 p e1 q e2 e
theorem ins_perm (x : List UInt8 × Nat) : ∀ l : Nm, (ins x l).Perm (x :: l)
  | [] => List.Perm.refl _
  | y :: r => by
    rw [ins]
    split
    · exact List.Perm.refl _
    · exact ((ins_perm x r).cons y).trans (List.Perm.swap x y r)
theorem inj_del {l : Nm} (h : (l.map (·.2)).Nodup) (s : List UInt8) : ((del l s).map (·.2)).Nodup := h.sublist (List.filter_sublist.map _)
theorem inj_put {l : Nm} (h : (l.map (·.2)).Nodup) (s : List UInt8) (f : Nat) (hf : ∀ p ∈ l, p.2 = f → p.1 = s) : ((put l s f).map (·.2)).Nodup := by
  unfold put
  refine ((ins_perm (s, f) (del l s)).map _).nodup_iff.2 ?_
  rw [List.map_cons]
  refine List.nodup_cons.2 ⟨fun e => ?_, inj_del h s⟩
  obtain ⟨p, hp, e2⟩ := List.mem_map.1 e
  exact (mem_del.1 hp).2 (hf p (mem_del.1 hp).1 e2)
/-- what stays true of every disk -/
structure WF (S : DS) (N : Nat) : Prop where
  q : S.quota ≤ 4194304
  tk : S.taken ≤ S.quota
  live : ∃ L : List Nat, L.Nodup ∧ (∀ f ∈ L, f ∈ S.ids) ∧ (∀ p ∈ S.nm, p.2 ∈ L) ∧ S.taken = (fsum S.fo L : Int)
  inj : (S.nm.map (·.2)).Nodup
  nm : ∀ p ∈ S.nm, isNm p.1 = true
  la : ∀ p ∈ S.la, p.2 ∈ S.ids ∧ isNm p.1 = true
  ch : ∀ c ∈ S.ch, c.frm.length ≤ 40 ∧ (c.tow ≠ [] → isNm c.tow = true ∧ ∃ f, c.f = some f ∧ f ∈ S.ids)
  fl : ∀ f ∈ S.ids, (S.fo f).syn ≤ (S.fo f).data.length ∧ (S.fo f).data.length ≤ 4194304
  ar : S.armed = true → 0 ≤ S.left ∧ S.left ≤ 9223372036854775807
  n1 : S.nm.length ≤ N
  n2 : S.la.length ≤ N
  n3 : S.ch.length ≤ N
section
variable {S : DS} {N : Nat}
theorem WF.mono {N' : Nat} (h : WF S N) (hN : N ≤ N') : WF S N' := ⟨h.q, h.tk, h.live, h.inj, h.nm, h.la, h.ch, h.fl, h.ar, Nat.le_trans h.n1 hN, Nat.le_trans h.n2 hN, Nat.le_trans h.n3 hN⟩
theorem WF.ids (h : WF S N) : ∀ p ∈ S.nm, p.2 ∈ S.ids := by
  obtain ⟨L, -, h1, h2, -⟩ := h.live
  exact fun p hp => h1 _ (h2 p hp)
theorem WF.t0 (h : WF S N) : 0 ≤ S.taken := by
  obtain ⟨L, -, -, -, e⟩ := h.live
  rw [e]
  exact Int.natCast_nonneg _
theorem WF.tot (h : WF S N) : (tot S.nm S.fo : Int) ≤ S.taken := by
  obtain ⟨L, -, -, h2, e⟩ := h.live
  rw [e, tot_fsum]
  refine Int.ofNat_le.2 (fsum_sub _ _ _ h.inj fun f hf => ?_)
  obtain ⟨p, hp, rfl⟩ := List.mem_map.1 hf
  exact h2 p hp
theorem WF.new (q : Int) (h0 : 0 ≤ q) (h : q ≤ 4194304) : WF (new q) N := by
  refine ⟨h, h0, ⟨[], List.nodup_nil, ?_, ?_, rfl⟩, List.nodup_nil, ?_, ?_, ?_, ?_, ?_, Nat.zero_le _, Nat.zero_le _, Nat.zero_le _⟩
  all_goals first | (intro x hx; cases hx) | (intro hx; simp [Dk.new] at hx)
theorem cnt_same (S : DS) : (cnt S).2.quota = S.quota ∧ (cnt S).2.taken = S.taken ∧ (cnt S).2.nm = S.nm ∧ (cnt S).2.la = S.la ∧ (cnt S).2.ch = S.ch ∧ (cnt S).2.ids = S.ids ∧ (cnt S).2.fo = S.fo := by
  unfold cnt
  split
  · exact ⟨rfl, rfl, rfl, rfl, rfl, rfl, rfl⟩
  · split <;> exact ⟨rfl, rfl, rfl, rfl, rfl, rfl, rfl⟩
theorem WF.cnt (h : WF S N) : WF (cnt S).2 N := by
  unfold Dk.cnt
  split
  · exact h
  · rename_i ha
    split
    · exact ⟨h.q, h.tk, h.live, h.inj, h.nm, h.la, h.ch, h.fl, h.ar, h.n1, h.n2, h.n3⟩
    · rename_i hl
      refine ⟨h.q, h.tk, h.live, h.inj, h.nm, h.la, h.ch, h.fl, fun _ => ?_, h.n1, h.n2, h.n3⟩
      have h9 := h.ar (by simpa using ha)
      show 0 ≤ S.left - 1 ∧ S.left - 1 ≤ _
      omega
theorem WF.arm (h : WF S N) (n : Int) (hn : n ≤ 9223372036854775807) : WF (arm S n) N := by
  unfold Dk.arm
  split
  · exact h
  · exact ⟨h.q, h.tk, h.live, h.inj, h.nm, h.la, h.ch, h.fl, fun e => ⟨of_decide_eq_true e, hn⟩, h.n1, h.n2, h.n3⟩
theorem WF.upd (h : WF S N) {s : List UInt8} {f : Nat} (hg : get S.nm s = some f) (x : Fl) (t : Int) (hx : x.syn ≤ x.data.length) (ht : t = S.taken + x.data.length - (S.fo f).data.length) (hq : t ≤ S.quota) : WF { S with fo := Dk.upd S.fo f x, taken := t } N := by
  obtain ⟨L, h1, h2, h3, e⟩ := h.live
  have hf : f ∈ L := h3 _ (get_mem hg)
  have h9 := fsum_upd S.fo f x L h1 hf
  have et : t = (fsum (Dk.upd S.fo f x) L : Int) := by omega
  refine ⟨h.q, hq, ⟨L, h1, h2, h3, et⟩, h.inj, h.nm, h.la, h.ch, fun k hk => ?_, h.ar, h.n1, h.n2, h.n3⟩
  show (Dk.upd S.fo f x k).syn ≤ (Dk.upd S.fo f x k).data.length ∧ (Dk.upd S.fo f x k).data.length ≤ _
  by_cases hkf : k = f
  · subst hkf
    have h8 := fsum_mem (Dk.upd S.fo k x) L k hf
    have h7 := h.q
    rw [upd_same] at h8 ⊢
    exact ⟨hx, by omega⟩
  · rw [upd_ne _ _ hkf]
    exact h.fl k hk
theorem find_some {s : List UInt8} (h : (findE S s).1 = 0) : get S.nm s = some (fil S s) ∧ isNm s = true ∧ S.down = false := by
  have ha : askE S [s] = 0 := by
    unfold findE at h
    split at h
    · assumption
    · exact h
  unfold fil
  unfold findE at h ⊢
  rw [if_pos ha] at h ⊢
  unfold askE at ha
  split at ha
  · cases ha
  · rename_i hd
    split at ha
    · rename_i hn
      refine ⟨?_, by simpa using hn, by simpa using hd⟩
      cases hg : get S.nm s with
      | none => rw [hg] at h; cases h
      | some f => rfl
    · cases ha
theorem WF.syn (h : WF S N) (s : List UInt8) : WF (syn S s) N := by
  unfold Dk.syn
  split
  · rename_i hf
    split
    · obtain ⟨e1, e2, e3, -, -, -, e7⟩ := cnt_same S
      exact h.cnt.upd (s := s) (f := fil S s) (by rw [e3]; exact (find_some hf).1) ⟨_, _⟩ _ (Nat.le_refl _) (by simp) h.cnt.tk
    · exact h.cnt
  · exact h
theorem WF.app (h : WF S N) (s : List UInt8) (l : List Nat) : WF (app S s l) N := by
  unfold Dk.app
  split
  · rename_i hf
    split
    · obtain ⟨e1, e2, e3, -, -, -, e7⟩ := cnt_same S
      refine h.cnt.upd (s := s) (f := fil S s) (by rw [e3]; exact (find_some hf.1).1) ⟨_, _⟩ _ ?_ ?_ ?_
      · rw [e7]
        have h9 := (h.fl _ (h.ids _ (get_mem (find_some hf.1).1))).1
        simp only [List.length_append]
        simp only at h9
        omega
      · rw [e2, e7]
        simp only [List.length_append]
        omega
      · rw [e1]
        have := hf.2
        omega
    · exact h.cnt
  · exact h
theorem WF.tru (h : WF S N) (s : List UInt8) (n : Int) : WF (tru S s n) N := by
  unfold Dk.tru
  split
  · rename_i hf
    split
    · obtain ⟨e1, e2, e3, -, -, -, e7⟩ := cnt_same S
      have hb := hf.2
      unfold bad at hb
      have hb2 := of_decide_eq_false hb
      have h9 := (h.fl _ (h.ids _ (get_mem (find_some hf.1).1))).1
      have hl : ((S.fo (fil S s)).data.take n.toNat).length = n.toNat := by
        rw [List.length_take]
        omega
      refine h.cnt.upd (s := s) (f := fil S s) (by rw [e3]; exact (find_some hf.1).1) ⟨_, _⟩ _ ?_ ?_ ?_
      · simp only [hl]
        omega
      · rw [e2, e7]
        simp only [hl]
        omega
      · rw [e1]
        have := h.tk
        omega
    · exact h.cnt
  · exact h
theorem WF.names (h : WF S N) (c : Ch) (hc : c.frm.length ≤ 40) (ht : c.tow ≠ [] → isNm c.tow = true ∧ ∃ f, c.f = some f ∧ (c.frm, f) ∈ S.nm) : WF { S with nm := c.app S.nm, ch := S.ch ++ [c] } (N + 1) := by
  obtain ⟨L, h1, h2, h3, e⟩ := h.live
  have hm : ∀ p ∈ c.app S.nm, p.2 ∈ L ∧ isNm p.1 = true := by
    intro p hp
    unfold Ch.app at hp
    split at hp
    · exact ⟨h3 p (mem_del.1 hp).1, h.nm p (mem_del.1 hp).1⟩
    · rename_i hne
      obtain ⟨ht1, f, ef, hfm⟩ := ht hne
      rcases mem_put.1 hp with e9 | e9
      · rw [e9, ef]
        exact ⟨h3 (c.frm, f) hfm, ht1⟩
      · exact ⟨h3 p (mem_del.1 e9.1).1, h.nm p (mem_del.1 e9.1).1⟩
  refine ⟨h.q, h.tk, ⟨L, h1, h2, fun p hp => (hm p hp).1, e⟩, ?_, fun p hp => (hm p hp).2, h.la, ?_, h.fl, h.ar, ?_, Nat.le_succ_of_le h.n2, ?_⟩
  · show ((c.app S.nm).map (·.2)).Nodup
    unfold Ch.app
    split
    · exact inj_del h.inj _
    · rename_i hne
      obtain ⟨ht1, f, ef, hfm⟩ := ht hne
      refine inj_put (inj_del h.inj _) _ _ fun p hp e9 => ?_
      rw [ef] at e9
      have h9 := inj_of h.inj p (mem_del.1 hp).1 _ hfm e9
      exact absurd (by rw [h9]) (mem_del.1 hp).2
  · intro d hd
    rcases List.mem_append.1 hd with hd | hd
    · exact h.ch d hd
    · rw [List.mem_singleton.1 hd]
      refine ⟨hc, fun hne => ?_⟩
      obtain ⟨ht1, f, ef, hfm⟩ := ht hne
      exact ⟨ht1, f, ef, h2 _ (h3 _ hfm)⟩
  · have := app_len c S.nm
    have := h.n1
    show (c.app S.nm).length ≤ _
    omega
  · show (S.ch ++ [c]).length ≤ _
    rw [List.length_append]
    have := h.n3
    simp only [List.length_singleton]
    omega
theorem WF.rem (h : WF S N) (s : List UInt8) : WF (rem S s) (N + 1) := by
  unfold Dk.rem
  split
  · rename_i hf
    split
    · exact h.cnt.names ⟨s, [], none⟩ (isNm_len (find_some hf).2.1).2 (fun e => absurd rfl e)
    · exact h.cnt.mono (Nat.le_succ _)
  · exact h.mono (Nat.le_succ _)
theorem ask_two {a b : List UInt8} (h : askE S [a, b] = 0) : isNm b = true := by
  unfold askE at h
  split at h
  · cases h
  · split at h
    · rename_i hn
      simp only [List.all_cons, List.all_nil, Bool.and_true, Bool.and_eq_true] at hn
      exact hn.2
    · cases h
theorem WF.ren (h : WF S N) (a b : List UInt8) : WF (ren S a b) (N + 1) := by
  unfold Dk.ren
  split
  · rename_i hf
    split
    · exact h.cnt.names ⟨a, b, some (fil S a)⟩ (isNm_len (find_some hf.2).2.1).2 (fun _ => ⟨ask_two hf.1, _, rfl, by rw [(cnt_same S).2.2.1]; exact get_mem (find_some hf.2).1⟩)
    · exact h.cnt.mono (Nat.le_succ _)
  · exact h.mono (Nat.le_succ _)
theorem ask_one {a : List UInt8} (h : askE S [a] = 0) : isNm a = true := by
  unfold askE at h
  split at h
  · cases h
  · split at h
    · rename_i hn
      simpa using hn
    · cases h
theorem WF.crt (h : WF S N) (s : List UInt8) (f : Nat) (hf : f ∉ S.ids) : WF (crt S s f) (N + 1) := by
  unfold Dk.crt
  split
  · rename_i ha
    split
    · obtain ⟨e1, e2, e3, e4, e5, e6, e7⟩ := cnt_same S
      have hs := ask_one ha.1
      obtain ⟨L, h1, h2, h3, e⟩ := h.live
      have hfL : f ∉ L := fun e => hf (h2 f e)
      have hap : Ch.app ⟨[], s, some f⟩ S.nm = put (del S.nm []) s f := by
        unfold Ch.app
        rw [if_neg (isNm_len hs).1]
        rfl
      have hfo : ∀ k ∈ S.ids, Dk.upd S.fo f ⟨[], 0⟩ k = S.fo k := fun k hk => upd_ne _ _ fun e => hf (by rw [← e]; exact hk)
      show WF ⟨(Dk.cnt S).2.quota, (Dk.cnt S).2.taken, Ch.app ⟨[], s, some f⟩ S.nm, (Dk.cnt S).2.la, S.ch ++ [⟨[], s, some f⟩], (Dk.cnt S).2.armed, (Dk.cnt S).2.left, (Dk.cnt S).2.down, (Dk.cnt S).2.ids ++ [f], Dk.upd (Dk.cnt S).2.fo f ⟨[], 0⟩⟩ (N + 1)
      rw [e4, e6, e7, e1, e2]
      refine ⟨h.q, h.tk, ⟨f :: L, List.nodup_cons.2 ⟨hfL, h1⟩, ?_, ?_, ?_⟩, ?_, ?_, ?_, ?_, ?_, h.cnt.ar, ?_, ?_, ?_⟩
      · intro k hk
        rcases List.mem_cons.1 hk with e9 | e9
        · rw [e9]; simp
        · exact List.mem_append_left _ (h2 k e9)
      · show ∀ p ∈ Ch.app ⟨[], s, some f⟩ S.nm, _
        rw [hap]
        intro p hp
        rcases mem_put.1 hp with e9 | e9
        · rw [e9]; exact List.mem_cons_self ..
        · exact List.mem_cons_of_mem _ (h3 p (mem_del.1 e9.1).1)
      · show S.taken = (fsum (Dk.upd S.fo f ⟨[], 0⟩) (f :: L) : Int)
        rw [fsum_cons, fsum_not _ _ _ _ hfL, upd_same, e]
        simp
      · show ((Ch.app ⟨[], s, some f⟩ S.nm).map (·.2)).Nodup
        rw [hap]
        exact inj_put (inj_del h.inj _) _ _ fun p hp e9 => absurd (by rw [← e9]; exact h3 p (mem_del.1 hp).1) hfL
      · show ∀ p ∈ Ch.app ⟨[], s, some f⟩ S.nm, _
        rw [hap]
        intro p hp
        rcases mem_put.1 hp with e9 | e9
        · rw [e9]; exact hs
        · exact h.nm p (mem_del.1 e9.1).1
      · exact fun p hp => ⟨List.mem_append_left _ (h.la p hp).1, (h.la p hp).2⟩
      · intro d hd
        rcases List.mem_append.1 hd with hd | hd
        · obtain ⟨d1, d2⟩ := h.ch d hd
          refine ⟨d1, fun hne => ?_⟩
          obtain ⟨d3, k, d4, d5⟩ := d2 hne
          exact ⟨d3, k, d4, List.mem_append_left _ d5⟩
        · rw [List.mem_singleton.1 hd]
          exact ⟨by simp, fun _ => ⟨hs, f, rfl, by simp⟩⟩
      · intro k hk
        show (Dk.upd S.fo f ⟨[], 0⟩ k).syn ≤ (Dk.upd S.fo f ⟨[], 0⟩ k).data.length ∧ (Dk.upd S.fo f ⟨[], 0⟩ k).data.length ≤ _
        rcases List.mem_append.1 hk with e9 | e9
        · rw [hfo k e9]
          exact h.fl k e9
        · rw [List.mem_singleton.1 e9, upd_same]
          simp
      · have h9 := app_len ⟨[], s, some f⟩ S.nm
        have := h.n1
        show (Ch.app ⟨[], s, some f⟩ S.nm).length ≤ _
        omega
      · exact Nat.le_succ_of_le h.n2
      · show (S.ch ++ [_]).length ≤ _
        rw [List.length_append]
        have := h.n3
        simp only [List.length_singleton]
        omega
    · exact h.cnt.mono (Nat.le_succ _)
  · exact h.mono (Nat.le_succ _)
theorem WF.sd (h : WF S N) : WF (sd S) N := by
  unfold Dk.sd
  split
  · split
    · obtain ⟨e1, e2, e3, e4, e5, e6, e7⟩ := cnt_same S
      have ht := h.tot
      have hk := h.tk
      refine ⟨h.cnt.q, ?_, ⟨S.nm.map (·.2), h.inj, ?_, ?_, ?_⟩, h.cnt.inj, h.cnt.nm, ?_, ?_, h.cnt.fl, h.cnt.ar, h.cnt.n1, h.n1, Nat.zero_le _⟩
      · show _ ≤ (Dk.cnt S).2.quota
        rw [e1]
        show (Dk.tot S.nm S.fo : Int) ≤ _
        omega
      · intro f hf
        show f ∈ (Dk.cnt S).2.ids
        rw [e6]
        obtain ⟨p, hp, rfl⟩ := List.mem_map.1 hf
        exact h.ids p hp
      · show ∀ p ∈ (Dk.cnt S).2.nm, _
        rw [e3]
        exact fun p hp => List.mem_map.2 ⟨p, hp, rfl⟩
      · show (Dk.tot S.nm S.fo : Int) = (fsum (Dk.cnt S).2.fo _ : Int)
        rw [e7, tot_fsum]
      · show ∀ p ∈ S.nm, p.2 ∈ (Dk.cnt S).2.ids ∧ _
        rw [e6]
        exact fun p hp => ⟨h.ids p hp, h.nm p hp⟩
      · intro c hc
        cases hc
    · exact h.cnt
  · exact h
/-- the names that a crash leaves are names of files -/
theorem WF.left (h : WF S N) (keep : Int) : ∀ p ∈ lvN S keep, p.2 ∈ S.ids ∧ isNm p.1 = true := by
  have key : ∀ (cs : List Ch) (l : Nm), (∀ c ∈ cs, c ∈ S.ch) → (∀ p ∈ l, p.2 ∈ S.ids ∧ isNm p.1 = true) → ∀ p ∈ lvF cs l, p.2 ∈ S.ids ∧ isNm p.1 = true := by
    intro cs
    induction cs with
    | nil => exact fun l _ h2 => h2
    | cons c r ih =>
      intro l h1 h2
      show ∀ p ∈ lvF r (c.app l), _
      refine ih (c.app l) (fun d hd => h1 d (List.mem_cons_of_mem _ hd)) fun p hp => ?_
      unfold Ch.app at hp
      split at hp
      · exact h2 p (mem_del.1 hp).1
      · rename_i hne
        obtain ⟨d1, f, d2, d3⟩ := (h.ch c (h1 c (List.mem_cons_self ..))).2 hne
        rcases mem_put.1 hp with e9 | e9
        · rw [e9, d2]
          exact ⟨d3, d1⟩
        · exact h2 p (mem_del.1 e9.1).1
  exact key _ _ (fun c hc => List.mem_of_mem_take hc) h.la
end
end Dk
end Go.Proofs.YtppabcihbpbfpaaGreatDoor

/-
  DiskStays and its kin: alike, filesAlike, num, proper, changing.
-/
namespace Go.Proofs.YtppabcihbpbfpaaGreatDoor
open Go Go.RowKit Go.ChangeShapes
open Wb

/-- 64, if the quota is outside 16 to 4194304 -/
def Dk.proper (q : Int) : Int := if q < 16 ∨ 4194304 < q then 64 else q
end Go.Proofs.YtppabcihbpbfpaaGreatDoor

/-
  DiskStays and its kin: an operation; changing, do.
-/
namespace Go.Proofs.YtppabcihbpbfpaaGreatDoor
open Go Go.RowKit Go.ChangeShapes
open Wb

/-- an operation, as it lies in memory -/
structure Rop where
  k : Int
  two : Bool
  a : ByteArray
  b : ByteArray
  n : Int
  da : Option Addr
  dc : Nat
  data : List Nat
  ca : Option Addr
  cc : Nat
  cs : List (Int × Int)
  fa : Option Addr
  fn : Nat
  fc : Nat
def opc (o : Rop) : List Value := [.int .i64 o.k, .bool o.two, .string o.a, .string o.b, .int .i64 o.n, .slice o.da o.data.length o.dc, .slice o.ca o.cs.length o.cc, .slice o.fa o.fn o.fc]
def opv (o : Rop) : Value := .agg #[.int .i64 o.k, .bool o.two, .string o.a, .string o.b, .int .i64 o.n, .slice o.da o.data.length o.dc, .slice o.ca o.cs.length o.cc, .slice o.fa o.fn o.fc]
namespace Dk
/-- the error of an operation that changes -/
def doE (S : DS) (o : Rop) : Int := if o.k = 1 then crtE S o.a.data.toList else if o.k = 2 then appE S o.a.data.toList o.data else if o.k = 3 then synE S o.a.data.toList else if o.k = 4 then truE S o.a.data.toList o.n else if o.k = 5 then renE S o.a.data.toList o.b.data.toList else if o.k = 6 then synE S o.a.data.toList else sdE S
/-- the disk behind it -/
def doS (S : DS) (o : Rop) (f : Nat) : DS := if o.k = 1 then crt S o.a.data.toList f else if o.k = 2 then app S o.a.data.toList o.data else if o.k = 3 then syn S o.a.data.toList else if o.k = 4 then tru S o.a.data.toList o.n else if o.k = 5 then ren S o.a.data.toList o.b.data.toList else if o.k = 6 then rem S o.a.data.toList else sd S
theorem WF.do {S : DS} {N : Nat} (h : WF S N) (o : Rop) (f : Nat) (hf : f ∉ S.ids) : WF (doS S o f) (N + 1) := by
  unfold doS
  split
  · exact h.crt _ f hf
  split
  · exact (h.app _ _).mono (Nat.le_succ _)
  split
  · exact (h.syn _).mono (Nat.le_succ _)
  split
  · exact (h.tru _ _).mono (Nat.le_succ _)
  split
  · exact h.ren _ _
  split
  · exact h.rem _
  · exact h.sd.mono (Nat.le_succ _)
def chg (o : Rop) : Bool := decide (1 ≤ o.k) && decide (o.k ≤ 7)
end Dk
end Go.Proofs.YtppabcihbpbfpaaGreatDoor
