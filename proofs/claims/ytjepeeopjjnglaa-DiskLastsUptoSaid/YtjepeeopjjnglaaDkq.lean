/-
  Package disk: the names that a crash may leave are those of an earlier moment.
-/
import Derived.Test.YtjepeeopjjnglaaDkp
namespace Go.Proofs.Ytjepeeopjjnglaa
open Go Go.RowKit Go.ChangeShapes
namespace Dk
/-- the names behind the first changes -/
def pre (S : DS) (j : Nat) : Nm := lvF (S.ch.take j) S.la
/-- all names since the last SyncDir stand for files that are counted, one name a file -/
structure WG (S : DS) : Prop where
  nmE : S.nm = lvF S.ch S.la
  live : ∃ L : List Nat, L.Nodup ∧ (∀ f ∈ L, f ∈ S.ids) ∧ S.taken = (fsum S.fo L : Int) ∧ ∀ j, ((pre S j).map (·.2)).Nodup ∧ ∀ p ∈ pre S j, p.2 ∈ L
section
variable {S : DS}
theorem pre_all (S : DS) {j : Nat} (h : S.ch.length ≤ j) : pre S j = lvF S.ch S.la := by
  unfold pre
  rw [List.take_of_length_le h]
theorem WG.new (q : Int) : WG (new q) := ⟨rfl, [], List.nodup_nil, (fun f hf => by cases hf), rfl, fun j => by
  have e : pre (Dk.new q) j = [] := by
    unfold pre
    show lvF (([] : List Ch).take j) [] = []
    rw [List.take_nil]
    rfl
  rw [e]
  exact ⟨List.nodup_nil, fun p hp => by cases hp⟩⟩
/-- nothing of names or files is other -/
theorem WG.same {T : DS} (h : WG S) (h1 : T.nm = S.nm) (h2 : T.la = S.la) (h3 : T.ch = S.ch) (h4 : T.ids = S.ids) (h5 : T.fo = S.fo) (h6 : T.taken = S.taken) : WG T := by
  obtain ⟨L, l1, l2, l3, l4⟩ := h.live
  refine ⟨by rw [h1, h2, h3]; exact h.nmE, L, l1, by rw [h4]; exact l2, by rw [h5, h6]; exact l3, fun j => ?_⟩
  have e : pre T j = pre S j := by unfold pre; rw [h2, h3]
  rw [e]
  exact l4 j
theorem WG.cnt (h : WG S) : WG (cnt S).2 := by
  obtain ⟨e1, e2, e3, e4, e5, e6, e7⟩ := cnt_same S
  exact h.same e3 e4 e5 e6 e7 e2
theorem WG.upd (h : WG S) {s : List UInt8} {f : Nat} (hg : get S.nm s = some f) (x : Fl) (t : Int) (ht : t = S.taken + x.data.length - (S.fo f).data.length) : WG { S with fo := Dk.upd S.fo f x, taken := t } := by
  obtain ⟨L, l1, l2, l3, l4⟩ := h.live
  have hf : f ∈ L := by
    have h9 := (l4 S.ch.length).2
    rw [pre_all S (Nat.le_refl _), ← h.nmE] at h9
    exact h9 _ (get_mem hg)
  have h9 := fsum_upd S.fo f x L l1 hf
  exact ⟨h.nmE, L, l1, l2, by show t = (fsum (Dk.upd S.fo f x) L : Int); omega, l4⟩
theorem WG.syn (h : WG S) (s : List UInt8) : WG (syn S s) := by
  unfold Dk.syn
  split
  · rename_i hf
    split
    · obtain ⟨e1, e2, e3, -, -, -, e7⟩ := cnt_same S
      exact h.cnt.upd (s := s) (f := fil S s) (by rw [e3]; exact (find_some hf).1) ⟨_, _⟩ _ (by simp)
    · exact h.cnt
  · exact h
theorem WG.app (h : WG S) (s : List UInt8) (l : List Nat) : WG (app S s l) := by
  unfold Dk.app
  split
  · rename_i hf
    split
    · obtain ⟨e1, e2, e3, -, -, -, e7⟩ := cnt_same S
      refine h.cnt.upd (s := s) (f := fil S s) (by rw [e3]; exact (find_some hf.1).1) ⟨_, _⟩ _ ?_
      rw [e2, e7]
      simp only [List.length_append]
      omega
    · exact h.cnt
  · exact h
theorem WG.tru (h : WG S) (s : List UInt8) (n : Int) : WG (tru S s n) := by
  unfold Dk.tru
  split
  · rename_i hf
    split
    · obtain ⟨e1, e2, e3, -, -, -, e7⟩ := cnt_same S
      have hb := hf.2
      unfold bad at hb
      have hb2 := of_decide_eq_false hb
      have hl : ((S.fo (fil S s)).data.take n.toNat).length = n.toNat := by
        rw [List.length_take]
        omega
      refine h.cnt.upd (s := s) (f := fil S s) (by rw [e3]; exact (find_some hf.1).1) ⟨_, _⟩ _ ?_
      rw [e2, e7]
      simp only [hl]
      omega
    · exact h.cnt
  · exact h
theorem pre_snoc (S : DS) (c : Ch) (j : Nat) : lvF ((S.ch ++ [c]).take j) S.la = if j ≤ S.ch.length then pre S j else c.app (lvF S.ch S.la) := by
  unfold pre
  split
  · rename_i hj
    rw [List.take_append_of_le_length hj]
  · rename_i hj
    rw [List.take_of_length_le (by rw [List.length_append, List.length_singleton]; omega), lvF_snoc]
theorem WG.names (h : WG S) (c : Ch) (ht : c.tow ≠ [] → ∃ f, c.f = some f ∧ (c.frm, f) ∈ S.nm) : WG { S with nm := c.app S.nm, ch := S.ch ++ [c] } := by
  obtain ⟨L, l1, l2, l3, l4⟩ := h.live
  have hn := l4 S.ch.length
  rw [pre_all S (Nat.le_refl _), ← h.nmE] at hn
  refine ⟨?_, L, l1, l2, l3, fun j => ?_⟩
  · show c.app S.nm = lvF (S.ch ++ [c]) S.la
    rw [lvF_snoc, ← h.nmE]
  · show ((lvF ((S.ch ++ [c]).take j) S.la).map (·.2)).Nodup ∧ ∀ p ∈ lvF ((S.ch ++ [c]).take j) S.la, p.2 ∈ L
    rw [pre_snoc S c j]
    split
    · exact l4 j
    · rw [← h.nmE]
      unfold Ch.app
      split
      · exact ⟨inj_del hn.1 _, fun p hp => hn.2 p (mem_del.1 hp).1⟩
      · rename_i hne
        obtain ⟨f, ef, hfm⟩ := ht hne
        rw [ef]
        refine ⟨inj_put (inj_del hn.1 _) _ _ fun p hp e9 => ?_, fun p hp => ?_⟩
        · have h9 := inj_of hn.1 p (mem_del.1 hp).1 _ hfm e9
          exact absurd (by rw [h9]) (mem_del.1 hp).2
        · rcases mem_put.1 hp with e9 | e9
          · rw [e9]
            exact hn.2 (c.frm, f) hfm
          · exact hn.2 p (mem_del.1 e9.1).1
theorem WG.rem (h : WG S) (s : List UInt8) : WG (rem S s) := by
  unfold Dk.rem
  split
  · split
    · exact h.cnt.names ⟨s, [], none⟩ (fun e => absurd rfl e)
    · exact h.cnt
  · exact h
theorem WG.ren (h : WG S) (a b : List UInt8) : WG (ren S a b) := by
  unfold Dk.ren
  split
  · rename_i hf
    split
    · exact h.cnt.names ⟨a, b, some (fil S a)⟩ (fun _ => ⟨_, rfl, by rw [(cnt_same S).2.2.1]; exact get_mem (find_some hf.2).1⟩)
    · exact h.cnt
  · exact h
theorem WG.crt (h : WG S) (s : List UInt8) (f : Nat) (hf : f ∉ S.ids) : WG (crt S s f) := by
  unfold Dk.crt
  split
  · rename_i ha
    split
    · obtain ⟨e1, e2, e3, e4, e5, e6, e7⟩ := cnt_same S
      have hs := ask_one ha.1
      obtain ⟨L, l1, l2, l3, l4⟩ := h.live
      have hn := l4 S.ch.length
      rw [pre_all S (Nat.le_refl _), ← h.nmE] at hn
      have hfL : f ∉ L := fun e => hf (l2 f e)
      have hap : Ch.app ⟨[], s, some f⟩ S.nm = put (del S.nm []) s f := by
        unfold Ch.app
        rw [if_neg (isNm_len hs).1]
        rfl
      show WG ⟨(Dk.cnt S).2.quota, (Dk.cnt S).2.taken, Ch.app ⟨[], s, some f⟩ S.nm, (Dk.cnt S).2.la, S.ch ++ [⟨[], s, some f⟩], (Dk.cnt S).2.armed, (Dk.cnt S).2.left, (Dk.cnt S).2.down, (Dk.cnt S).2.ids ++ [f], Dk.upd (Dk.cnt S).2.fo f ⟨[], 0⟩⟩
      rw [e4, e6, e7, e1, e2]
      refine ⟨?_, f :: L, List.nodup_cons.2 ⟨hfL, l1⟩, ?_, ?_, fun j => ?_⟩
      · show Ch.app ⟨[], s, some f⟩ S.nm = lvF (S.ch ++ [⟨[], s, some f⟩]) S.la
        rw [lvF_snoc, ← h.nmE]
      · intro k hk
        rcases List.mem_cons.1 hk with e9 | e9
        · rw [e9]; simp
        · exact List.mem_append_left _ (l2 k e9)
      · show S.taken = (fsum (Dk.upd S.fo f ⟨[], 0⟩) (f :: L) : Int)
        rw [fsum_cons, fsum_not _ _ _ _ hfL, upd_same, l3]
        simp
      · show ((lvF ((S.ch ++ [(⟨[], s, some f⟩ : Ch)]).take j) S.la).map (·.2)).Nodup ∧ ∀ p ∈ lvF ((S.ch ++ [(⟨[], s, some f⟩ : Ch)]).take j) S.la, p.2 ∈ f :: L
        rw [pre_snoc S ⟨[], s, some f⟩ j]
        split
        · exact ⟨(l4 j).1, fun p hp => List.mem_cons_of_mem _ ((l4 j).2 p hp)⟩
        · rw [← h.nmE, hap]
          refine ⟨inj_put (inj_del hn.1 _) _ _ fun p hp e9 => absurd (by rw [← e9]; exact hn.2 p (mem_del.1 hp).1) hfL, fun p hp => ?_⟩
          rcases mem_put.1 hp with e9 | e9
          · rw [e9]; exact List.mem_cons_self ..
          · exact List.mem_cons_of_mem _ (hn.2 p (mem_del.1 e9.1).1)
    · exact h.cnt
  · exact h
theorem WG.sd (h : WG S) : WG (sd S) := by
  unfold Dk.sd
  split
  · split
    · obtain ⟨e1, e2, e3, e4, e5, e6, e7⟩ := cnt_same S
      obtain ⟨L, l1, l2, l3, l4⟩ := h.live
      have hn := l4 S.ch.length
      rw [pre_all S (Nat.le_refl _), ← h.nmE] at hn
      refine ⟨e3, S.nm.map (·.2), hn.1, ?_, ?_, fun j => ?_⟩
      · intro f hf
        show f ∈ (Dk.cnt S).2.ids
        rw [e6]
        obtain ⟨p, hp, rfl⟩ := List.mem_map.1 hf
        exact l2 _ (hn.2 p hp)
      · show (Dk.tot S.nm S.fo : Int) = (fsum (Dk.cnt S).2.fo _ : Int)
        rw [e7, tot_fsum]
      · have e : pre { (Dk.cnt S).2 with la := S.nm, ch := [], taken := (Dk.tot S.nm S.fo : Int) } j = S.nm := by
          unfold pre
          show lvF (([] : List Ch).take j) S.nm = _
          rw [List.take_nil]
          rfl
        rw [e]
        exact ⟨hn.1, fun p hp => List.mem_map.2 ⟨p, hp, rfl⟩⟩
    · exact h.cnt
  · exact h
theorem WG.do (h : WG S) (o : Rop) (f : Nat) (hf : f ∉ S.ids) : WG (doS S o f) := by
  unfold doS
  split
  · exact h.crt _ f hf
  split
  · exact h.app _ _
  split
  · exact h.syn _
  split
  · exact h.tru _ _
  split
  · exact h.ren _ _
  split
  · exact h.rem _
  · exact h.sd
theorem WG.arm (h : WG S) (n : Int) : WG (arm S n) := by
  unfold Dk.arm
  split
  · exact h
  · exact h.same rfl rfl rfl rfl rfl rfl
theorem kp_le (x : Fl) (k : Int) : kp x k ≤ x.data.length - x.syn := by
  unfold kp wth
  omega
theorem zr_le (x : Fl) (k z : Int) : zr x k z ≤ x.data.length - x.syn - kp x k := by
  unfold zr wth
  omega
theorem lv_len (x : Fl) (c : Int × Int) (_h : x.syn ≤ x.data.length) : (lv x c).length ≤ x.data.length := by
  unfold lv
  rw [List.length_append, List.length_take, List.length_replicate]
  have := kp_le x c.1
  have := zr_le x c.1 c.2
  omega
/-- all bytes synced: a crash leaves them -/
theorem lv_syn (d : List Nat) (c : Int × Int) : lv ⟨d, d.length⟩ c = d := by
  have h1 := kp_le ⟨d, d.length⟩ c.1
  have h2 := zr_le ⟨d, d.length⟩ c.1 c.2
  unfold lv
  have e1 : kp ⟨d, d.length⟩ c.1 = 0 := by simp only at h1; omega
  have e2 : zr ⟨d, d.length⟩ c.1 c.2 = 0 := by simp only at h2; omega
  rw [e1, e2]
  simp
/-- a crash that keeps every byte -/
theorem lv_all (x : Fl) (k z : Int) (h : x.syn ≤ x.data.length) (hk : (x.data.length : Int) ≤ k) : lv x (k, z) = x.data := by
  have e1 : kp x k = x.data.length - x.syn := by
    unfold kp wth
    omega
  have h2 := zr_le x k z
  have e2 : zr x k z = 0 := by omega
  unfold lv
  simp only [e1, e2]
  rw [List.take_of_length_le (by omega)]
  simp
end
end Dk
end Go.Proofs.Ytjepeeopjjnglaa
