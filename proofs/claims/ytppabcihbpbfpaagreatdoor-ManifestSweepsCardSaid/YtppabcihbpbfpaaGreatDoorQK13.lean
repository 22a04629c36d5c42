import Derived.Test.YtppabcihbpbfpaaGreatDoorQK12
/-
  DiskLeaves: the walk.
-/
namespace Go.Proofs.YtppabcihbpbfpaaGreatDoor
open Go Go.RowKit Go.ChangeShapes
open Wb

namespace Dk
theorem rising_lvF : ∀ (cs : List Ch) (l : Nm), rising l → rising (lvF cs l)
  | [], _, h => h
  | c :: r, l, h => by
    show rising (lvF r (c.app l))
    refine rising_lvF r _ ?_
    unfold Ch.app
    split
    · exact rising_del h _
    · exact rising_put (rising_del h _) _ _
theorem mapIdx_sum {α β : Type} (len : β → Nat) (m : α → Nat) : ∀ (l : List α) (g : Nat → α → β), (∀ k, ∀ p ∈ l, len (g k p) ≤ m p) → ((l.mapIdx g).map len).sum ≤ (l.map m).sum
  | [], _, _ => by simp
  | x :: r, g, h => by
    rw [List.mapIdx_cons, List.map_cons, List.map_cons, List.sum_cons, List.sum_cons]
    have h1 := h 0 x (List.mem_cons_self ..)
    have h2 := mapIdx_sum len m r (fun i => g (i + 1)) fun k p hp => h (k + 1) p (List.mem_cons_of_mem _ hp)
    omega
section
variable {S : DS} {N : Nat}
theorem mapIdx_pw {α β : Type} {R : α → α → Prop} {Q : β → β → Prop} : ∀ (l : List α) (g : Nat → α → β), (∀ j k p q, R p q → Q (g j p) (g k q)) → l.Pairwise R → (l.mapIdx g).Pairwise Q
  | [], _, _, _ => by simp
  | x :: r, g, h, hp => by
    have h2 := List.pairwise_cons.1 hp
    rw [List.mapIdx_cons]
    refine List.pairwise_cons.2 ⟨fun y hy => ?_, mapIdx_pw r _ (fun j k p q => h (j + 1) (k + 1) p q) h2.2⟩
    obtain ⟨i, hi, rfl⟩ := List.getElem_of_mem hy
    rw [List.getElem_mapIdx]
    exact h 0 _ _ _ (h2.1 _ (List.getElem_mem _))
/-- what a crash leaves may be loaded -/
theorem crash_gd (hW : WF S N) (hla : rising S.la) (keep : Int) (cs : List (Int × Int)) : Gd (crash S keep cs) := by
  refine ⟨fun x hx => ?_, ?_⟩
  · obtain ⟨i, hi, rfl⟩ := List.getElem_of_mem hx
    unfold crash crL at hi ⊢
    rw [List.getElem_mapIdx]
    exact (hW.left keep _ (List.getElem_mem _)).2
  · exact mapIdx_pw (lvN S keep) _ (fun _ _ _ _ h => h) (rising_lvF _ _ hla)
theorem crash_len (hW : WF S N) (hG : WG S) (keep : Int) (cs : List (Int × Int)) : (flen (crash S keep cs) : Int) ≤ S.quota := by
  obtain ⟨L, l1, l2, l3, l4⟩ := hG.live
  have hp := l4 (lvK S keep)
  have h1 : flen (crash S keep cs) ≤ fsum S.fo ((lvN S keep).map (·.2)) := by
    unfold flen crash crL fsum
    rw [List.map_map]
    exact mapIdx_sum _ _ (lvN S keep) _ fun k p hp => lv_len _ _ (hW.fl _ (hW.left keep p hp).1).1
  have h2 : fsum S.fo ((lvN S keep).map (·.2)) ≤ fsum S.fo L := fsum_sub _ _ _ hp.1 fun f hf => by
    obtain ⟨p, hp2, rfl⟩ := List.mem_map.1 hf
    exact hp.2 p hp2
  have h3 := hW.tk
  omega
theorem crash_rows (keep : Int) (cs : List (Int × Int)) : (crash S keep cs).length = (lvN S keep).length := by
  unfold crash crL
  rw [List.length_mapIdx]
theorem lvN_len (hW : WF S N) (keep : Int) : (lvN S keep).length ≤ N + N := by
  have h9 := lvF_len (S.ch.take (lvK S keep)) S.la
  have := hW.n2
  have := hW.n3
  rw [List.length_take] at h9
  show (lvF _ _).length ≤ _
  omega
theorem files_ri (hnm : rising S.nm) : (files S).Pairwise fun x y => bytesBefore x.1 y.1 = true := by
  unfold files
  exact List.pairwise_map.2 hnm
/-- a crash that leaves all -/
theorem crash_all (hW : WF S N) (hG : WG S) (hN : N ≤ 400000000) : crash S 1099511627776 (List.replicate (files S).length (4194304, 0)) = files S := by
  have hk : lvN S 1099511627776 = S.nm := by
    have h1 : lvK S 1099511627776 = S.ch.length := by
      have := hW.n3
      unfold lvK wth
      omega
    unfold lvN
    rw [h1, List.take_of_length_le (Nat.le_refl _), hG.nmE]
  have hfl : (files S).length = S.nm.length := by unfold files; rw [List.length_map]
  unfold crash crL
  rw [hk]
  refine List.ext_getElem (by rw [List.length_mapIdx, hfl]) fun i h1 h2 => ?_
  have hi : i < (files S).length := h2
  have hi2 : i < S.nm.length := by omega
  have hat : (files S)[i]'hi = ((S.nm[i]'hi2).1, (S.fo (S.nm[i]'hi2).2).data) := by simp [files]
  have e : (List.replicate (files S).length ((4194304, 0) : Int × Int)).getD i (0, 0) = (4194304, 0) := by
    rw [List.getD_eq_getElem?_getD, List.getElem?_replicate, if_pos hi]
    rfl
  have hf := hW.fl _ (hW.ids _ (List.getElem_mem hi2))
  rw [List.getElem_mapIdx, hat, e, lv_all _ _ _ hf.1 (by have := hf.2; omega)]
end
end Dk
end Go.Proofs.YtppabcihbpbfpaaGreatDoor

/-
  DiskLeaves: the walk.
-/
namespace Go.Proofs.YtppabcihbpbfpaaGreatDoor
open Go Go.RowKit Go.ChangeShapes
open Wb

namespace Dk
theorem do_quota (S : DS) (o : Rop) (f : Nat) : (doS S o f).quota = S.quota := by
  unfold doS crt app syn tru ren rem sd mk
  repeat' split
  all_goals first | rfl | exact (cnt_same S).1
theorem arm_quota (S : DS) (n : Int) : (arm S n).quota = S.quota := by
  unfold arm
  split <;> rfl
theorem wg4 (q : Int) (f : Nat) (hq : 16 ≤ q ∧ q ≤ 4194304) : WG (rdy q f) := by
  rw [← (z5 q f).2, ← (z4 q f).2, ← (z2 q f hq.1).2, ← (z1 q f).2]
  exact ((((WG.new q).crt Z f (by simp [new])).app Z [7]).syn Z).sd
end Dk
end Go.Proofs.YtppabcihbpbfpaaGreatDoor

/-
  DiskArmed, pure: one operation on both disks.
-/
namespace Go.Proofs.YtppabcihbpbfpaaGreatDoor
open Go Go.RowKit Go.ChangeShapes
namespace Dk
section
variable {φ : Nat → Nat} {S T : DS} {N : Nat}
/-- an operation that is done counts, and leaves all else of the arming as it was -/
theorem do_flags (o : Rop) (f : Nat) (he : doE T o = 0) : (doS T o f).down = (cnt T).2.down ∧ (doS T o f).armed = (cnt T).2.armed ∧ (doS T o f).left = (cnt T).2.left := by
  unfold doE at he
  unfold doS
  split
  · rename_i hk
    rw [if_pos hk] at he
    unfold crtE at he
    unfold crt
    split at he
    · rename_i h1
      split at he
      · cases he
      · rename_i h2
        rw [if_pos ⟨h1, by simpa using h2⟩, if_pos he]
        exact ⟨rfl, rfl, rfl⟩
    · rename_i h1
      exact absurd he h1
  rename_i hk1
  rw [if_neg hk1] at he
  split
  · rename_i hk
    rw [if_pos hk] at he
    unfold appE at he
    unfold app
    split at he
    · rename_i h1
      split at he
      · cases he
      · rename_i h2
        rw [if_pos ⟨h1, h2⟩, if_pos he]
        exact ⟨rfl, rfl, rfl⟩
    · rename_i h1
      exact absurd he h1
  rename_i hk2
  rw [if_neg hk2] at he
  split
  · rename_i hk
    rw [if_pos hk] at he
    unfold synE at he
    unfold syn
    split at he
    · rename_i h1
      rw [if_pos h1, if_pos he]
      exact ⟨rfl, rfl, rfl⟩
    · rename_i h1
      exact absurd he h1
  rename_i hk3
  rw [if_neg hk3] at he
  split
  · rename_i hk
    rw [if_pos hk] at he
    unfold truE at he
    unfold tru
    split at he
    · rename_i h1
      split at he
      · cases he
      · rename_i h2
        rw [if_pos ⟨h1, by simpa using h2⟩, if_pos he]
        exact ⟨rfl, rfl, rfl⟩
    · rename_i h1
      exact absurd he h1
  rename_i hk4
  rw [if_neg hk4] at he
  split
  · rename_i hk
    rw [if_pos hk] at he
    unfold renE synE at he
    unfold ren
    split at he
    · rename_i h1
      split at he
      · rename_i h2
        rw [if_pos ⟨h1, h2⟩, if_pos he]
        exact ⟨rfl, rfl, rfl⟩
      · rename_i h2
        exact absurd he h2
    · rename_i h1
      exact absurd he h1
  rename_i hk5
  rw [if_neg hk5] at he
  split
  · rename_i hk
    rw [if_pos hk] at he
    unfold synE at he
    unfold rem
    split at he
    · rename_i h1
      rw [if_pos h1, if_pos he]
      exact ⟨rfl, rfl, rfl⟩
    · rename_i h1
      exact absurd he h1
  · rename_i hk6
    rw [if_neg hk6] at he
    unfold sdE at he
    unfold sd
    split at he
    · rename_i h1
      rw [if_pos h1, if_pos he]
      exact ⟨rfl, rfl, rfl⟩
    · rename_i h1
      exact absurd he h1
theorem do_down (ha : S.armed = false) (o : Rop) (f : Nat) : (doS S o f).down = S.down := by
  by_cases he : doE S o = 0
  · rw [(do_flags o f he).1, cnt_un ha]
  · rw [do_ref ha o f he]
/-- the same operation on both, where the armed one is not stopped -/
theorem Iso.step (h : Iso φ S T) (hd : T.down = S.down) (ha : S.armed = false) (hW : WF S N) (hr : ∀ k ∈ S.ids, φ k ∈ T.ids) (o : Rop) (f f' : Nat) (hf : f ∉ S.ids) (hf' : f' ∉ T.ids) (hgo : Dk.doE S o ≠ 0 ∨ (Dk.cnt T).1 = 0) : Dk.doE T o = Dk.doE S o ∧ (∃ φ' : Nat → Nat, Iso φ' (doS S o f) (doS T o f') ∧ ∀ k ∈ (doS S o f).ids, φ' k ∈ (doS T o f').ids) ∧ (doS T o f').down = T.down ∧ (doS T o f').armed = T.armed ∧ (doS T o f').left = if Dk.doE S o = 0 ∧ T.armed = true then T.left - 1 else T.left := by
  have e0 := h.doE hd ha hW o
  by_cases he : Dk.doE S o = 0
  · have hc : (Dk.cnt T).1 = 0 := by
      rcases hgo with h1 | h1
      · exact absurd he h1
      · exact h1
    rw [if_pos he, hc] at e0
    obtain ⟨a1, a2, a3⟩ := do_flags o f' e0
    obtain ⟨c1, c2, c3⟩ := cnt_left hc
    obtain ⟨φ2, ef, hφ⟩ : ∃ φ2 : Nat → Nat, φ2 f = f' ∧ ∀ k ∈ S.ids, φ2 k = φ k := ⟨fun k => if k = f then f' else φ k, if_pos rfl, fun k hk => if_neg fun e => hf (by rw [← e]; exact hk)⟩
    have h2 := h.congr hW hφ
    have hr2 : ∀ k ∈ S.ids, φ2 k ∈ T.ids := fun k hk => by
      rw [hφ k hk]
      exact hr k hk
    have h3 := h2.do hd ha hc hW o f (fun k hk e => hf' (by rw [ef] at e; rw [← e]; exact hr2 k hk)) hf
    have h4 := h2.range hd ha hc hr2 o f
    rw [ef] at h3 h4
    refine ⟨e0.trans he.symm, ⟨_, h3, h4⟩, a1.trans c1, a2.trans c2, ?_⟩
    rw [a3, c3]
    by_cases hT : T.armed = true
    · rw [if_pos hT, if_pos ⟨he, hT⟩]
    · rw [if_neg hT, if_neg fun e => hT e.2]
  · rw [if_neg he] at e0
    have h1 := do_ref ha o f he
    have h2 := (h.stop hd ha hW o f').1 he
    rw [h1, h2]
    exact ⟨e0, ⟨φ, h, hr⟩, rfl, rfl, by rw [if_neg fun e => he e.1]⟩
/-- the operation at which the armed one is stopped -/
theorem Iso.ends (h : Iso φ S T) (hd : T.down = S.down) (ha : S.armed = false) (hW : WF S N) (o : Rop) (f' : Nat) (he : Dk.doE S o = 0) (hT : T.armed = true) (hl : T.left = 0) : Dk.doE T o = 60 ∧ (doS T o f').down = true ∧ Iso φ S (doS T o f') := by
  obtain ⟨c1, c2⟩ := cnt_stop hT hl
  have e0 := h.doE hd ha hW o
  rw [if_pos he, c1] at e0
  have h2 := (h.stop hd ha hW o f').2 he (by rw [c1]; omega)
  rw [h2]
  exact ⟨e0, c2, h.cnt⟩
theorem iso0 (q : Int) (f f2 : Nat) (n : Int) : Iso (fun _ => f2) (rdy q f) (arm (rdy q f2) n) := by
  refine ⟨rfl, rfl, rfl, rfl, rfl, fun k hk => ?_, fun k hk g hg _ => ?_, fun c hc => by cases hc⟩
  · have e : k = f := List.mem_singleton.1 hk
    show fo0 f2 ⟨[7], 1⟩ f2 = fo0 f ⟨[7], 1⟩ k
    unfold fo0
    rw [e, upd_same, upd_same]
  · rw [List.mem_singleton.1 hk, List.mem_singleton.1 hg]
end
end Dk
end Go.Proofs.YtppabcihbpbfpaaGreatDoor

/-
  Package disk, pure: the document's disk (annalsref6), and that it is the program's.
-/
namespace Go.Proofs.YtppabcihbpbfpaaGreatDoor
open Go Go.RowKit Go.ChangeShapes
namespace Rd
open Dk
/-- a thing: its bytes, how many are synced, whether it is there -/
structure Th where
  data : List Nat
  syn : Nat
  there : Bool
/-- a name change -/
structure RCh where
  k : Int
  a : List UInt8
  b : List UInt8
  f : Nat
/-- the document's disk -/
structure RS where
  quota : Int
  th : List Th
  nm : Nm
  la : Nm
  ch : List RCh
  left : Int
  down : Bool
/-- the names behind a change -/
def chd (l : Nm) (c : RCh) : Nm := if c.k = 1 then put l c.a c.f else if c.k = 2 then put (del l c.a) c.b ((get l c.a).getD 0) else del l c.a
def chs (l : Nm) (cs : List RCh) : Nm := cs.foldl chd l
theorem chs_snoc (l : Nm) (cs : List RCh) (c : RCh) : chs l (cs ++ [c]) = chd (chs l cs) c := by
  unfold chs
  rw [List.foldl_append]
  rfl
/-- the thing is there -/
def tok (th : List Th) (i : Nat) : Prop := ∃ t, th[i]? = some t ∧ t.there = true
def okl (th : List Th) (l : Nm) : Prop := ∀ p ∈ l, p.1 ≠ [] ∧ tok th p.2
/-- a change of the program's, and the document's -/
def fits (th : List Th) (φ : Nat → Nat) (l : Nm) (c : RCh) (d : Ch) : Prop :=
  (c.k = 1 ∧ d = ⟨[], c.a, some (φ c.f)⟩ ∧ c.a ≠ [] ∧ tok th c.f) ∨ (c.k = 2 ∧ (∃ i, get l c.a = some i ∧ d = ⟨c.a, c.b, some (φ i)⟩) ∧ c.b ≠ []) ∨ (c.k = 3 ∧ d = ⟨c.a, [], none⟩)
def CR (th : List Th) (φ : Nat → Nat) : Nm → List RCh → List Ch → Prop
  | _, [], [] => True
  | l, c :: cs, d :: ds => fits th φ l c d ∧ CR th φ (chd l c) cs ds
  | _, _, _ => False
section
variable {th th' : List Th} {φ φ' : Nat → Nat} {l : Nm}
theorem del_none {l : Nm} {s : List UInt8} (h : ∀ p ∈ l, p.1 ≠ s) : del l s = l := by
  unfold del
  rw [List.filter_eq_self]
  intro p hp
  have := h p hp
  simpa using this
theorem get_tok (ho : okl th l) {s : List UInt8} {i : Nat} (hg : get l s = some i) : tok th i := (ho _ (get_mem hg)).2
theorem fits.app {c : RCh} {d : Ch} (ho : okl th l) (h : fits th φ l c d) : d.app (mp φ l) = mp φ (chd l c) ∧ okl th (chd l c) := by
  rcases h with ⟨hk, rfl, hne, ht⟩ | ⟨hk, ⟨i, hg, rfl⟩, hne⟩ | ⟨hk, rfl⟩
  · unfold chd Ch.app
    rw [if_pos hk]
    show (if c.a = [] then _ else put (del (mp φ l) []) c.a (φ c.f)) = _ ∧ _
    rw [if_neg hne]
    refine ⟨?_, fun p hp => ?_⟩
    · rw [del_mp, del_none fun p hp => (ho p hp).1]
      exact put_mp φ l c.a c.f
    · rcases mem_put.1 hp with e | ⟨e, -⟩
      · rw [e]
        exact ⟨hne, ht⟩
      · exact ho p e
  · have k1 : ¬ c.k = 1 := by omega
    unfold chd Ch.app
    rw [if_neg k1, if_pos hk]
    show (if c.b = [] then _ else put (del (mp φ l) c.a) c.b (φ i)) = _ ∧ _
    rw [if_neg hne, hg]
    refine ⟨?_, fun p hp => ?_⟩
    · rw [del_mp]
      exact put_mp φ _ c.b i
    · rcases mem_put.1 hp with e | ⟨e, -⟩
      · rw [e]
        exact ⟨hne, get_tok ho hg⟩
      · exact ho p (mem_del.1 e).1
  · have k1 : ¬ c.k = 1 := by omega
    have k2 : ¬ c.k = 2 := by omega
    unfold chd Ch.app
    rw [if_neg k1, if_neg k2]
    show (if ([] : List UInt8) = [] then _ else _) = _ ∧ _
    rw [if_pos rfl]
    exact ⟨del_mp φ l c.a, fun p hp => ho p (mem_del.1 hp).1⟩
theorem CR.take : ∀ {cs : List RCh} {ds : List Ch} {l : Nm}, CR th φ l cs ds → okl th l → ∀ k, lvF (ds.take k) (mp φ l) = mp φ (chs l (cs.take k)) ∧ okl th (chs l (cs.take k))
  | [], [], l, _, ho, k => by
    rw [List.take_nil, List.take_nil]
    exact ⟨rfl, ho⟩
  | c :: cs, d :: ds, l, h, ho, k => by
    cases k with
    | zero => exact ⟨rfl, ho⟩
    | succ k =>
      obtain ⟨h1, h2⟩ := h.1.app ho
      have h9 := CR.take h.2 h2 k
      rw [List.take_succ_cons, List.take_succ_cons]
      show lvF (ds.take k) (d.app (mp φ l)) = mp φ (chs (chd l c) (cs.take k)) ∧ okl th (chs (chd l c) (cs.take k))
      rw [h1]
      exact h9
  | [], _ :: _, _, h, _, _ => h.elim
  | _ :: _, [], _, h, _, _ => h.elim
theorem CR.len : ∀ {cs : List RCh} {ds : List Ch} {l : Nm}, CR th φ l cs ds → cs.length = ds.length
  | [], [], _, _ => rfl
  | c :: cs, d :: ds, l, h => by
    rw [List.length_cons, List.length_cons, CR.len h.2]
  | [], _ :: _, _, h => h.elim
  | _ :: _, [], _, h => h.elim
theorem CR.snoc {c : RCh} {d : Ch} : ∀ {cs : List RCh} {ds : List Ch} {l : Nm}, CR th φ l cs ds → fits th φ (chs l cs) c d → CR th φ l (cs ++ [c]) (ds ++ [d])
  | [], [], _, _, h2 => ⟨h2, trivial⟩
  | _c' :: _cs, _d' :: _ds, _l, h, h2 => ⟨h.1, CR.snoc h.2 h2⟩
  | [], _ :: _, _, h, _ => h.elim
  | _ :: _, [], _, h, _ => h.elim
theorem okl.mono {l : Nm} (h : okl th l) (ht : ∀ i, tok th i → tok th' i) : okl th' l := fun p hp => ⟨(h p hp).1, ht _ (h p hp).2⟩
theorem CR.mono (ht : ∀ i, tok th i → tok th' i ∧ φ' i = φ i) : ∀ {cs : List RCh} {ds : List Ch} {l : Nm}, CR th φ l cs ds → okl th l → CR th' φ' l cs ds
  | [], [], _, _, _ => trivial
  | c :: cs, d :: ds, l, h, ho => by
    refine ⟨?_, CR.mono ht h.2 (h.1.app ho).2⟩
    rcases h.1 with ⟨hk, e, hne, h3⟩ | ⟨hk, ⟨i, hg, e⟩, hne⟩ | ⟨hk, e⟩
    · exact .inl ⟨hk, by rw [(ht _ h3).2]; exact e, hne, (ht _ h3).1⟩
    · exact .inr (.inl ⟨hk, ⟨i, hg, by rw [(ht _ (get_tok ho hg)).2]; exact e⟩, hne⟩)
    · exact .inr (.inr ⟨hk, e⟩)
  | [], _ :: _, _, h, _ => h.elim
  | _ :: _, [], _, h, _ => h.elim
theorem mp_ext {l : Nm} (ho : okl th l) (h : ∀ i, tok th i → φ' i = φ i) : mp φ' l = mp φ l := mp_congr l fun p hp => h _ (ho p hp).2
end
/-- how much room the things take that are there -/
def tkn (th : List Th) : Nat := (th.map fun t => if t.there = true then t.data.length else 0).sum
/-- the number of a file -/
def ix (S : DS) (i : Nat) : Nat := S.ids.getD i 0
/-- the program's disk is the document's -/
structure Rl (S : DS) (R : RS) : Prop where
  quota : R.quota = S.quota
  down : R.down = S.down
  arm : R.left = if S.armed = true then S.left else -1
  len : R.th.length = S.ids.length
  nd : S.ids.Nodup
  nm : S.nm = mp (ix S) R.nm
  la : S.la = mp (ix S) R.la
  ch : CR R.th (ix S) R.la R.ch S.ch
  cur : R.nm = chs R.la R.ch
  fo : ∀ i t, R.th[i]? = some t → t.there = true → S.fo (ix S i) = ⟨t.data, t.syn⟩
  tk : S.taken = (tkn R.th : Int)
  ok : okl R.th R.la
section
variable {S : DS} {R : RS} {N : Nat}
theorem Rl.okn (h : Rl S R) : okl R.th R.nm := by
  have h9 := (h.ch.take h.ok R.ch.length).2
  rw [List.take_of_length_le (Nat.le_refl _)] at h9
  rw [h.cur]
  exact h9
theorem ix_inj (h : Rl S R) {i j : Nat} (hi : i < R.th.length) (hj : j < R.th.length) (e : ix S i = ix S j) : i = j := by
  rw [h.len] at hi hj
  unfold ix at e
  rw [List.getD_eq_getElem?_getD, List.getD_eq_getElem?_getD, List.getElem?_eq_getElem hi, List.getElem?_eq_getElem hj] at e
  exact nodup_at h.nd i j hi hj e
theorem tok_lt {th : List Th} {i : Nat} (h : tok th i) : i < th.length := by
  obtain ⟨t, h1, -⟩ := h
  exact (List.getElem?_eq_some_iff.1 h1).1
/-- the thing under a name -/
theorem Rl.at (h : Rl S R) (s : List UInt8) : get S.nm s = (get R.nm s).map (ix S) ∧ ∀ i, get R.nm s = some i → ∃ t, R.th[i]? = some t ∧ t.there = true ∧ S.fo (ix S i) = ⟨t.data, t.syn⟩ := by
  refine ⟨by rw [h.nm, get_mp], fun i hi => ?_⟩
  obtain ⟨t, h1, h2⟩ := get_tok h.okn hi
  exact ⟨t, h1, h2, h.fo i t h1 h2⟩
/-- what is refused -/
def rref (R : RS) (o : Rop) : Int := if o.k = 7 then 0 else if isNm o.a.data.toList = false then 61 else if o.k = 5 ∧ isNm o.b.data.toList = false then 61 else if o.k = 1 then (if (get R.nm o.a.data.toList).isSome = true then 62 else 0) else
  match get R.nm o.a.data.toList with
  | none => 63
  | some i => if o.k = 4 ∧ (o.n < 0 ∨ o.n > ((R.th.getD i ⟨[], 0, false⟩).data.length : Int)) then 65 else if o.k = 2 ∧ (o.data.length : Int) > R.quota - (tkn R.th : Int) then 64 else 0
theorem ask_nm (S : DS) (s : List UInt8) (hd : S.down = false) : askE S [s] = if isNm s = true then 0 else 61 := by
  unfold askE
  rw [hd, if_neg Bool.false_ne_true]
  show (if (isNm s && true) = true then (0 : Int) else 61) = _
  rw [Bool.and_true]
theorem find_nm (S : DS) (s : List UInt8) (hd : S.down = false) : (findE S s).1 = if isNm s = true then (match get S.nm s with | none => 63 | some _ => 0) else 61 := by
  unfold findE
  rw [ask_nm S s hd]
  by_cases hs : isNm s = true
  · rw [if_pos hs, if_pos rfl, if_pos hs]
    cases get S.nm s <;> rfl
  · rw [if_neg hs, if_neg (by omega), if_neg hs]
theorem fil_nm (S : DS) (s : List UInt8) (hd : S.down = false) (hs : isNm s = true) {i : Nat} (hg : get S.nm s = some i) : fil S s = i := by
  unfold fil findE
  rw [ask_nm S s hd, if_pos hs, if_pos rfl, hg]
  rfl
theorem ask_nm2 (S : DS) (a b : List UInt8) (hd : S.down = false) : askE S [a, b] = if isNm a = true ∧ isNm b = true then 0 else 61 := by
  unfold askE
  rw [hd, if_neg Bool.false_ne_true]
  show (if (isNm a && (isNm b && true)) = true then (0 : Int) else 61) = _
  rw [Bool.and_true]
  simp only [Bool.and_eq_true]
section
variable {o : Rop}
theorem rr7 (k : o.k = 7) : rref R o = 0 := by
  unfold rref
  rw [if_pos k]
theorem rrA (k : o.k ≠ 7) (h : isNm o.a.data.toList = false) : rref R o = 61 := by
  unfold rref
  rw [if_neg k, if_pos h]
theorem rrB (k : o.k = 5) (ha : isNm o.a.data.toList = true) (h : isNm o.b.data.toList = false) : rref R o = 61 := by
  unfold rref
  rw [if_neg (show ¬ o.k = 7 by omega), if_neg (show ¬ isNm o.a.data.toList = false by rw [ha]; simp), if_pos ⟨k, h⟩]
theorem rr1 (k : o.k = 1) (ha : isNm o.a.data.toList = true) : rref R o = if (get R.nm o.a.data.toList).isSome = true then 62 else 0 := by
  unfold rref
  rw [if_neg (show ¬ o.k = 7 by omega), if_neg (show ¬ isNm o.a.data.toList = false by rw [ha]; simp), if_neg (show ¬ (o.k = 5 ∧ isNm o.b.data.toList = false) from fun e => by omega), if_pos k]
theorem rrN (k7 : o.k ≠ 7) (k1 : o.k ≠ 1) (ha : isNm o.a.data.toList = true) (hb : o.k = 5 → isNm o.b.data.toList = true) (hg : get R.nm o.a.data.toList = none) : rref R o = 63 := by
  unfold rref
  rw [if_neg k7, if_neg (show ¬ isNm o.a.data.toList = false by rw [ha]; simp), if_neg (show ¬ (o.k = 5 ∧ isNm o.b.data.toList = false) from fun e => by rw [hb e.1] at e; exact absurd e.2 (by simp)), if_neg k1, hg]
theorem rrS (k7 : o.k ≠ 7) (k1 : o.k ≠ 1) (ha : isNm o.a.data.toList = true) (hb : o.k = 5 → isNm o.b.data.toList = true) {i : Nat} (hg : get R.nm o.a.data.toList = some i) : rref R o = if o.k = 4 ∧ (o.n < 0 ∨ o.n > ((R.th.getD i ⟨[], 0, false⟩).data.length : Int)) then 65 else if o.k = 2 ∧ (o.data.length : Int) > R.quota - (tkn R.th : Int) then 64 else 0 := by
  unfold rref
  rw [if_neg k7, if_neg (show ¬ isNm o.a.data.toList = false by rw [ha]; simp), if_neg (show ¬ (o.k = 5 ∧ isNm o.b.data.toList = false) from fun e => by rw [hb e.1] at e; exact absurd e.2 (by simp)), if_neg k1, hg]
end
/-- the error of a changing call, by its kind -/
theorem doE_k (S : DS) (o : Rop) : (o.k = 1 → doE S o = crtE S o.a.data.toList) ∧ (o.k = 2 → doE S o = appE S o.a.data.toList o.data) ∧ (o.k = 3 → doE S o = synE S o.a.data.toList) ∧ (o.k = 4 → doE S o = truE S o.a.data.toList o.n) ∧ (o.k = 5 → doE S o = renE S o.a.data.toList o.b.data.toList) ∧ (o.k = 6 → doE S o = synE S o.a.data.toList) ∧ (o.k = 7 → doE S o = sdE S) := by
  unfold doE
  refine ⟨fun k => ?_, fun k => ?_, fun k => ?_, fun k => ?_, fun k => ?_, fun k => ?_, fun k => ?_⟩ <;> rw [k] <;> rfl
theorem by_rref {d c r : Int} (v : Int) (hr : r = v) (h0 : v = 0 → d = c) (h1 : v ≠ 0 → d = v) : d = if r = 0 then c else r := by
  subst hr
  by_cases e : r = 0
  · rw [if_pos e]
    exact h0 e
  · rw [if_neg e]
    exact h1 e
/-- the error of a changing call, by what the document refuses -/
theorem Rl.err (h : Rl S R) {o : Rop} (hk : 1 ≤ o.k ∧ o.k ≤ 7) (hd : S.down = false) : doE S o = if rref R o = 0 then (Dk.cnt S).1 else rref R o := by
  obtain ⟨d1, d2, d3, d4, d5, d6, d7⟩ := doE_k S o
  have hat := h.at o.a.data.toList
  have hf := find_nm S o.a.data.toList hd
  by_cases k7 : o.k = 7
  · refine by_rref 0 (rr7 k7) (fun _ => ?_) (fun e => absurd rfl e)
    rw [d7 k7]
    unfold sdE askE
    rw [hd]
    rfl
  by_cases hn : isNm o.a.data.toList = true
  · rw [if_pos hn] at hf
    by_cases k1 : o.k = 1
    · by_cases hg : (get R.nm o.a.data.toList).isSome = true
      · refine by_rref 62 ((rr1 k1 hn).trans (by rw [if_pos hg])) (fun e => by omega) (fun _ => ?_)
        rw [d1 k1]
        unfold crtE
        rw [ask_nm S _ hd, if_pos hn, if_pos rfl, hat.1, Option.isSome_map, if_pos hg]
      · refine by_rref 0 ((rr1 k1 hn).trans (by rw [if_neg hg])) (fun _ => ?_) (fun e => absurd rfl e)
        rw [d1 k1]
        unfold crtE
        rw [ask_nm S _ hd, if_pos hn, if_pos rfl, hat.1, Option.isSome_map, if_neg hg]
    by_cases hb : o.k = 5 → isNm o.b.data.toList = true
    · have hren : o.k = 5 → doE S o = synE S o.a.data.toList := fun k5 => by
        rw [d5 k5]
        unfold renE
        rw [ask_nm2 S _ _ hd]
        have h2 : (if isNm o.a.data.toList = true ∧ isNm o.b.data.toList = true then (0 : Int) else 61) = 0 := if_pos ⟨hn, hb k5⟩
        rw [h2]
        rfl
      have h6 : o.k = 2 ∨ o.k = 3 ∨ o.k = 4 ∨ o.k = 5 ∨ o.k = 6 := by omega
      cases hg : get R.nm o.a.data.toList with
      | none =>
        rw [hat.1, hg] at hf
        have hf' : (findE S o.a.data.toList).1 = 63 := hf
        have hs : synE S o.a.data.toList = 63 := by
          unfold synE
          rw [hf', if_neg (by omega)]
        refine by_rref 63 (rrN k7 k1 hn hb hg) (fun e => by omega) (fun _ => ?_)
        rcases h6 with k | k | k | k | k
        · rw [d2 k]
          unfold appE
          rw [hf', if_neg (by omega)]
        · rw [d3 k, hs]
        · rw [d4 k]
          unfold truE
          rw [hf', if_neg (by omega)]
        · rw [hren k, hs]
        · rw [d6 k, hs]
      | some i =>
        rw [hat.1, hg] at hf
        have hf' : (findE S o.a.data.toList).1 = 0 := hf
        obtain ⟨t, ht, -, hfo⟩ := hat.2 i hg
        have hfl : fil S o.a.data.toList = ix S i := fil_nm S _ hd hn (by rw [hat.1, hg]; rfl)
        have hs : synE S o.a.data.toList = (Dk.cnt S).1 := by
          unfold synE
          rw [if_pos hf']
        have htd : R.th.getD i ⟨[], 0, false⟩ = t := by
          rw [List.getD_eq_getElem?_getD, ht]
          rfl
        have hS := rrS (R := R) k7 k1 hn hb hg
        rw [htd] at hS
        have h0 : o.k ≠ 2 → o.k ≠ 4 → rref R o = 0 := fun n2 n4 => by rw [hS, if_neg (fun e => n4 e.1), if_neg (fun e => n2 e.1)]
        rcases h6 with k | k | k | k | k
        · have hap : doE S o = if (o.data.length : Int) > R.quota - (tkn R.th : Int) then 64 else (Dk.cnt S).1 := by
            rw [d2 k]
            unfold appE
            rw [if_pos hf', ← h.quota, h.tk]
          by_cases hr : (o.data.length : Int) > R.quota - (tkn R.th : Int)
          · refine by_rref 64 ?_ (fun e => by omega) (fun _ => by rw [hap, if_pos hr])
            rw [hS, if_neg (fun e => by omega), if_pos ⟨k, hr⟩]
          · refine by_rref 0 ?_ (fun _ => by rw [hap, if_neg hr]) (fun e => absurd rfl e)
            rw [hS, if_neg (fun e => by omega), if_neg (fun e => hr e.2)]
        · exact by_rref 0 (h0 (by omega) (by omega)) (fun _ => by rw [d3 k, hs]) (fun e => absurd rfl e)
        · have hap : doE S o = if o.n < 0 ∨ o.n > (t.data.length : Int) then 65 else (Dk.cnt S).1 := by
            rw [d4 k]
            unfold truE bad
            rw [if_pos hf', hfl, hfo]
            simp only [decide_eq_true_eq]
          by_cases hr : o.n < 0 ∨ o.n > (t.data.length : Int)
          · refine by_rref 65 ?_ (fun e => by omega) (fun _ => by rw [hap, if_pos hr])
            rw [hS, if_pos ⟨k, hr⟩]
          · refine by_rref 0 ?_ (fun _ => by rw [hap, if_neg hr]) (fun e => absurd rfl e)
            rw [hS, if_neg (fun e => hr e.2), if_neg (fun e => by omega)]
        · exact by_rref 0 (h0 (by omega) (by omega)) (fun _ => by rw [hren k, hs]) (fun e => absurd rfl e)
        · exact by_rref 0 (h0 (by omega) (by omega)) (fun _ => by rw [d6 k, hs]) (fun e => absurd rfl e)
    · have k5 : o.k = 5 := by
        by_cases e : o.k = 5
        · exact e
        · exact absurd (fun e2 => absurd e2 e) hb
      have hb2 : isNm o.b.data.toList = false := by
        cases e : isNm o.b.data.toList with
        | false => rfl
        | true => exact absurd (fun _ => e) hb
      refine by_rref 61 (rrB k5 hn hb2) (fun e => by omega) (fun _ => ?_)
      rw [d5 k5]
      unfold renE
      have h2 : askE S [o.a.data.toList, o.b.data.toList] = 61 := by rw [ask_nm2 S _ _ hd, if_neg (fun e => by rw [hb2] at e; exact absurd e.2 (by simp))]
      rw [h2]
      rfl
  · have hn2 : isNm o.a.data.toList = false := by simpa using hn
    rw [if_neg hn] at hf
    have hs : synE S o.a.data.toList = 61 := by
      unfold synE
      rw [hf, if_neg (by omega)]
    refine by_rref 61 (rrA k7 hn2) (fun e => by omega) (fun _ => ?_)
    have h6 : o.k = 1 ∨ o.k = 2 ∨ o.k = 3 ∨ o.k = 4 ∨ o.k = 5 ∨ o.k = 6 := by omega
    rcases h6 with k | k | k | k | k | k
    · rw [d1 k]
      unfold crtE
      have h2 : askE S [o.a.data.toList] = 61 := by rw [ask_nm S _ hd, if_neg hn]
      rw [h2]
      rfl
    · rw [d2 k]
      unfold appE
      rw [hf, if_neg (by omega)]
    · rw [d3 k, hs]
    · rw [d4 k]
      unfold truE
      rw [hf, if_neg (by omega)]
    · rw [d5 k]
      unfold renE
      have h2 : askE S [o.a.data.toList, o.b.data.toList] = 61 := by rw [ask_nm2 S _ _ hd, if_neg (fun e => hn e.1)]
      rw [h2]
      rfl
    · rw [d6 k, hs]
end
end Rd
end Go.Proofs.YtppabcihbpbfpaaGreatDoor

/-
  Package disk, pure: a changing call on the program's disk and on the document's.
-/
namespace Go.Proofs.YtppabcihbpbfpaaGreatDoor
open Go Go.RowKit Go.ChangeShapes
namespace Rd
open Dk
/-- the thing that a call is about -/
def thn (R : RS) (o : Rop) : Nat := (get R.nm o.a.data.toList).getD 0
def tha (R : RS) (o : Rop) : Th := R.th.getD (thn R o) ⟨[], 0, false⟩
def nmd (R : RS) (c : RCh) : RS := { R with nm := chd R.nm c, ch := R.ch ++ [c] }
def lsg (R : RS) : RS := { R with th := R.th.mapIdx (fun k t => if (R.nm.any fun p => p.2 == k) = true then ⟨t.data, t.syn, true⟩ else ⟨[], 0, false⟩), la := R.nm, ch := [] }
/-- the state behind a changing call that nothing refuses -/
def ract (R : RS) (o : Rop) : RS := if o.k = 1 then nmd { R with th := R.th ++ [⟨[], 0, true⟩] } ⟨1, o.a.data.toList, [], R.th.length⟩ else if o.k = 2 then { R with th := R.th.set (thn R o) ⟨(tha R o).data ++ o.data, (tha R o).syn, (tha R o).there⟩ } else if o.k = 3 then { R with th := R.th.set (thn R o) ⟨(tha R o).data, (tha R o).data.length, (tha R o).there⟩ } else if o.k = 4 then { R with th := R.th.set (thn R o) ⟨(tha R o).data.take o.n.toNat, min (tha R o).syn o.n.toNat, (tha R o).there⟩ } else if o.k = 5 then nmd R ⟨2, o.a.data.toList, o.b.data.toList, 0⟩ else if o.k = 6 then nmd R ⟨3, o.a.data.toList, [], 0⟩ else lsg R
def rdo (R : RS) (o : Rop) : RS × Int := if R.down = true then (R, 60) else if rref R o ≠ 0 then (R, rref R o) else if R.left = 0 then ({ R with down := true }, 60) else ({ ract R o with left := if R.left > 0 then R.left - 1 else R.left }, 0)
section
variable {S : DS} {R : RS} {N : Nat}
theorem ract_left (R : RS) (o : Rop) (x : Int) : ract { R with left := x } o = { ract R o with left := x } := by
  unfold ract
  repeat' split
  all_goals rfl
theorem tkn_set : ∀ (th : List Th) (i : Nat) (t x : Th), th[i]? = some t → t.there = true → x.there = true → tkn (th.set i x) + t.data.length = tkn th + x.data.length
  | [], i, t, x, h, _, _ => by simp at h
  | y :: r, 0, t, x, h, h1, h2 => by
    have e : y = t := by simpa using h
    subst e
    unfold tkn
    rw [List.set_cons_zero, List.map_cons, List.map_cons, List.sum_cons, List.sum_cons, if_pos h1, if_pos h2]
    omega
  | y :: r, i + 1, t, x, h, h1, h2 => by
    have h9 := tkn_set r i t x (by simpa using h) h1 h2
    unfold tkn at h9 ⊢
    rw [List.set_cons_succ, List.map_cons, List.map_cons, List.sum_cons, List.sum_cons]
    omega
theorem tkn_snoc (th : List Th) (x : Th) : tkn (th ++ [x]) = tkn th + if x.there = true then x.data.length else 0 := by
  unfold tkn
  rw [List.map_append, List.sum_append]
  simp
theorem tok_set {th : List Th} {i : Nat} {t x : Th} (_h : th[i]? = some t) (hx : x.there = true) : ∀ j, tok th j → tok (th.set i x) j := fun j ⟨u, h1, h2⟩ => by
  by_cases e : i = j
  · subst e
    exact ⟨x, by rw [List.getElem?_set_self (List.getElem?_eq_some_iff.1 h1).1], hx⟩
  · exact ⟨u, by rw [List.getElem?_set_ne e]; exact h1, h2⟩
theorem tok_snoc {th : List Th} (x : Th) : ∀ j, tok th j → tok (th ++ [x]) j := fun j ⟨u, h1, h2⟩ => ⟨u, by rw [List.getElem?_append_left (List.getElem?_eq_some_iff.1 h1).1]; exact h1, h2⟩
/-- the bytes of one file change -/
theorem Rl.upd (h : Rl S R) {i : Nat} {t : Th} (ht : R.th[i]? = some t) (hth : t.there = true) (x : Fl) (tk : Int) (htk : tk = S.taken + x.data.length - t.data.length) : Rl { S with fo := Dk.upd S.fo (ix S i) x, taken := tk } { R with th := R.th.set i ⟨x.data, x.syn, true⟩ } := by
  have hi := (List.getElem?_eq_some_iff.1 ht).1
  have hts := tok_set (x := ⟨x.data, x.syn, true⟩) ht rfl
  refine ⟨h.quota, h.down, h.arm, ?_, h.nd, h.nm, h.la, ?_, h.cur, fun j u hj hu => ?_, ?_, h.ok.mono hts⟩
  · show (R.th.set i _).length = _
    rw [List.length_set]
    exact h.len
  · exact h.ch.mono (fun j hj => ⟨hts j hj, rfl⟩) h.ok
  · show Dk.upd S.fo (ix S i) x (ix S j) = _
    have hj' : (R.th.set i ⟨x.data, x.syn, true⟩)[j]? = some u := hj
    by_cases e : i = j
    · subst e
      rw [List.getElem?_set_self hi] at hj'
      rw [upd_same, ← Option.some.inj hj']
    · rw [List.getElem?_set_ne e] at hj'
      have hjl := (List.getElem?_eq_some_iff.1 hj').1
      rw [upd_ne _ _ fun e2 => e (ix_inj h hjl hi e2).symm]
      exact h.fo j u hj' hu
  · show tk = (tkn (R.th.set i _) : Int)
    have h9 := tkn_set R.th i t ⟨x.data, x.syn, true⟩ ht hth rfl
    have h8 := h.tk
    have h7 : tkn (R.th.set i ⟨x.data, x.syn, true⟩) + t.data.length = tkn R.th + x.data.length := h9
    omega
/-- a name changes -/
theorem Rl.nmd (h : Rl S R) (c : RCh) (d : Ch) (hf : fits R.th (ix S) R.nm c d) : Rl { S with nm := d.app S.nm, ch := S.ch ++ [d] } (nmd R c) := by
  refine ⟨h.quota, h.down, h.arm, h.len, h.nd, ?_, h.la, ?_, ?_, h.fo, h.tk, h.ok⟩
  · show d.app S.nm = mp (ix S) (chd R.nm c)
    rw [h.nm]
    exact (hf.app h.okn).1
  · refine h.ch.snoc ?_
    rw [← h.cur]
    exact hf
  · show chd R.nm c = chs R.la (R.ch ++ [c])
    rw [chs_snoc, ← h.cur]
theorem ix_mk (S : DS) (f i : Nat) (h : i < S.ids.length) : ix (Dk.mk S f) i = ix S i := by
  show (S.ids ++ [f]).getD i 0 = S.ids.getD i 0
  rw [List.getD_eq_getElem?_getD, List.getD_eq_getElem?_getD, List.getElem?_append_left h]
theorem ix_new (S : DS) (f : Nat) : ix (Dk.mk S f) S.ids.length = f := by
  show (S.ids ++ [f]).getD S.ids.length 0 = f
  rw [List.getD_eq_getElem?_getD, List.getElem?_concat_length]
  rfl
theorem ix_mem (S : DS) {i : Nat} (h : i < S.ids.length) : ix S i ∈ S.ids := by
  unfold ix
  rw [List.getD_eq_getElem?_getD, List.getElem?_eq_getElem h]
  exact List.getElem_mem h
/-- a file is made -/
theorem Rl.made (h : Rl S R) (f : Nat) (hf : f ∉ S.ids) : Rl (Dk.mk S f) { R with th := R.th ++ [⟨[], 0, true⟩] } := by
  have hx : ∀ i, tok R.th i → ix (Dk.mk S f) i = ix S i := fun i hi => ix_mk S f i (by rw [← h.len]; exact tok_lt hi)
  have hts := tok_snoc (th := R.th) ⟨[], 0, true⟩
  refine ⟨h.quota, h.down, h.arm, ?_, ?_, ?_, ?_, ?_, h.cur, fun j u hj hu => ?_, ?_, h.ok.mono hts⟩
  · show (R.th ++ [_]).length = (S.ids ++ [f]).length
    rw [List.length_append, List.length_append, h.len]
    rfl
  · show (S.ids ++ [f]).Nodup
    refine List.nodup_append.2 ⟨h.nd, by simp, fun a ha b hb e => ?_⟩
    rw [List.mem_singleton.1 hb] at e
    exact hf (by rw [← e]; exact ha)
  · show S.nm = _
    rw [h.nm]
    exact (mp_ext h.okn hx).symm
  · show S.la = _
    rw [h.la]
    exact (mp_ext h.ok hx).symm
  · exact h.ch.mono (fun j hj => ⟨hts j hj, hx j hj⟩) h.ok
  · have hj' : (R.th ++ [⟨[], 0, true⟩])[j]? = some u := hj
    show Dk.upd S.fo f ⟨[], 0⟩ (ix (Dk.mk S f) j) = _
    by_cases e : j < R.th.length
    · rw [List.getElem?_append_left e] at hj'
      have h2 : j < S.ids.length := by rw [← h.len]; exact e
      rw [ix_mk S f j h2, upd_ne _ _ fun e2 => hf (by rw [← e2]; exact ix_mem S h2)]
      exact h.fo j u hj' hu
    · have hl := (List.getElem?_eq_some_iff.1 hj').1
      rw [List.length_append] at hl
      have e3 : j = R.th.length := by
        have : ([⟨[], 0, true⟩] : List Th).length = 1 := rfl
        omega
      rw [e3, List.getElem?_concat_length] at hj'
      rw [e3, h.len, ix_new, upd_same, ← Option.some.inj hj']
  · show S.taken = (tkn (R.th ++ [⟨[], 0, true⟩]) : Int)
    rw [tkn_snoc, h.tk]
    simp
end
section
theorem sum_one (a : Nat) (x : Nat) : ∀ n, ((List.range n).map fun k => if k = a then x else 0).sum = if a < n then x else 0
  | 0 => rfl
  | n + 1 => by
    rw [List.range_succ, List.map_append, List.sum_append, sum_one a x n]
    show _ + (if n = a then x else 0) + 0 = _
    by_cases h : a < n
    · rw [if_pos h, if_neg (show ¬ n = a by omega), if_pos (show a < n + 1 by omega)]
      omega
    · by_cases h2 : n = a
      · rw [if_neg h, if_pos h2, if_pos (show a < n + 1 by omega), Nat.zero_add, Nat.add_zero]
      · rw [if_neg h, if_neg h2, if_neg (show ¬ a < n + 1 by omega)]
theorem sum_two (f g : Nat → Nat) : ∀ l : List Nat, (l.map fun k => f k + g k).sum = (l.map f).sum + (l.map g).sum
  | [] => rfl
  | a :: l => by
    rw [List.map_cons, List.map_cons, List.map_cons, List.sum_cons, List.sum_cons, List.sum_cons, sum_two f g l]
    omega
theorem sum_in (g : Nat → Nat) (n : Nat) : ∀ L : List Nat, L.Nodup → (∀ a ∈ L, a < n) → ((List.range n).map fun k => if L.any (fun a => a == k) = true then g k else 0).sum = (L.map g).sum
  | [], _, _ => by
    rw [List.map_nil, List.sum_nil]
    generalize List.range n = r
    induction r with
    | nil => rfl
    | cons a r ih =>
      rw [List.map_cons, List.sum_cons, ih]
      rfl
  | a :: L, hd, hl => by
    have hd2 := List.nodup_cons.1 hd
    rw [List.map_cons, List.sum_cons, ← sum_in g n L hd2.2 fun b hb => hl b (List.mem_cons_of_mem _ hb)]
    have h1 := sum_one a (g a) n
    rw [if_pos (hl a (List.mem_cons_self ..))] at h1
    rw [← h1, ← sum_two]
    refine congrArg List.sum (List.map_congr_left fun k _ => ?_)
    rw [List.any_cons]
    by_cases e : k = a
    · subst e
      have hn : L.any (fun b => b == k) = false := by
        rw [List.any_eq_false]
        intro b hb e2
        exact hd2.1 (by rw [← eq_of_beq e2]; exact hb)
      simp [hn]
    · have : (a == k) = false := by
        rw [beq_eq_false_iff_ne]
        exact fun e2 => e e2.symm
      rw [this, Bool.false_or, if_neg e, Nat.zero_add]
theorem map_idx {α β γ : Type} (F : Nat → α → β) (G : β → γ) (l : List α) : (l.mapIdx F).map G = l.mapIdx fun k t => G (F k t) := List.ext_getElem (by simp) fun i h1 h2 => by simp
theorem sum_idx {α : Type} (F : Nat → α → Nat) : ∀ (l : List α) (z : α), (l.mapIdx F).sum = ((List.range l.length).map fun k => F k (l.getD k z)).sum := fun l z => by
  refine congrArg List.sum (List.ext_getElem (by simp) fun i h1 h2 => ?_)
  rw [List.getElem_mapIdx, List.getElem_map, List.getElem_range, List.getD_eq_getElem?_getD, List.getElem?_eq_getElem (by simpa using h1)]
  rfl
end
section
variable {S : DS} {R : RS} {N : Nat}
theorem Rl.rnd (h : Rl S R) (hW : WF S N) : (R.nm.map (·.2)).Nodup := by
  have h9 := hW.inj
  rw [h.nm] at h9
  unfold mp at h9
  rw [List.map_map] at h9
  have e : ((fun p : List UInt8 × Nat => p.2) ∘ fun p : List UInt8 × Nat => (p.1, ix S p.2)) = (ix S) ∘ (fun p : List UInt8 × Nat => p.2) := rfl
  rw [e, ← List.map_map] at h9
  exact List.Pairwise.of_map (ix S) (fun a b h e => h (congrArg _ e)) h9
theorem any_mem {l : Nm} {k : Nat} : (l.any fun p => p.2 == k) = (l.map (·.2)).any (fun a => a == k) := by
  rw [List.any_map]
  rfl
theorem tkn_lsg (h : Rl S R) (hW : WF S N) : tkn (lsg R).th = tot S.nm S.fo := by
  have h1 : tot S.nm S.fo = ((R.nm.map (·.2)).map fun k => (R.th.getD k ⟨[], 0, false⟩).data.length).sum := by
    unfold tot
    rw [h.nm]
    unfold mp
    rw [List.map_map, List.map_map]
    refine congrArg List.sum (List.map_congr_left fun p hp => ?_)
    obtain ⟨t, h2, h3⟩ := (h.okn p hp).2
    show (S.fo (ix S p.2)).data.length = (R.th.getD p.2 ⟨[], 0, false⟩).data.length
    rw [h.fo p.2 t h2 h3, List.getD_eq_getElem?_getD, h2]
    rfl
  rw [h1, ← sum_in (fun k => (R.th.getD k ⟨[], 0, false⟩).data.length) R.th.length _ (h.rnd hW) fun a ha => by
    obtain ⟨p, hp, rfl⟩ := List.mem_map.1 ha
    exact tok_lt (h.okn p hp).2]
  unfold tkn lsg
  rw [map_idx, sum_idx _ R.th ⟨[], 0, false⟩]
  refine congrArg List.sum (List.map_congr_left fun k _ => ?_)
  show (if (if (R.nm.any fun p => p.2 == k) = true then (⟨(R.th.getD k ⟨[], 0, false⟩).data, (R.th.getD k ⟨[], 0, false⟩).syn, true⟩ : Th) else ⟨[], 0, false⟩).there = true then _ else 0) = _
  rw [any_mem]
  split <;> rfl
/-- the names are made to last -/
theorem Rl.lsg (h : Rl S R) (hW : WF S N) : Rl { S with la := S.nm, ch := [], taken := (tot S.nm S.fo : Int) } (lsg R) := by
  have hin : ∀ p ∈ R.nm, (R.nm.any fun q => q.2 == p.2) = true := fun p hp => List.any_eq_true.2 ⟨p, hp, by simp⟩
  have hok : okl (Rd.lsg R).th R.nm := fun p hp => by
    obtain ⟨h0, t, h2, h3⟩ := h.okn p hp
    refine ⟨h0, ⟨t.data, t.syn, true⟩, ?_, rfl⟩
    show (R.th.mapIdx _)[p.2]? = _
    rw [List.getElem?_mapIdx, h2, Option.map_some, if_pos (hin p hp)]
  refine ⟨h.quota, h.down, h.arm, ?_, h.nd, h.nm, h.nm, trivial, rfl, fun i t hi ht => ?_, by rw [tkn_lsg h hW], hok⟩
  · show (R.th.mapIdx _).length = _
    rw [List.length_mapIdx]
    exact h.len
  · have hi' : (R.th.mapIdx (fun k t => if (R.nm.any fun p => p.2 == k) = true then (⟨t.data, t.syn, true⟩ : Th) else ⟨[], 0, false⟩))[i]? = some t := hi
    rw [List.getElem?_mapIdx] at hi'
    cases hu : R.th[i]? with
    | none => rw [hu] at hi'; cases hi'
    | some u =>
      rw [hu, Option.map_some] at hi'
      by_cases hm : (R.nm.any fun p => p.2 == i) = true
      · rw [if_pos hm] at hi'
        rw [← Option.some.inj hi']
        obtain ⟨p, hp, e⟩ := List.any_eq_true.1 hm
        obtain ⟨v, h2, h3⟩ := (h.okn p hp).2
        rw [eq_of_beq e, hu] at h2
        rw [← Option.some.inj h2] at h3
        exact h.fo i u hu h3
      · rw [if_neg hm] at hi'
        rw [← Option.some.inj hi'] at ht
        cases ht
end
end Rd
end Go.Proofs.YtppabcihbpbfpaaGreatDoor
