import Derived.Test.YtceokpklcfmadabQE1
import Derived.Test.YtceokpklcfmadabQIB
import Derived.Test.YtceokpklcfmadabQJ7
/-
  Families of rows: lists that lie apart, written over and lengthened one by one.
-/
namespace Go.Proofs.Ytceokpklcfmadab
open Go Go.RowKit
namespace Mg

/-- the j-th list is a row of so many elements, with these cells -/
def Fam (B : Nat) (w : World) (e : TypeId) (s : Nat) (n : Nat → Nat) (L : List Value) (X : Nat → List Value) : Prop := ∀ (j : Nat) (v : Value), L[j]? = some v → w.ownsRow B e s v (n j) (X j)
/-- no two of them share a block -/
def Apt (L : List Value) : Prop := ∀ (i j : Nat) (u v : Value), L[i]? = some u → L[j]? = some v → i ≠ j → ∀ g, u.ownBlock = some g → v.ownBlock ≠ some g
section
variable {B : Nat} {w w' : World} {e : TypeId} {s : Nat} {n : Nat → Nat} {L : List Value} {X : Nat → List Value}
theorem Fam.block (h : Fam B w e s n L X) (hb : ∀ v ∈ L, ∀ g, v.ownBlock = some g → w'.heap[g]? = w.heap[g]?) : Fam B w' e s n L X := fun j v hj => row_block (h j v hj) (hb v (List.mem_of_getElem? hj))
theorem Fam.lt (h : Fam B w e s n L X) (v : Value) (hv : v ∈ L) (g : Nat) (hg : v.ownBlock = some g) : B ≤ g ∧ g < w.heap.size := by
  obtain ⟨j, hj⟩ := List.getElem?_of_mem hv
  exact World.ownsRow.lt (h j v hj) g hg
theorem Fam.kept (h : Fam B w e s n L X) (hb : Below w.heap.size w w') : Fam B w' e s n L X := h.block fun v hv g hg => hb.block g (h.lt v hv g hg).2
theorem Fam.other {row : Option Nat} (h : Fam B w e s n L X) (k : w.grownBy w' row) (hne : ∀ v ∈ L, ∀ g, v.ownBlock = some g → row ≠ some g) : Fam B w' e s n L X := h.block fun v hv g hg => k.block g (h.lt v hv g hg).2 fun e' => hne v hv g hg e'.symm
/-- a row of another kind changes -/
theorem Fam.kind {e' : TypeId} {s' m B' : Nat} {u : Value} {ys : List Value} (h : Fam B w e s n L X) (hu : w.ownsRow B' e' s' u m ys) (ht : e ≠ e') (k : w.grownBy w' u.ownBlock) : Fam B w' e s n L X := h.other k fun v hv g hg => by
  obtain ⟨j, hj⟩ := List.getElem?_of_mem hv
  exact kinds_apart (h j v hj) hu ht g hg
/-- the i-th row is written -/
theorem Fam.put (h : Fam B w e s n L X) (ha : Apt L) (i : Nat) (v : Value) (hi : L[i]? = some v) (k : w.grownBy w' v.ownBlock) (ys : List Value) (hy : w'.ownsRow B e s v (n i) ys) : Fam B w' e s n L (fun j => if j = i then ys else X j) := fun j u hj => by
  by_cases hij : j = i
  · subst hij
    rw [hi] at hj
    obtain rfl := Option.some.inj hj
    simp only [if_true]
    exact hy
  · simp only [if_neg hij]
    exact row_other (h j u hj) k fun g hg => ha j i u v hj hi hij g hg
theorem Fam.snoc (h : Fam B w e s n L X) (v : Value) (ys : List Value) (hv : w.ownsRow B e s v (n L.length) ys) (hX : X L.length = ys) : Fam B w e s n (L ++ [v]) X := fun j u hj => by
  by_cases hlt : j < L.length
  · rw [List.getElem?_append_left hlt] at hj
    exact h j u hj
  · rw [List.getElem?_append_right (by omega)] at hj
    have hj0 : j - L.length = 0 := by
      have := (List.getElem?_eq_some_iff.1 hj).1
      simp at this
      omega
    rw [hj0] at hj
    obtain rfl : v = u := by simpa using hj
    obtain rfl : j = L.length := by omega
    rw [hX]
    exact hv
theorem Apt.snoc (h : Apt L) (v : Value) (hv : ∀ u ∈ L, ∀ g, u.ownBlock = some g → v.ownBlock ≠ some g) : Apt (L ++ [v]) := fun i j a b hi hj hij g ha hb => by
  have get : ∀ (i : Nat) (a : Value), (L ++ [v])[i]? = some a → L[i]? = some a ∨ (i = L.length ∧ a = v) := fun i a hi => by
    by_cases hlt : i < L.length
    · rw [List.getElem?_append_left hlt] at hi
      exact .inl hi
    · rw [List.getElem?_append_right (by omega)] at hi
      have h0 : i - L.length = 0 := by
        have := (List.getElem?_eq_some_iff.1 hi).1
        simp at this
        omega
      rw [h0] at hi
      refine .inr ⟨by omega, ?_⟩
      simpa using hi.symm
  rcases get i a hi with h1 | ⟨h1, rfl⟩
  · rcases get j b hj with h2 | ⟨h2, rfl⟩
    · exact h i j a b h1 h2 hij g ha hb
    · exact hv a (List.mem_of_getElem? h1) g ha hb
  · rcases get j b hj with h2 | ⟨h2, rfl⟩
    · exact hv b (List.mem_of_getElem? h2) g hb ha
    · omega
theorem Apt.nil : Apt [] := fun i j u v hi => by simp at hi
theorem Fam.nil : Fam B w e s n [] X := fun j v hj => by simp at hj
theorem Fam.weak {B' : Nat} (h : Fam B w e s n L X) (hB : B' ≤ B) : Fam B' w e s n L X := fun j v hj => by
  have h1 := h j v hj
  refine ⟨h1.1, ?_⟩
  rcases h1.2 with h2 | ⟨g, cap, cur, e', hb, rest⟩
  · exact .inl h2
  · exact .inr ⟨g, cap, cur, e', Nat.le_trans hB hb, rest⟩
end
theorem row_weak {B B' : Nat} {w : World} {t : TypeId} {s n : Nat} {v : Value} {xs : List Value} (h : w.ownsRow B t s v n xs) (hB : B' ≤ B) : w.ownsRow B' t s v n xs := by
  refine ⟨h.1, ?_⟩
  rcases h.2 with h1 | ⟨g, cap, cur, e, hb, rest⟩
  · exact .inl h1
  · exact .inr ⟨g, cap, cur, e, Nat.le_trans hB hb, rest⟩
/-- lists and their longer ones: the lists hold the j-th mark alone, so do the longer ones, which lie with their own list or in new blocks -/
structure Lng (B : Nat) (H0 : Nat) (w : World) (e : TypeId) (cs : Nat → List Value) (n m : Nat) (L G : List Value) : Prop where
  low : H0 ≤ w.heap.size
  base : B ≤ H0
  old : ∀ v ∈ L, ∀ g, v.ownBlock = some g → g < H0
  apt : Apt L
  l : ∀ (j : Nat) (v : Value), L[j]? = some v → Mk e (cs j) B w v n
  g : ∀ (j : Nat) (v : Value), G[j]? = some v → Mk e (cs j) B w v (n + m)
  at_ : ∀ (j : Nat) (u v : Value), L[j]? = some u → G[j]? = some v → ∀ q, v.ownBlock = some q → u.ownBlock = some q ∨ H0 ≤ q
/-- one of them under way -/
structure Und (B : Nat) (H0 H1 : Nat) (w : World) (e : TypeId) (cs : Nat → List Value) (n m : Nat) (L G : List Value) (i : Nat) (v c : Value) (k : Nat) : Prop where
  lng : Lng B H0 w e cs n m L G
  h1 : H0 ≤ H1 ∧ H1 ≤ w.heap.size
  few : G.length = i
  old : ∀ u ∈ G, ∀ g, u.ownBlock = some g → g < H1
  iv : L[i]? = some v
  cur : Mk e (cs i) B w c (n + k)
  at_ : ∀ q, c.ownBlock = some q → v.ownBlock = some q ∨ H1 ≤ q
section
variable {B H0 H1 : Nat} {w w' : World} {e : TypeId} {cs : Nat → List Value} {n m : Nat} {L G : List Value}
theorem Lng.kept (h : Lng B H0 w e cs n m L G) (hb : Below w.heap.size w w') : Lng B H0 w' e cs n m L G :=
  ⟨Nat.le_trans h.low hb.size, h.base, h.old, h.apt, fun j v hj => row_kept (h.l j v hj) hb, fun j v hj => row_kept (h.g j v hj) hb, h.at_⟩
theorem Und.kept {i k : Nat} {v c : Value} (h : Und B H0 H1 w e cs n m L G i v c k) (hb : Below w.heap.size w w') : Und B H0 H1 w' e cs n m L G i v c k :=
  ⟨h.lng.kept hb, ⟨h.h1.1, Nat.le_trans h.h1.2 hb.size⟩, h.few, h.old, h.iv, row_kept h.cur hb, h.at_⟩
theorem Und.begin (h : Lng B H0 w e cs n m L G) (v : Value) (hv : L[G.length]? = some v) (hG : ∀ u ∈ G, ∀ g, u.ownBlock = some g → g < w.heap.size) : Und B H0 w.heap.size w e cs n m L G G.length v v 0 :=
  ⟨h, ⟨h.low, Nat.le_refl _⟩, rfl, hG, hv, h.l _ v hv, fun _ hq => .inl hq⟩
theorem Lng.glt (h : Lng B H0 w e cs n m L G) (u : Value) (hu : u ∈ G) (g : Nat) (hg : u.ownBlock = some g) : g < w.heap.size := by
  obtain ⟨j, hj⟩ := List.getElem?_of_mem hu
  exact (World.ownsRow.lt (h.g j u hj) g hg).2
/-- one more element -/
theorem Und.step {i k : Nat} {v c c' : Value} (h : Und B H0 H1 w e cs n m L G i v c k) (hL : G.length ≤ L.length) (k1 : w.grownBy w' c.ownBlock) (hc : Mk e (cs i) B w' c' (n + k + 1)) (hat : c'.ownBlock = c.ownBlock ∨ c'.ownBlock = some w.heap.size)
    (hkeep : ∀ (u : Value) (k' : Nat), Mk e (cs i) B w u k' → Mk e (cs i) B w' u k') : Und B H0 H1 w' e cs n m L G i v c' (k + 1) := by
  have hvo : ∀ g, v.ownBlock = some g → g < H0 := h.lng.old v (List.mem_of_getElem? h.iv)
  have hh := h.h1
  refine ⟨⟨Nat.le_trans h.lng.low k1.size, h.lng.base, h.lng.old, h.lng.apt, fun j u hj => ?_, fun j u hj => ?_, h.lng.at_⟩, ⟨hh.1, Nat.le_trans hh.2 k1.size⟩, h.few, h.old, h.iv, hc, fun q hq => ?_⟩
  · by_cases hij : j = i
    · subst hij
      exact hkeep u n (h.lng.l j u hj)
    · refine row_other (h.lng.l j u hj) k1 fun g hg e' => ?_
      rcases h.at_ g e' with h1 | h1
      · exact h.lng.apt j i u v hj h.iv hij g hg h1
      · have := h.lng.old u (List.mem_of_getElem? hj) g hg
        omega
  · refine row_other (h.lng.g j u hj) k1 fun g hg e' => ?_
    have hjl : j < G.length := (List.getElem?_eq_some_iff.1 hj).1
    have hjL : j < L.length := by omega
    have hgo := h.old u (List.mem_of_getElem? hj) g hg
    rcases h.at_ g e' with h1 | h1
    · rcases h.lng.at_ j L[j] u (List.getElem?_eq_getElem hjL) hj g hg with h2 | h2
      · exact h.lng.apt j i L[j] v (List.getElem?_eq_getElem hjL) h.iv (by have := h.few; omega) g h2 h1
      · have := hvo g h1
        omega
    · omega
  · rcases hat with h1 | h1
    · exact h.at_ q (by rw [← h1]; exact hq)
    · rw [h1] at hq
      have := Option.some.inj hq
      exact .inr (by omega)
/-- it is taken up -/
theorem Und.done {i : Nat} {v c : Value} (h : Und B H0 H1 w e cs n m L G i v c m) : Lng B H0 w e cs n m L (G ++ [c]) := by
  have get : ∀ (j : Nat) (a : Value), (G ++ [c])[j]? = some a → G[j]? = some a ∨ (j = i ∧ a = c) := fun j a hj => by
    have hf := h.few
    by_cases hlt : j < G.length
    · rw [List.getElem?_append_left hlt] at hj
      exact .inl hj
    · rw [List.getElem?_append_right (by omega)] at hj
      have h0 : j - G.length = 0 := by
        have := (List.getElem?_eq_some_iff.1 hj).1
        simp at this
        omega
      rw [h0] at hj
      refine .inr ⟨by omega, ?_⟩
      simpa using hj.symm
  refine ⟨h.lng.low, h.lng.base, h.lng.old, h.lng.apt, h.lng.l, fun j a hj => ?_, fun j u a hu hj q hq => ?_⟩
  · rcases get j a hj with h1 | ⟨rfl, rfl⟩
    · exact h.lng.g j a h1
    · exact h.cur
  · rcases get j a hj with h1 | ⟨rfl, rfl⟩
    · exact h.lng.at_ j u a hu h1 q hq
    · rw [h.iv] at hu
      obtain rfl := Option.some.inj hu
      rcases h.at_ q hq with h2 | h2
      · exact .inl h2
      · have := h.h1
        exact .inr (by omega)
/-- a row of another kind changes -/
theorem Lng.kind {e' : TypeId} {s' k B' : Nat} {u : Value} {ys : List Value} (h : Lng B H0 w e cs n m L G) (hu : w.ownsRow B' e' s' u k ys) (ht : e ≠ e') (kk : w.grownBy w' u.ownBlock) : Lng B H0 w' e cs n m L G :=
  ⟨Nat.le_trans h.low kk.size, h.base, h.old, h.apt, fun j v hj => row_other (h.l j v hj) kk (kinds_apart (h.l j v hj) hu ht), fun j v hj => row_other (h.g j v hj) kk (kinds_apart (h.g j v hj) hu ht), h.at_⟩
end
end Mg
end Go.Proofs.Ytceokpklcfmadab

/-
  Package index: Get and Keys hand out memory of their own.
-/
namespace Go.Proofs.Ytceokpklcfmadab
open Go Go.RowKit Go.ChangeShapes Go.Maps Go.Sort Go.Shelf
open Wb

set_option maxRecDepth 100000 in
set_option maxHeartbeats 1000000 in
theorem ixget_own (g b base n : Nat) (kvs : Ix.Gm) (k : Int) (w : World) (h : MI w g b base n kvs) (hk : (Lit.int .i64 k).wf = true) (hn : n < 1000000000) :
    Calls Try.prog 9 #[.pointer (some ⟨g, 0, none⟩), .int .i64 k] w fun e w' => ∃ a c, e = .returned (.slice a (Ix.get kvs k).length c) ∧ w'.ownsRow w.heap.size 3 1 (.slice a (Ix.get kvs k).length c) (Ix.get kvs k).length (ivs (Ix.get kvs k)) ∧ Below w.heap.size w w' := by
  obtain ⟨i0, hi, hz0, hz1, hz2⟩ := info_parts infoI
  have hsz : (Try.prog.info? 3).map (·.size) = some 1 := by rw [hi]; simp [hz1]
  have hc0 : w.cell? ⟨g, 0, none⟩ = some (.map (some b)) := h.box.cell 0 _ rfl
  obtain ⟨v, hrun0, hoi, hle, -, -⟩ := h.at k hk hn
  have HM : Hid (MI w g b base n kvs ∧ (Lit.int .i64 k).wf = true ∧ n < 1000000000) := ⟨h, hk, hn⟩
  obtain ⟨a0, c0, rfl⟩ : ∃ a0, ∃ c0 : Nat, v = .slice a0 (Ix.get kvs k).length c0 := by
    obtain ⟨a0, c0, e, -⟩ := Ri.of hoi.1
    exact ⟨a0, c0, e⟩
  clear h hoi hk
  obtain ⟨zs, hzs⟩ : ∃ zs, zs = Ix.get kvs k := ⟨_, rfl⟩
  rw [← hzs] at hrun0 hle ⊢
  have HZ : Hid (zs = Ix.get kvs k) := hzs
  clear hzs
  go_enter Try.func9, Try.ntmps9
  go_wp2_with (at_make; refine wpList_make_full _ rfl _ _ 27 rfl w.heap.size 3 i0 (.int .i64 0) 1 Try.underlying27 hi hz0 hz1 _ _ _ _ zs.length rfl rfl rfl rfl (by rw [hz2]; omega) (by unfold maxLen; omega) (Nat.le_refl _) ?_)
  intro w1 hown hgr
  have hb1 : Below w.heap.size w w1 := (Below.refl _ w).grown hgr (Nat.le_refl _) (fun k hk => by cases hk)
  have h1 := HM.out.1.kept hb1
  have hc1 : w1.cell? ⟨g, 0, none⟩ = some (.map (some b)) := h1.box.cell 0 _ rfl
  obtain ⟨v1, hrun1, hoi1, -, -, -⟩ := h1.at k HM.out.2.1 HM.out.2.2
  rw [← HZ.out] at hoi1
  obtain ⟨cur, hcur, hcsz⟩ : ∃ cur : Array Value, w1.heap[w.heap.size]? = some (.cells cur 3 (0, 0)) ∧ cur.size = zs.length := by
    rcases hown.2 with ⟨h1, _⟩ | ⟨g, c2, cur, hv, _, hg, _, _, hcs, htk⟩
    · cases h1
    · simp only [Value.slice.injEq, Option.some.injEq, Addr.mk.injEq, and_true, true_and] at hv
      obtain ⟨rfl, rfl⟩ := hv
      exact ⟨cur, hg, by omega⟩
  obtain ⟨ao, cap, rfl, hmx, hc⟩ := Ri.of hoi1.1
  have fin : ∃ n w2, (Builtin.copy_ #[27, 27] 3 #[.slice (some ⟨w.heap.size, 0, none⟩) zs.length zs.length, .slice ao zs.length cap]).run Try.prog w1 = .ok (goInt n) w2 ∧ w2.ownsRow w.heap.size 3 1 (.slice (some ⟨w.heap.size, 0, none⟩) zs.length zs.length) zs.length (ivs zs) ∧ Below w.heap.size w w2 := by
    by_cases he : zs = []
    · subst he
      exact ⟨0, w1, run_copy_none (P := Try.prog) w1 27 27 3 3 _ _ _ _ _ _ Try.underlying27 hsz rfl, ⟨rfl, .inr ⟨_, 0, _, rfl, Nat.le_refl _, hcur, Nat.le_refl _, Nat.zero_le _, by simpa using hcsz, by simp⟩⟩, hb1⟩
    · obtain ⟨bb, off, rfl, hcell⟩ := hc he
      have hrun := run_copy_row (P := Try.prog) w1 27 27 3 3 w.heap.size 0 zs.length zs.length ⟨bb, off, none⟩ zs.length cap cur 3 (zs.map (Value.int .i64)) Try.underlying27 hsz hcur (by rw [List.length_map]; exact (Nat.min_self _).symm) (by
        intro j u hj
        have hjl : j < zs.length := by have := (List.getElem?_eq_some_iff.1 hj).1; rwa [List.length_map] at this
        rw [Addr.add_lit, hcell j hjl]
        simp [hjl] at hj
        rw [← hj]) (by rw [List.length_map]; omega) (fun v hv => by
        obtain ⟨x, -, rfl⟩ := List.mem_map.1 hv
        rfl)
      refine ⟨_, _, hrun, ⟨by rw [List.length_map, Nat.mul_one], .inr ⟨_, zs.length, _, rfl, Nat.le_refl _, setRow_heap w1 _ _ _ _ _ hcur, Nat.le_refl _, hmx, ?_, ?_⟩⟩, below_setRow hb1 (Nat.le_refl _) _⟩
      · simp [hcsz]
      · simp
  obtain ⟨n2, w2, hrun, R1, R2⟩ := fin
  have HR : Hid (w2.ownsRow w.heap.size 3 1 (.slice (some ⟨w.heap.size, 0, none⟩) zs.length zs.length) zs.length (ivs zs) ∧ Below w.heap.size w w2) := ⟨R1, R2⟩
  clear hcur hown hgr hc hcsz R1 R2 hoi1 h1
  go_wp2
  go_ret
  exact ⟨_, _, rfl, HR.out.1, HR.out.2⟩
set_option maxRecDepth 100000 in
set_option maxHeartbeats 2000000 in
theorem ixkeys_own (g b base n : Nat) (kvs : Ix.Gm) (w : World) (h : MI w g b base n kvs) (hk : kvs.length ≤ 10000000) :
    Calls Try.prog 8 #[.pointer (some ⟨g, 0, none⟩)] w fun e w' => ∃ a c, e = .returned (.slice a kvs.length c) ∧ w'.ownsRow w.heap.size 3 1 (.slice a kvs.length c) kvs.length (ivs (kvs.map (·.1))) ∧ Below w.heap.size w w' := by
  refine (callsIn_wide (n := 6)).1 ?_
  have hown : w.ownsMap Try.prog 3 (rowE w base b) b n (Ix.dm kvs) := h.ownsE
  have HR : Hid (Ix.rising kvs) := h.ris
  have x0 := h.box.cell 0 _ rfl
  have hsz := has_size kvs
  have hbl := hown.lt
  clear h
  have hseq : SeqGives Fence.wide 2 Try.prog 35 #[.pointer (some ⟨w.heap.size, 0, none⟩)] encZ (fun ss => ss.Perm (intKeys (Ix.dm kvs))) (Maps.size (Ix.dm kvs)) (w.alloc (.cells #[.map (some b)] 56)) :=
    AnyZI.keys_gives (ρ := laysKeys_ren) { laysKeys with } Fence.wide _ trivial rfl (by omega) w.heap.size b n (Ix.dm kvs) _ (by simp) (by simp) (by
      obtain ⟨es, clock, hb, Ft, hs, hD⟩ := hown
      exact ⟨es, clock, (Below.heap_alloc _ _ b hbl).trans hb, Ft, hs, hD⟩)
  have cK : ∀ mb W, CallsIn Fence.wide 5 Try.prog 23 #[.map mb] W fun e w' => e = .returned (.func (.func 35) #[] #[.pointer (some ⟨W.heap.size, 0, none⟩)]) ∧ w' = W.alloc (.cells #[.map mb] 56) := fun mb W => AnyZI.keys_in laysKeys Fence.wide 5 trivial rfl mb W
  have cS := AnyZI.sorted_in laysSorted Fence.wide 5 trivial trivial trivial trivial rfl (by omega) (ixsorts _) (enters_of Try.func34 (by kernel_rfl) rfl) 35 #[.pointer (some ⟨w.heap.size, 0, none⟩)] trivial (enters_of Try.func35 (by kernel_rfl) rfl) _ _ (by rw [hsz]; unfold maxLen; omega) (by rw [hsz]; omega) _ hseq
  change CallsIn _ _ Try.prog 22 _ _ _ at cS
  have hfK : Fence.wide.fn 23 := trivial
  have hfS : Fence.wide.fn 22 := trivial
  refine callsIn_of_wp Try.func8 rfl trivial ?_ rfl
  simp only [Try.ntmps8, List.size_toArray, List.length_cons, List.length_nil, Nat.reduceAdd, Nat.reduceSub, Array.replicate_succ, Array.replicate_zero, List.push_toArray, List.append_toArray, List.nil_append, List.cons_append]
  clear hseq hown
  gi_wp2_with (first
    | (gi_at_call 23; refine (cK _ _).mono ?_; rintro e w' ⟨rfl, rfl⟩)
    | (gi_at_call 22; refine cS.mono ?_; rintro e w' ⟨v, ss, rfl, hS, hrow, hnil, hb⟩))
  go_ret
  have e1 := Ix.keys_sorted kvs HR.out ss hS
  have e2 : ss.length = (kvs.map (·.1)).length := by
    rw [hS.length_eq, Ix.keys_dm]
  rw [e1, e2] at hrow
  rw [List.length_map] at hrow
  obtain ⟨a9, c9, e9, -⟩ := Mg.row_shape hrow
  subst e9
  exact ⟨_, _, rfl, Mg.row_weak hrow (by simp), ((Below.refl _ w).alloc (Nat.le_refl _) _).trans (hb.mono (by simp))⟩
end Go.Proofs.Ytceokpklcfmadab

/-
  Lists of one mark each, lengthened in two ways; lists that are written over: for IndexKept's apart.
-/
namespace Go.Proofs.Ytceokpklcfmadab
open Go Go.RowKit
open Wb
namespace Ap

/-- v is lengthened: c is v and d marks more -/
structure Gr (e : TypeId) (cs : List Value) (B : Nat) (w w' : World) (v c : Value) (n d : Nat) : Prop where
  cur : Mg.Mk e cs B w' c (n + d)
  gr : w.grownBy w' v.ownBlock
  new : NewB w v c
  keep : ∀ u k', Mg.Mk e cs B w u k' → Mg.Mk e cs B w' u k'
section
variable {e : TypeId} {cs : List Value} {B : Nat} {w w1 w2 w3 : World} {v c c' : Value} {n d q : Nat}
theorem Gr.start (h : Mg.Mk e cs B w v n) : Gr e cs B w w v v n 0 := ⟨h, World.grownBy.refl _ _, .inl rfl, fun _ _ hu => hu⟩
theorem Gr.kept (h : Gr e cs B w w1 v c n d) (b : Below w1.heap.size w1 w2) : Gr e cs B w w2 v c n d :=
  ⟨Mg.row_kept h.cur b, grown_on h.gr ⟨b.os, b.tape, b.output, b.size, fun k hk _ => b.block k hk⟩ (.inl rfl), h.new, fun u k' hu => Mg.row_kept (h.keep u k' hu) b⟩
theorem Gr.step (h : Gr e cs B w w1 v c n d) (hc : Mg.Mk e cs B w2 c' (n + d + q)) (k : w1.grownBy w2 c.ownBlock) (hat : c'.ownBlock = c.ownBlock ∨ c'.ownBlock = some w1.heap.size) (hk : ∀ u k', Mg.Mk e cs B w1 u k' → Mg.Mk e cs B w2 u k') : Gr e cs B w w2 v c' n (d + q) := by
  refine ⟨by rw [← Nat.add_assoc]; exact hc, grown_on h.gr k ?_, ?_, fun u k' hu => hk u k' (h.keep u k' hu)⟩
  · rcases h.new with e1 | e1
    · exact .inl e1
    · exact .inr e1
  · rcases hat with e1 | e1
    · rcases h.new with e2 | e2
      · exact .inl (e1.trans e2)
      · exact .inr fun g hg => e2 g (e1.symm.trans hg)
    · refine .inr fun g hg => ?_
      have := Option.some.inj (e1.symm.trans hg)
      have := h.gr.size
      omega
end
def dl (j : Nat) : Nat := if j % 2 = 0 then 1 else 80
/-- lists of one mark each, and longer ones of them, two of each -/
structure Le (B H0 : Nat) (e : TypeId) (cs : Nat → List Value) (n : Nat → Nat) (L G : List Value) (w : World) : Prop where
  low : B ≤ H0
  sz : H0 ≤ w.heap.size
  old : ∀ v ∈ L, ∀ g, v.ownBlock = some g → g < H0
  apt : Mg.Apt L
  l : ∀ (j : Nat) (v : Value), L[j]? = some v → Mg.Mk e (cs j) B w v (n j)
  g : ∀ (j : Nat) (v : Value), G[j]? = some v → Mg.Mk e (cs (j / 2)) B w v (n (j / 2) + dl j)
  at_ : ∀ (j : Nat) (u v : Value), L[j / 2]? = some u → G[j]? = some v → ∀ q, v.ownBlock = some q → u.ownBlock = some q ∨ H0 ≤ q
  few : G.length ≤ 2 * L.length
section
variable {B H0 : Nat} {e : TypeId} {cs : Nat → List Value} {n : Nat → Nat} {L G : List Value} {w w' : World}
theorem Le.blk (h : Le B H0 e cs n L G w) (hs : w.heap.size ≤ w'.heap.size) (hb : ∀ k, k < w.heap.size → (∃ cs', w.heap[k]? = some (.cells cs' e)) → w'.heap[k]? = w.heap[k]?) : Le B H0 e cs n L G w' :=
  ⟨h.low, Nat.le_trans h.sz hs, h.old, h.apt, fun j v hj => Mg.row_block (h.l j v hj) fun g hg => hb g (World.ownsRow.lt (h.l j v hj) g hg).2 (Mg.row_type (h.l j v hj) g hg), fun j v hj => Mg.row_block (h.g j v hj) fun g hg => hb g (World.ownsRow.lt (h.g j v hj) g hg).2 (Mg.row_type (h.g j v hj) g hg), h.at_, h.few⟩
theorem Le.kept (h : Le B H0 e cs n L G w) (b : Below w.heap.size w w') : Le B H0 e cs n L G w' := h.blk b.size fun k hk _ => b.block k hk
/-- a row of another kind changes -/
theorem Le.kind {e' : TypeId} (h : Le B H0 e cs n L G w) {row : Option Nat} (hr : ∀ k, row = some k → ∃ cs', w.heap[k]? = some (.cells cs' e')) (ht : e ≠ e') (k : w.grownBy w' row) : Le B H0 e cs n L G w' := h.blk k.size fun q hq ⟨cs1, h1⟩ => k.block q hq fun e2 => by
  obtain ⟨cs2, h2⟩ := hr q e2.symm
  rw [h1] at h2
  simp at h2
  exact ht h2.2
/-- one of them is lengthened -/
theorem Le.step (h : Le B H0 e cs n L G w) {i : Nat} {v c : Value} {d : Nat} (hi : L[i]? = some v) (g : Gr e (cs i) B w w' v c (n i) d) : Le B H0 e cs n L G w' := by
  refine ⟨h.low, Nat.le_trans h.sz g.gr.size, h.old, h.apt, fun j u hj => ?_, fun j u hj => ?_, h.at_, h.few⟩
  · by_cases hij : j = i
    · subst hij
      exact g.keep _ _ (h.l j u hj)
    · exact Mg.row_other (h.l j u hj) g.gr fun q hq => h.apt j i u v hj hi hij q hq
  · have hjl : j < G.length := (List.getElem?_eq_some_iff.1 hj).1
    have hf := h.few
    have hjL : j / 2 < L.length := by omega
    by_cases hij : j / 2 = i
    · have h1 := h.g j u hj
      rw [hij] at h1 ⊢
      exact g.keep _ _ h1
    · refine Mg.row_other (h.g j u hj) g.gr fun q hq e1 => ?_
      rcases h.at_ j L[j / 2] u (List.getElem?_eq_getElem hjL) hj q hq with h2 | h2
      · exact h.apt (j / 2) i L[j / 2] v (List.getElem?_eq_getElem hjL) hi hij q h2 e1
      · have := h.old v (List.mem_of_getElem? hi) q e1
        omega
/-- two more are there -/
theorem Le.more (h : Le B H0 e cs n L G w) {i : Nat} {v c1 c2 : Value} (hi : L[i]? = some v) (hG : G.length = 2 * i) (h1 : Mg.Mk e (cs i) B w c1 (n i + 1)) (h2 : Mg.Mk e (cs i) B w c2 (n i + 80)) (a1 : c1.ownBlock = v.ownBlock ∨ ∀ g, c1.ownBlock = some g → H0 ≤ g) (a2 : c2.ownBlock = v.ownBlock ∨ ∀ g, c2.ownBlock = some g → H0 ≤ g) : Le B H0 e cs n L (G ++ [c1, c2]) w := by
  have hiL : i < L.length := (List.getElem?_eq_some_iff.1 hi).1
  have get : ∀ (j : Nat) (a : Value), (G ++ [c1, c2])[j]? = some a → G[j]? = some a ∨ (j = 2 * i ∧ a = c1) ∨ (j = 2 * i + 1 ∧ a = c2) := fun j a hj => by
    by_cases hlt : j < G.length
    · rw [List.getElem?_append_left hlt] at hj
      exact .inl hj
    · rw [List.getElem?_append_right (by omega)] at hj
      have hl := (List.getElem?_eq_some_iff.1 hj).1
      simp at hl
      by_cases h0 : j - G.length = 0
      · rw [h0] at hj
        exact .inr (.inl ⟨by omega, by simpa using hj.symm⟩)
      · have h9 : j - G.length = 1 := by omega
        rw [h9] at hj
        exact .inr (.inr ⟨by omega, by simpa using hj.symm⟩)
  refine ⟨h.low, h.sz, h.old, h.apt, h.l, fun j a hj => ?_, fun j u a hu hj q hq => ?_, by simp; omega⟩
  · rcases get j a hj with h3 | ⟨rfl, rfl⟩ | ⟨rfl, rfl⟩
    · exact h.g j a h3
    · have e1 : 2 * i / 2 = i := by omega
      have e2 : dl (2 * i) = 1 := by unfold dl; rw [if_pos (by omega)]
      rw [e1, e2]
      exact h1
    · have e1 : (2 * i + 1) / 2 = i := by omega
      have e2 : dl (2 * i + 1) = 80 := by unfold dl; rw [if_neg (by omega)]
      rw [e1, e2]
      exact h2
  · rcases get j a hj with h3 | ⟨rfl, rfl⟩ | ⟨rfl, rfl⟩
    · exact h.at_ j u a hu h3 q hq
    · have e1 : 2 * i / 2 = i := by omega
      rw [e1, hi] at hu
      obtain rfl := Option.some.inj hu
      rcases a1 with a1 | a1
      · exact .inl (a1.symm.trans hq)
      · exact .inr (a1 q hq)
    · have e1 : (2 * i + 1) / 2 = i := by omega
      rw [e1, hi] at hu
      obtain rfl := Option.some.inj hu
      rcases a2 with a2 | a2
      · exact .inl (a2.symm.trans hq)
      · exact .inr (a2 q hq)
theorem Le.begin {X : Nat → List Value} (h : Mg.Fam B w e 1 n L X) (ha : Mg.Apt L) (hB : B ≤ w.heap.size) (hs : ∀ j, (cs j).length = 1) (hX : ∀ j, j < L.length → X j = Mg.pat (cs j) (n j)) : Le B w.heap.size e cs n L [] w :=
  ⟨hB, Nat.le_refl _, fun v hv g hg => (h.lt v hv g hg).2, ha, fun j v hj => by
    have h1 := h j v hj
    rw [hX j (List.getElem?_eq_some_iff.1 hj).1] at h1
    unfold Mg.Mk
    rw [hs j]
    exact h1, fun j v hj => by simp at hj, fun j u v _ hj => by simp at hj, by simp⟩
end
/-- the blocks of these lists -/
def Of (L T : List Value) (k : Nat) : Prop := (∃ v ∈ L, v.ownBlock = some k) ∨ ∃ v ∈ T, v.ownBlock = some k
/-- while the lists are written over -/
structure Fi (B : Nat) (w : World) (vL vT : Value) (L T : List Value) (n nT : Nat → Nat) (X XT : Nat → List Value) (W : World) : Prop where
  rL : W.ownsRow B 27 1 vL L.length L
  rT : W.ownsRow B 34 1 vT T.length T
  fL : Mg.Fam B W 3 1 n L X
  fT : Mg.Fam B W 5 1 nT T XT
  fr : FrK w W (Of L T)
section
variable {B : Nat} {w : World} {vL vT : Value} {L T : List Value} {n nT : Nat → Nat} {X XT : Nat → List Value} {W W' : World}
theorem Fi.kept (h : Fi B w vL vT L T n nT X XT W) (b : Below W.heap.size W W') : Fi B w vL vT L T n nT X XT W' :=
  ⟨Mg.row_kept h.rL b, Mg.row_kept h.rT b, h.fL.kept b, h.fT.kept b, h.fr.trans (FrK.of (F := Of L T) (b := none) ⟨b.os, b.tape, b.output, b.size, fun k hk _ => b.block k hk⟩ fun k _ e => by cases e) fun k _ e => e⟩
theorem Fi.putL (h : Fi B w vL vT L T n nT X XT W) (ha : Mg.Apt L) (i : Nat) (v : Value) (hi : L[i]? = some v) (k : W.grownBy W' v.ownBlock) (ys : List Value) (hy : W'.ownsRow B 3 1 v (n i) ys) : Fi B w vL vT L T n nT (fun j => if j = i then ys else X j) XT W' :=
  ⟨Mg.row_other h.rL k fun g hg => Mg.kinds_apart h.rL (h.fL i v hi) (by decide) g hg, Mg.row_other h.rT k fun g hg => Mg.kinds_apart h.rT (h.fL i v hi) (by decide) g hg, h.fL.put ha i v hi k ys hy, h.fT.kind (h.fL i v hi) (by decide) k, h.fr.trans (FrK.of (F := Of L T) k fun q _ e => .inl ⟨v, List.mem_of_getElem? hi, e⟩) fun q _ e => e⟩
theorem Fi.putT (h : Fi B w vL vT L T n nT X XT W) (ha : Mg.Apt T) (i : Nat) (v : Value) (hi : T[i]? = some v) (k : W.grownBy W' v.ownBlock) (ys : List Value) (hy : W'.ownsRow B 5 1 v (nT i) ys) : Fi B w vL vT L T n nT X (fun j => if j = i then ys else XT j) W' :=
  ⟨Mg.row_other h.rL k fun g hg => Mg.kinds_apart h.rL (h.fT i v hi) (by decide) g hg, Mg.row_other h.rT k fun g hg => Mg.kinds_apart h.rT (h.fT i v hi) (by decide) g hg, h.fL.kind (h.fT i v hi) (by decide) k, h.fT.put ha i v hi k ys hy, h.fr.trans (FrK.of (F := Of L T) k fun q _ e => .inr ⟨v, List.mem_of_getElem? hi, e⟩) fun q _ e => e⟩
end
/-- while they are lengthened -/
structure Ls (B H0 : Nat) (w : World) (vL vT : Value) (L T : List Value) (n nT : Nat → Nat) (cI cB : Nat → List Value) (vG vH : Value) (G H : List Value) (W : World) : Prop where
  rL : W.ownsRow B 27 1 vL L.length L
  rT : W.ownsRow B 34 1 vT T.length T
  oL : ∀ k, vL.ownBlock = some k → k < H0
  oT : ∀ k, vT.ownBlock = some k → k < H0
  iI : Le B H0 3 cI n L G W
  iB : Le B H0 5 cB nT T H W
  rG : W.ownsRow H0 27 1 vG G.length G
  rH : W.ownsRow H0 34 1 vH H.length H
  fr : FrK w W (Of L T)
  w0 : w.heap.size ≤ H0
section
variable {B H0 : Nat} {w : World} {vL vT : Value} {L T : List Value} {n nT : Nat → Nat} {cI cB : Nat → List Value} {vG vH vG' : Value} {G H : List Value} {W W' : World}
theorem Ls.kept (h : Ls B H0 w vL vT L T n nT cI cB vG vH G H W) (b : Below W.heap.size W W') : Ls B H0 w vL vT L T n nT cI cB vG vH G H W' :=
  ⟨Mg.row_kept h.rL b, Mg.row_kept h.rT b, h.oL, h.oT, h.iI.kept b, h.iB.kept b, Mg.row_kept h.rG b, Mg.row_kept h.rH b, h.fr.trans (FrK.of (F := Of L T) (b := none) ⟨b.os, b.tape, b.output, b.size, fun k hk _ => b.block k hk⟩ fun k _ e => by cases e) fun k _ e => e, h.w0⟩
theorem Ls.lenI (h : Ls B H0 w vL vT L T n nT cI cB vG vH G H W) {i : Nat} {v c : Value} {d : Nat} (hi : L[i]? = some v) (g : Gr 3 (cI i) B W W' v c (n i) d) : Ls B H0 w vL vT L T n nT cI cB vG vH G H W' := by
  have hv := h.iI.l i v hi
  have hr : ∀ k, v.ownBlock = some k → ∃ cs', W.heap[k]? = some (.cells cs' 3) := fun k e => Mg.row_type hv k e
  exact ⟨Mg.row_other h.rL g.gr fun q hq => Mg.kinds_apart h.rL hv (by decide) q hq, Mg.row_other h.rT g.gr fun q hq => Mg.kinds_apart h.rT hv (by decide) q hq, h.oL, h.oT, h.iI.step hi g, h.iB.kind hr (by decide) g.gr, Mg.row_other h.rG g.gr fun q hq => Mg.kinds_apart h.rG hv (by decide) q hq, Mg.row_other h.rH g.gr fun q hq => Mg.kinds_apart h.rH hv (by decide) q hq, h.fr.trans (FrK.of (F := Of L T) g.gr fun q _ e => .inl ⟨v, List.mem_of_getElem? hi, e⟩) fun q _ e => e, h.w0⟩
theorem Ls.lenB (h : Ls B H0 w vL vT L T n nT cI cB vG vH G H W) {i : Nat} {v c : Value} {d : Nat} (hi : T[i]? = some v) (g : Gr 5 (cB i) B W W' v c (nT i) d) : Ls B H0 w vL vT L T n nT cI cB vG vH G H W' := by
  have hv := h.iB.l i v hi
  have hr : ∀ k, v.ownBlock = some k → ∃ cs', W.heap[k]? = some (.cells cs' 5) := fun k e => Mg.row_type hv k e
  exact ⟨Mg.row_other h.rL g.gr fun q hq => Mg.kinds_apart h.rL hv (by decide) q hq, Mg.row_other h.rT g.gr fun q hq => Mg.kinds_apart h.rT hv (by decide) q hq, h.oL, h.oT, h.iI.kind hr (by decide) g.gr, h.iB.step hi g, Mg.row_other h.rG g.gr fun q hq => Mg.kinds_apart h.rG hv (by decide) q hq, Mg.row_other h.rH g.gr fun q hq => Mg.kinds_apart h.rH hv (by decide) q hq, h.fr.trans (FrK.of (F := Of L T) g.gr fun q _ e => .inr ⟨v, List.mem_of_getElem? hi, e⟩) fun q _ e => e, h.w0⟩
theorem Ls.moreI (h : Ls B H0 w vL vT L T n nT cI cB vG vH G H W) {i : Nat} {v c1 c2 : Value} (hi : L[i]? = some v) (hG : G.length = 2 * i) (h1 : Mg.Mk 3 (cI i) B W c1 (n i + 1)) (h2 : Mg.Mk 3 (cI i) B W c2 (n i + 80)) (a1 : c1.ownBlock = v.ownBlock ∨ ∀ g, c1.ownBlock = some g → H0 ≤ g) (a2 : c2.ownBlock = v.ownBlock ∨ ∀ g, c2.ownBlock = some g → H0 ≤ g) (k : W.grownBy W' vG.ownBlock) (hr : W'.ownsRow H0 27 1 vG' (G.length + 2) (G ++ [c1, c2])) : Ls B H0 w vL vT L T n nT cI cB vG' vH (G ++ [c1, c2]) H W' := by
  have hg : ∀ q, vG.ownBlock = some q → H0 ≤ q := fun q e => (World.ownsRow.lt h.rG q e).1
  have ht : ∀ q, vG.ownBlock = some q → ∃ cs', W.heap[q]? = some (.cells cs' 27) := fun q e => Mg.row_type h.rG q e
  refine ⟨Mg.row_other h.rL k fun q hq e => ?_, Mg.row_other h.rT k fun q hq => Mg.kinds_apart h.rT h.rG (by decide) q hq, h.oL, h.oT, (h.iI.more hi hG h1 h2 a1 a2).kind ht (by decide) k, h.iB.kind ht (by decide) k, by simpa using hr, Mg.row_other h.rH k fun q hq => Mg.kinds_apart h.rH h.rG (by decide) q hq, h.fr.trans (FrK.of (F := fun q => H0 ≤ q) k fun q _ e => hg q e) fun q hq e => ?_, h.w0⟩
  · have := h.oL q hq
    have := hg q e
    omega
  · have := h.w0
    omega
theorem Ls.moreB (h : Ls B H0 w vL vT L T n nT cI cB vG vH G H W) {i : Nat} {v c1 c2 : Value} (hi : T[i]? = some v) (hG : H.length = 2 * i) (h1 : Mg.Mk 5 (cB i) B W c1 (nT i + 1)) (h2 : Mg.Mk 5 (cB i) B W c2 (nT i + 80)) (a1 : c1.ownBlock = v.ownBlock ∨ ∀ g, c1.ownBlock = some g → H0 ≤ g) (a2 : c2.ownBlock = v.ownBlock ∨ ∀ g, c2.ownBlock = some g → H0 ≤ g) (k : W.grownBy W' vH.ownBlock) (hr : W'.ownsRow H0 34 1 vG' (H.length + 2) (H ++ [c1, c2])) : Ls B H0 w vL vT L T n nT cI cB vG vG' G (H ++ [c1, c2]) W' := by
  have hg : ∀ q, vH.ownBlock = some q → H0 ≤ q := fun q e => (World.ownsRow.lt h.rH q e).1
  have ht : ∀ q, vH.ownBlock = some q → ∃ cs', W.heap[q]? = some (.cells cs' 34) := fun q e => Mg.row_type h.rH q e
  refine ⟨Mg.row_other h.rL k fun q hq => Mg.kinds_apart h.rL h.rH (by decide) q hq, Mg.row_other h.rT k fun q hq e => ?_, h.oL, h.oT, h.iI.kind ht (by decide) k, (h.iB.more hi hG h1 h2 a1 a2).kind ht (by decide) k, Mg.row_other h.rG k fun q hq => Mg.kinds_apart h.rG h.rH (by decide) q hq, by simpa using hr, h.fr.trans (FrK.of (F := fun q => H0 ≤ q) k fun q _ e => hg q e) fun q hq e => ?_, h.w0⟩
  · have := h.oT q hq
    have := hg q e
    omega
  · have := h.w0
    omega
end
end Ap
end Go.Proofs.Ytceokpklcfmadab

/-
  IndexKept: grown, grownBytes.
-/
namespace Go.Proofs.Ytceokpklcfmadab
open Go Go.RowKit
open Wb

set_option maxRecDepth 100000 in
set_option maxHeartbeats 2000000 in
theorem ixgrown_any (B : Nat) (v : Value) (x : Int) (n : Nat) (w : World) (h : Mg.Mk 3 [.int .i64 x] B w v n) (hn : n ≤ 1000000) (hB : B ≤ w.heap.size) :
    Calls Try.prog 27 #[v, .int .i64 x] w fun e w' => ∃ a, ∃ m c : Nat, e = .returned (.slice a m c) ∧ Ap.Gr 3 [.int .i64 x] B w w' v (.slice a m c) n 80 := by
  have hin := infoI
  obtain ⟨a0, c0, rfl, -, -⟩ := Mg.row_shape h
  have HS : Hid (Ap.Gr 3 [.int .i64 x] B w w (.slice a0 n c0) (.slice a0 n c0) n 0) := Ap.Gr.start h
  have HB : Hid (B ≤ w.heap.size) := hB
  clear h hB
  go_enter Try.func27, Try.ntmps27
  go_wp2_with fail
  go_loopw [0, 5] (fun s0 i wr => ∃ k : Nat, k ≤ 80 ∧ i = .int .i64 (k : Int) ∧ (∃ a, ∃ m c : Nat, s0 = .slice a m c) ∧ Ap.Gr 3 [.int .i64 x] B w wr (.slice a0 n c0) s0 n k) (fun _ i _ => 80 - (intOf i).toNat)
  case atStart => exact ⟨0, by omega, rfl, ⟨_, _, _, rfl⟩, HS.out⟩
  case round =>
    obtain ⟨k, hk, rfl, ⟨a, m, c, rfl⟩, hg⟩ := hrel
    have HG : Hid (Ap.Gr 3 [.int .i64 x] B w wr (.slice a0 n c0) (.slice a m c) n k) := hg
    clear hg HS
    by_cases hlt : k < 80
    · have hd : ((k : Int) < 80) = True := by simp; omega
      have HX : Hid (∀ W, W = wr.alloc (.cells #[.int .i64 x] 3) → Ap.Gr 3 [.int .i64 x] B w W (.slice a0 n c0) (.slice a m c) n k ∧ (∀ (j : Nat) (u : Value), (Mg.pat [.int .i64 x] 1)[j]? = some u → W.cell? ⟨wr.heap.size, j, none⟩ = some u) ∧ B ≤ W.heap.size) := fun W e => by
        subst e
        have hl := lb_new wr [.int .i64 x] 3
        refine ⟨HG.out.kept (up0 _ _), fun j u hj => hl.cell j u (by simpa [Mg.pat] using hj), Nat.le_trans HB.out (Nat.le_trans HG.out.gr.size (up0 _ _).size)⟩
      go_wp2_with (at_builtin; refine Mg.wpList_append_mk _ rfl (.tmp 10) (.tmp 12) 3 27 rfl B [.int .i64 x] _ 8 (by simp) (by intro u hu; rw [List.mem_singleton.1 hu]; rfl) hin rfl Try.underlying27 (.slice a m c) (n + k) 1 rfl (HX.out _ rfl).1.cur wr.heap.size 1 rfl (HX.out _ rfl).2.1 (by omega) (by omega) (HX.out _ rfl).2.2 ?_)
      intro v' W2 h1 h2 h3 h4
      obtain ⟨a2, c2, e2, -⟩ := Mg.row_shape h1
      subst e2
      have H2 : Hid (Ap.Gr 3 [.int .i64 x] B w W2 (.slice a0 n c0) (.slice a2 (n + k + 1) c2) n (k + 1)) := (HX.out _ rfl).1.step h1 h2 (by rw [heap_one]; exact h3) h4
      clear h1 h2 h3 h4 HX HG
      go_wp2_with fail
      go_roundw
      case rel => exact ⟨k + 1, by omega, by go_num, ⟨_, _, _, rfl⟩, H2.out⟩
      case measure => simp [intOf]; omega
    · obtain rfl : k = 80 := by omega
      go_wp2_with fail
      go_ret
      exact ⟨_, _, _, rfl, HG.out⟩
set_option maxRecDepth 100000 in
set_option maxHeartbeats 2000000 in
theorem ixgrownb_any (B : Nat) (v : Value) (x : Int) (n : Nat) (w : World) (h : Mg.Mk 5 [.int .u8 x] B w v n) (hn : n ≤ 1000000) (hB : B ≤ w.heap.size) :
    Calls Try.prog 28 #[v, .int .u8 x] w fun e w' => ∃ a, ∃ m c : Nat, e = .returned (.slice a m c) ∧ Ap.Gr 5 [.int .u8 x] B w w' v (.slice a m c) n 80 := by
  have hin := info5
  obtain ⟨a0, c0, rfl, -, -⟩ := Mg.row_shape h
  have HS : Hid (Ap.Gr 5 [.int .u8 x] B w w (.slice a0 n c0) (.slice a0 n c0) n 0) := Ap.Gr.start h
  have HB : Hid (B ≤ w.heap.size) := hB
  clear h hB
  go_enter Try.func28, Try.ntmps28
  go_wp2_with fail
  go_loopw [0, 5] (fun s0 i wr => ∃ k : Nat, k ≤ 80 ∧ i = .int .i64 (k : Int) ∧ (∃ a, ∃ m c : Nat, s0 = .slice a m c) ∧ Ap.Gr 5 [.int .u8 x] B w wr (.slice a0 n c0) s0 n k) (fun _ i _ => 80 - (intOf i).toNat)
  case atStart => exact ⟨0, by omega, rfl, ⟨_, _, _, rfl⟩, HS.out⟩
  case round =>
    obtain ⟨k, hk, rfl, ⟨a, m, c, rfl⟩, hg⟩ := hrel
    have HG : Hid (Ap.Gr 5 [.int .u8 x] B w wr (.slice a0 n c0) (.slice a m c) n k) := hg
    clear hg HS
    by_cases hlt : k < 80
    · have hd : ((k : Int) < 80) = True := by simp; omega
      have HX : Hid (∀ W, W = wr.alloc (.cells #[.int .u8 x] 5) → Ap.Gr 5 [.int .u8 x] B w W (.slice a0 n c0) (.slice a m c) n k ∧ (∀ (j : Nat) (u : Value), (Mg.pat [.int .u8 x] 1)[j]? = some u → W.cell? ⟨wr.heap.size, j, none⟩ = some u) ∧ B ≤ W.heap.size) := fun W e => by
        subst e
        have hl := lb_new wr [.int .u8 x] 5
        refine ⟨HG.out.kept (up0 _ _), fun j u hj => hl.cell j u (by simpa [Mg.pat] using hj), Nat.le_trans HB.out (Nat.le_trans HG.out.gr.size (up0 _ _).size)⟩
      go_wp2_with (at_builtin; refine Mg.wpList_append_mk _ rfl (.tmp 10) (.tmp 12) 5 34 rfl B [.int .u8 x] _ 1 (by simp) (by intro u hu; rw [List.mem_singleton.1 hu]; rfl) hin rfl Try.underlying34 (.slice a m c) (n + k) 1 rfl (HX.out _ rfl).1.cur wr.heap.size 1 rfl (HX.out _ rfl).2.1 (by omega) (by omega) (HX.out _ rfl).2.2 ?_)
      intro v' W2 h1 h2 h3 h4
      obtain ⟨a2, c2, e2, -⟩ := Mg.row_shape h1
      subst e2
      have H2 : Hid (Ap.Gr 5 [.int .u8 x] B w W2 (.slice a0 n c0) (.slice a2 (n + k + 1) c2) n (k + 1)) := (HX.out _ rfl).1.step h1 h2 (by rw [heap_one]; exact h3) h4
      clear h1 h2 h3 h4 HX HG
      go_wp2_with fail
      go_roundw
      case rel => exact ⟨k + 1, by omega, by go_num, ⟨_, _, _, rfl⟩, H2.out⟩
      case measure => simp [intOf]; omega
    · obtain rfl : k = 80 := by omega
      go_wp2_with fail
      go_ret
      exact ⟨_, _, _, rfl, HG.out⟩
end Go.Proofs.Ytceokpklcfmadab
