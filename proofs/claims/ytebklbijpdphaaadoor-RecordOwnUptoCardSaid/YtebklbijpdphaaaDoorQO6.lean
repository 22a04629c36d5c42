import Derived.Deep.Cut
import Derived.Deep.RegionHeldLaw
import Derived.Test.YtebklbijpdphaaaDoorQO4
import Derived.Test.YtebklbijpdphaaaDoorQA1
/-
  LiftEmpty, LiftOwn: filled.
-/
namespace Go.Proofs.YtebklbijpdphaaaDoor
open Go Go.RowKit
open Wb

/-- byte rows in a list, apart -/
structure Lst (B : Nat) (w : World) (vl : Value) (ds : List Value) (c : Nat → List Nat) : Prop where
  row : w.ownsRow 0 25 1 vl ds.length ds
  each : ∀ (i : Nat) (d : Value), ds[i]? = some d → Own B w d (c i)
  apart : ∀ (i j : Nat) (d e : Value), ds[i]? = some d → ds[j]? = some e → i ≠ j → ∀ g, d.ownBlock = some g → e.ownBlock ≠ some g
  rowap : ∀ d ∈ ds, ∀ g, vl.ownBlock = some g → d.ownBlock ≠ some g
/-- only the rows' blocks, and new ones, are others -/
structure Frm (ds : List Value) (w w' : World) : Prop where
  size : w.heap.size ≤ w'.heap.size
  same : ∀ g, g < w.heap.size → (∀ d ∈ ds, d.ownBlock ≠ some g) → w'.heap[g]? = w.heap[g]?
theorem Frm.refl (ds : List Value) (w : World) : Frm ds w w := ⟨Nat.le_refl _, fun _ _ _ => rfl⟩
theorem owns_block {B : Nat} {w w' : World} {v : Value} {n s : Nat} {t : TypeId} {cs : List Value} (h : w.ownsRow B t s v n cs) (hg : ∀ g, v.ownBlock = some g → w'.heap[g]? = w.heap[g]?) : w'.ownsRow B t s v n cs := by
  refine ⟨h.1, ?_⟩
  rcases h.2 with h1 | ⟨g, cap, cur, rfl, h1, hg0, rest⟩
  · exact .inl h1
  · exact .inr ⟨g, cap, cur, rfl, h1, (hg g rfl).trans hg0, rest⟩
theorem Lst.kept {B : Nat} {w w' : World} {vl : Value} {ds : List Value} {c : Nat → List Nat} (h : Lst B w vl ds c) (hb : Below w.heap.size w w') : Lst B w' vl ds c := ⟨owns_kept h.row hb, fun i d hd => (h.each i d hd).kept hb, h.apart, h.rowap⟩
theorem Lst.put {B : Nat} {w : World} {vl : Value} {ds : List Value} {c : Nat → List Nat} (h : Lst B w vl ds c) (k g cap : Nat) (hk : ds[k]? = some (.slice (some ⟨g, 0, none⟩) (c k).length cap)) (j b : Nat) (hj : j < (c k).length) (hb : b < 256) :
    Lst B (w.setCell ⟨g, j, none⟩ (.int .u8 (b : Int))) vl ds (fun i => if i = k then (c k).set j b else c i) := by
  refine ⟨owns_block h.row fun g' hg' => set_other w _ _ g' fun e => h.rowap _ (List.mem_of_getElem? hk) g' hg' (by rw [e]; rfl), fun i d hd => ?_, h.apart, h.rowap⟩
  by_cases hi : i = k
  · subst hi
    obtain rfl : Value.slice (some ⟨g, 0, none⟩) (c i).length cap = d := Option.some.inj (hk.symm.trans hd)
    rw [if_pos rfl]
    exact Own.put (h.each i _ hk) j b hj hb rfl
  · rw [if_neg hi]
    exact own_kept2 (h.each i d hd) fun g' hg' => set_other w _ _ g' fun e => h.apart i k d _ hd hk hi g' hg' (by rw [e]; rfl)
theorem Lst.shape {B : Nat} {w : World} {vl : Value} {ds : List Value} {c : Nat → List Nat} (h : Lst B w vl ds c) : ∃ ao, ∃ cap : Nat, vl = .slice ao ds.length cap ∧ cap ≤ maxLen ∧ ∀ k, k < ds.length → ∃ g, ao = some ⟨g, 0, none⟩ ∧ w.cell? ⟨g, k, none⟩ = ds[k]? := by
  have h0 := h.row
  rcases h.row.2 with ⟨rfl, h1⟩ | ⟨g, cap, cur, rfl, hb, hg, h1, h2, h3, h4⟩
  · exact ⟨none, 0, by rw [h1], by simp [maxLen], fun k hk => by omega⟩
  · exact ⟨some ⟨g, 0, none⟩, cap, rfl, h2, fun k hk => ⟨g, rfl, World.ownsRow.cellAt h0 k (by omega)⟩⟩
theorem wrap250 (i : Nat) : IntKind.wrap .u8 (1 + ((i % 250 : Nat) : Int)) = ((1 + i % 250 : Nat) : Int) := by
  have h : i % 250 < 250 := Nat.mod_lt _ (by decide)
  generalize i % 250 = m at *
  unfold IntKind.wrap
  simp [IntKind.bits, IntKind.signed]
  omega
theorem rem250 (k : Nat) : Int.tmod (k : Int) 250 = ((k % 250 : Nat) : Int) := by
  rw [Int.tmod_eq_emod_of_nonneg (by omega)]
  omega
theorem w250 (m : Nat) (h : m < 250) : wrap64 (1 + (m : Int)) % 256 = ((1 + m : Nat) : Int) := by
  unfold wrap64
  rw [Int.emod_eq_of_lt (a := 1 + (m : Int) + 9223372036854775808) (by omega) (by omega)]
  omega
def mkA (i : Nat) : Nat := 1 + i % 250
def mkT (i : Nat) : Nat := 251 + i % 5
end Go.Proofs.YtebklbijpdphaaaDoor

/-
  LiftEmpty, LiftOwn: filled: what the second half keeps.
-/
namespace Go.Proofs.YtebklbijpdphaaaDoor
open Go Go.RowKit
open Wb

def vw (x : Value × Value × Value) : List Value := [x.1, x.2.1, x.2.2]
/-- only the block of d, and new ones, are others -/
structure FrD (d : Value) (w w' : World) : Prop where
  size : w.heap.size ≤ w'.heap.size
  same : ∀ g, g < w.heap.size → d.ownBlock ≠ some g → w'.heap[g]? = w.heap[g]?
theorem FrD.below {d : Value} {w w' w'' : World} (h : FrD d w w') (hb : Below w'.heap.size w' w'') : FrD d w w'' := ⟨Nat.le_trans h.size hb.size, fun g hg hne => (hb.block g (Nat.lt_of_lt_of_le hg h.size)).trans (h.same g hg hne)⟩
theorem FrD.grown {d v : Value} {w w' w'' : World} (h : FrD d w w') (hg : w'.grownBy w'' v.ownBlock) (hv : ∀ g, v.ownBlock = some g → d.ownBlock = some g ∨ w.heap.size ≤ g) : FrD d w w'' := ⟨Nat.le_trans h.size hg.size, fun g hlt hne => (hg.block g (Nat.lt_of_lt_of_le hlt h.size) (fun e => by
  rcases hv g e.symm with e1 | e1
  · exact hne e1
  · omega)).trans (h.same g hlt hne)⟩
/-- the marks stand -/
structure Fams (B : Nat) (w : World) (ds : List Value) (n : Nat → Nat) (fs : List (Value × Value × Value)) : Prop where
  base : ∀ (i : Nat) (d : Value), ds[i]? = some d → Own B w d (mks (n i) (mkA i) 0 (mkT i))
  views : ∀ (i : Nat) (x : Value × Value × Value), fs[i]? = some x → Own B w x.1 (mks (n i) (mkA i) 1 (mkT i)) ∧ Own B w x.2.1 (mks (n i) (mkA i) 2 (mkT i)) ∧ Own B w x.2.2 (mks (n i) (mkA i) 70 (mkT i))
theorem Fams.view {B : Nat} {w : World} {ds : List Value} {n : Nat → Nat} {fs : List (Value × Value × Value)} (h : Fams B w ds n fs) (i : Nat) (x : Value × Value × Value) (hx : fs[i]? = some x) (s : Value) (hs : s ∈ vw x) : ∃ k, Own B w s (mks (n i) (mkA i) k (mkT i)) := by
  simp only [vw, List.mem_cons, List.not_mem_nil, or_false] at hs
  obtain ⟨h1, h2, h3⟩ := h.views i x hx
  rcases hs with rfl | rfl | rfl
  · exact ⟨_, h1⟩
  · exact ⟨_, h2⟩
  · exact ⟨_, h3⟩
theorem Fams.kept {B : Nat} {w w' : World} {ds : List Value} {n : Nat → Nat} {fs : List (Value × Value × Value)} (h : Fams B w ds n fs) (hb : Below w.heap.size w w') : Fams B w' ds n fs := ⟨fun i d hd => (h.base i d hd).kept hb, fun i x hx => ⟨(h.views i x hx).1.kept hb, (h.views i x hx).2.1.kept hb, (h.views i x hx).2.2.kept hb⟩⟩
structure Ph2 (B : Nat) (w0 w : World) (vl : Value) (ds : List Value) (n : Nat → Nat) (vm : Value) (fs : List (Value × Value × Value)) : Prop where
  fam : Fams B w ds n fs
  apart : ∀ (i j : Nat) (d e : Value), ds[i]? = some d → ds[j]? = some e → i ≠ j → ∀ g, d.ownBlock = some g → e.ownBlock ≠ some g
  rowap : ∀ d ∈ ds, ∀ g, vl.ownBlock = some g → d.ownBlock ≠ some g
  ap : ∀ (i : Nat) (x : Value × Value × Value), fs[i]? = some x → ∀ s ∈ vw x, ∀ (j : Nat) (d : Value), ds[j]? = some d → i ≠ j → ∀ g, s.ownBlock = some g → d.ownBlock ≠ some g
  mr : ∀ g, vm.ownBlock = some g → (∀ d ∈ ds, d.ownBlock ≠ some g) ∧ ∀ x ∈ fs, ∀ s ∈ vw x, s.ownBlock ≠ some g
  more : w.ownsRow w0.heap.size 25 1 vm (3 * fs.length) (fs.flatMap vw)
  row : w.ownsRow 0 25 1 vl ds.length ds
  low : ∀ g, vl.ownBlock = some g → g < w0.heap.size
  frm : Frm ds w0 w
  bel : Below B w0 w
  hB : B ≤ w0.heap.size
theorem Ph2.step {B : Nat} {w0 ws w' w'' : World} {vl : Value} {ds : List Value} {n : Nat → Nat} {vm vm' : Value} {fs : List (Value × Value × Value)} (h : Ph2 B w0 ws vl ds n vm fs) {d g1 g2 g3 : Value} (hk : ds[fs.length]? = some d) (hfr : FrD d ws w') (hb : Below B ws w')
    (o0 : Own B w' d (mks (n fs.length) (mkA fs.length) 0 (mkT fs.length))) (o1 : Own B w' g1 (mks (n fs.length) (mkA fs.length) 1 (mkT fs.length))) (o2 : Own B w' g2 (mks (n fs.length) (mkA fs.length) 2 (mkT fs.length))) (o3 : Own B w' g3 (mks (n fs.length) (mkA fs.length) 70 (mkT fs.length)))
    (hbl : ∀ s ∈ vw (g1, g2, g3), ∀ g, s.ownBlock = some g → d.ownBlock = some g ∨ ws.heap.size ≤ g)
    (hm : w''.ownsRow w0.heap.size 25 1 vm' (3 * fs.length + 3) (fs.flatMap vw ++ [g1, g2, g3])) (hg : w'.grownBy w'' vm.ownBlock) (hat : vm'.ownBlock = vm.ownBlock ∨ vm'.ownBlock = some w'.heap.size) : Ph2 B w0 w'' vl ds n vm' (fs ++ [(g1, g2, g3)]) := by
  have hdm : d ∈ ds := List.mem_of_getElem? hk
  have hvm : ∀ g, vm.ownBlock = some g → w0.heap.size ≤ g ∧ g < ws.heap.size := fun g hg => World.ownsRow.lt h.more g hg
  have keepM : ∀ u l, Own B w' u l → (∀ g, vm.ownBlock = some g → u.ownBlock ≠ some g) → Own B w'' u l := fun u l hu hne => own_kept2 hu fun g hg' => hg.block g (World.ownsRow.lt hu.row g hg').2 fun e => hne g e.symm hg'
  have keepD : ∀ u l, Own B ws u l → (∀ g, d.ownBlock = some g → u.ownBlock ≠ some g) → Own B w' u l := fun u l hu hne => own_kept2 hu fun g hg' => hfr.same g (World.ownsRow.lt hu.row g hg').2 fun e => hne g e hg'
  have hnv : ∀ s ∈ vw (g1, g2, g3), ∀ g, vm.ownBlock = some g → s.ownBlock ≠ some g := fun s hs g hv e => by
    rcases hbl s hs g e with e1 | e1
    · exact (h.mr g hv).1 d hdm e1
    · have := (hvm g hv).2
      omega
  have hcase : ∀ (i : Nat) (x : Value × Value × Value), (fs ++ [(g1, g2, g3)])[i]? = some x → fs[i]? = some x ∨ (i = fs.length ∧ x = (g1, g2, g3)) := fun i x hi => by
    by_cases hlt : i < fs.length
    · rw [List.getElem?_append_left hlt] at hi
      exact .inl hi
    · rw [List.getElem?_append_right (by omega)] at hi
      have h0 : i - fs.length = 0 := by
        have := (List.getElem?_eq_some_iff.1 hi).1
        simp at this
        omega
      rw [h0] at hi
      exact .inr ⟨by omega, by simpa using hi.symm⟩
  have hfl : ∀ (i : Nat) (x : Value × Value × Value), fs[i]? = some x → i ≠ fs.length := fun i x hx e => by have := (List.getElem?_eq_some_iff.1 hx).1; omega
  have oldV : ∀ (i : Nat) (x : Value × Value × Value), fs[i]? = some x → ∀ s ∈ vw x, ∀ l, Own B ws s l → Own B w'' s l := fun i x hx s hs l ho => keepM s l (keepD s l ho (fun g hd e => h.ap i x hx s hs fs.length d hk (hfl i x hx) g e hd)) (fun g hv => (h.mr g hv).2 x (List.mem_of_getElem? hx) s hs)
  have newO : ∀ s ∈ vw (g1, g2, g3), ∃ k, Own B w' s (mks (n fs.length) (mkA fs.length) k (mkT fs.length)) := fun s hs => by
    simp only [vw, List.mem_cons, List.not_mem_nil, or_false] at hs
    rcases hs with rfl | rfl | rfl
    · exact ⟨_, o1⟩
    · exact ⟨_, o2⟩
    · exact ⟨_, o3⟩
  refine ⟨⟨fun i e hi => ?_, fun i x hi => ?_⟩, h.apart, h.rowap, fun i x hi s hs j e hj hij g hg' => ?_, fun g hv => ?_, ?_, ?_, h.low, ⟨?_, fun g hlt hne => ?_⟩, ?_, h.hB⟩
  · by_cases hik : i = fs.length
    · subst hik
      obtain rfl : d = e := Option.some.inj (hk.symm.trans hi)
      exact keepM _ _ o0 (fun g hv => (h.mr g hv).1 _ hdm)
    · exact keepM _ _ (keepD _ _ (h.fam.base i e hi) (fun g hd => h.apart fs.length i d e hk hi (Ne.symm hik) g hd)) (fun g hv => (h.mr g hv).1 e (List.mem_of_getElem? hi))
  · rcases hcase i x hi with hx | ⟨rfl, rfl⟩
    · obtain ⟨h1, h2, h3⟩ := h.fam.views i x hx
      exact ⟨oldV i x hx _ (by simp [vw]) _ h1, oldV i x hx _ (by simp [vw]) _ h2, oldV i x hx _ (by simp [vw]) _ h3⟩
    · exact ⟨keepM _ _ o1 (hnv _ (by simp [vw])), keepM _ _ o2 (hnv _ (by simp [vw])), keepM _ _ o3 (hnv _ (by simp [vw]))⟩
  · rcases hcase i x hi with hx | ⟨rfl, rfl⟩
    · exact h.ap i x hx s hs j e hj hij g hg'
    · intro he
      rcases hbl s hs g hg' with e1 | e1
      · exact h.apart fs.length j d e hk hj hij g e1 he
      · have := (World.ownsRow.lt (h.fam.base j e hj).row g he).2
        omega
  · have hold : ∀ (i : Nat) (x : Value × Value × Value), fs[i]? = some x → ∀ s ∈ vw x, ∀ g, s.ownBlock = some g → g < ws.heap.size := fun i x hx s hs g e => by
      obtain ⟨k, hk⟩ := h.fam.view i x hx s hs
      exact (World.ownsRow.lt hk.row g e).2
    rcases hat with e | e
    · rw [e] at hv
      refine ⟨(h.mr g hv).1, fun x hx s hs => ?_⟩
      rcases List.mem_append.1 hx with hx | hx
      · exact (h.mr g hv).2 x hx s hs
      · obtain rfl := List.mem_singleton.1 hx
        exact hnv s hs g hv
    · rw [e] at hv
      have hgw : w'.heap.size = g := Option.some.inj hv
      have hsw := hfr.size
      refine ⟨fun e1 he1 e2 => ?_, fun x hx s hs e2 => ?_⟩
      · obtain ⟨i, hi⟩ := List.mem_iff_getElem?.1 he1
        have := (World.ownsRow.lt (h.fam.base i e1 hi).row g e2).2
        omega
      · rcases List.mem_append.1 hx with hx | hx
        · obtain ⟨i, hi⟩ := List.mem_iff_getElem?.1 hx
          have := hold i x hi s hs g e2
          omega
        · obtain rfl := List.mem_singleton.1 hx
          obtain ⟨k, hk⟩ := newO s hs
          have := (World.ownsRow.lt hk.row g e2).2
          omega
  · rw [List.length_append, List.flatMap_append]
    have e3 : 3 * (fs.length + [(g1, g2, g3)].length) = 3 * fs.length + 3 := by simp; omega
    rw [e3]
    simpa [vw] using hm
  · have hsz0 := h.frm.size
    refine owns_block (owns_block h.row fun g hg' => hfr.same g (by have := h.low g hg'; omega) (fun e => h.rowap d hdm g hg' e)) fun g hg' => hg.block g (by have := h.low g hg'; have := hfr.size; omega) (fun e => ?_)
    have := (hvm g e.symm).1
    have := h.low g hg'
    omega
  · have := h.frm.size
    have := hfr.size
    have := hg.size
    omega
  · have hsz0 := h.frm.size
    have hsz1 := hfr.size
    rw [hg.block g (by omega) (fun e => by have := (hvm g e.symm).1; omega), hfr.same g (by omega) (hne d hdm)]
    exact h.frm.same g hlt hne
  · refine (h.bel.trans hb).trans ((Below.refl B w').grown hg ?_ (fun g hv => ?_))
    · have := h.frm.size
      have := hfr.size
      have := h.hB
      omega
    · have := (hvm g hv).1
      have := h.hB
      omega
end Go.Proofs.YtebklbijpdphaaaDoor
