import Derived.Test.YtjepeeopjjnglabQOh
import Derived.Test.YtjepeeopjjnglabQOj
/-
  DiskApart: what is yet to be written over.
-/
namespace Go.Proofs.Ytjepeeopjjnglab
open Go Go.RowKit Go.ChangeShapes
open Wb
open Rd
open Cb (Bo Fr Bm Cl)
structure Pd (w : World) (B : Nat) (Sx : List SE) (Bx : List BE) (Nx : List NE) (vs vb vn : Value) (a b c : Nat) : Prop where
  s : ∀ (i : Nat) (x : SE), a ≤ i → Sx[i]? = some x → FA w x.v x.xs
  b : ∀ (i : Nat) (x : BE), b ≤ i → Bx[i]? = some x → Own B w x.v x.l
  n : ∀ (i : Nat) (x : NE), c ≤ i → Nx[i]? = some x → w.ownsRow B 9 1 x.v x.l.length (x.l.flatMap enN)
  rs : w.ownsRow B 35 1 vs (Sx.map SE.v).length (Sx.map SE.v)
  rb : w.ownsRow B 29 1 vb (Bx.map BE.v).length (Bx.map BE.v)
  rn : w.ownsRow B 32 1 vn (Nx.map NE.v).length (Nx.map NE.v)
/-- its blocks -/
def Pq (Sx : List SE) (Bx : List BE) (Nx : List NE) (vs vb vn : Value) (a b c q : Nat) : Prop := (∃ (i : Nat) (x : SE), a ≤ i ∧ Sx[i]? = some x ∧ Fq x.v x.xs q) ∨ (∃ (i : Nat) (x : BE), b ≤ i ∧ Bx[i]? = some x ∧ x.v.ownBlock = some q) ∨ (∃ (i : Nat) (x : NE), c ≤ i ∧ Nx[i]? = some x ∧ x.v.ownBlock = some q) ∨ vs.ownBlock = some q ∨ vb.ownBlock = some q ∨ vn.ownBlock = some q
section
variable {F : Nat → Prop} {w w' : World} {B T : Nat} {Sx : List SE} {Bx : List BE} {Nx : List NE} {O : Nat → Nat} {vs vb vn : Value} {a b c : Nat}
theorem Pd.blk (h : Pd w B Sx Bx Nx vs vb vn a b c) (hb : ∀ q, Pq Sx Bx Nx vs vb vn a b c q → w'.heap[q]? = w.heap[q]?) : Pd w' B Sx Bx Nx vs vb vn a b c :=
  ⟨fun i x hi hx => (h.s i x hi hx).blk fun q e => hb q (.inl ⟨i, x, hi, hx, e⟩), fun i x hi hx => ⟨Mg.row_block (h.b i x hi hx).row fun q e => hb q (.inr (.inl ⟨i, x, hi, hx, e⟩)), (h.b i x hi hx).good⟩, fun i x hi hx => Mg.row_block (h.n i x hi hx) fun q e => hb q (.inr (.inr (.inl ⟨i, x, hi, hx, e⟩))), Mg.row_block h.rs fun q e => hb q (.inr (.inr (.inr (.inl e)))), Mg.row_block h.rb fun q e => hb q (.inr (.inr (.inr (.inr (.inl e))))), Mg.row_block h.rn fun q e => hb q (.inr (.inr (.inr (.inr (.inr e)))))⟩
theorem Pd.lt (h : Pd w B Sx Bx Nx vs vb vn a b c) {q : Nat} (hq : Pq Sx Bx Nx vs vb vn a b c q) : q < w.heap.size := by
  rcases hq with ⟨i, x, hi, hx, e⟩ | ⟨i, x, hi, hx, e⟩ | ⟨i, x, hi, hx, e⟩ | e | e | e
  · exact (h.s i x hi hx).lt e
  · exact (World.ownsRow.lt (h.b i x hi hx).row q e).2
  · exact (World.ownsRow.lt (h.n i x hi hx) q e).2
  · exact (World.ownsRow.lt h.rs q e).2
  · exact (World.ownsRow.lt h.rb q e).2
  · exact (World.ownsRow.lt h.rn q e).2
theorem Pd.kept (h : Pd w B Sx Bx Nx vs vb vn a b c) (hb : Below w.heap.size w w') : Pd w' B Sx Bx Nx vs vb vn a b c := h.blk fun q hq => hb.block q (h.lt hq)
theorem Pd.less {a2 b2 c2 : Nat} (h : Pd w B Sx Bx Nx vs vb vn a b c) (h1 : a ≤ a2) (h2 : b ≤ b2) (h3 : c ≤ c2) : Pd w B Sx Bx Nx vs vb vn a2 b2 c2 := ⟨fun i x hi => h.s i x (by omega), fun i x hi => h.b i x (by omega), fun i x hi => h.n i x (by omega), h.rs, h.rb, h.rn⟩
theorem Pq.less {a2 b2 c2 q : Nat} (h1 : a ≤ a2) (h2 : b ≤ b2) (h3 : c ≤ c2) (h : Pq Sx Bx Nx vs vb vn a2 b2 c2 q) : Pq Sx Bx Nx vs vb vn a b c q :=
  h.imp (fun ⟨i, x, hi, r⟩ => ⟨i, x, by omega, r⟩) (Or.imp (fun ⟨i, x, hi, r⟩ => ⟨i, x, by omega, r⟩) (Or.imp (fun ⟨i, x, hi, r⟩ => ⟨i, x, by omega, r⟩) id))
/-- the type of a block -/
theorem ty_ne {q : Nat} {t t2 : TypeId} (h1 : ∃ cur, w.heap[q]? = some (.cells cur t)) (h2 : ∃ cur, w.heap[q]? = some (.cells cur t2)) : t = t2 := by
  obtain ⟨c1, h1⟩ := h1
  obtain ⟨c2, h2⟩ := h2
  rw [h1] at h2
  simp at h2
  exact h2.2
theorem FA.ty {v : Value} {xs : List FX} (h : FA w v xs) {q : Nat} (hq : Fq v xs q) : (∃ cur, w.heap[q]? = some (.cells cur 65)) ∨ ∃ cur, w.heap[q]? = some (.cells cur 5) := by
  rcases hq with e | ⟨x, hx, e⟩
  · exact .inl (Mg.row_type h.row q e)
  · exact .inr (Mg.row_type (h.own x hx).row q e)
/-- the next files are apart from what comes behind -/
theorem Pd.dS (h : Pd w B Sx Bx Nx vs vb vn a b c) (he : En F w' B T Sx Bx Nx O) {x : SE} (hx : Sx[a]? = some x) {q : Nat} (hq : Pq Sx Bx Nx vs vb vn (a + 1) b c q) : ¬ Fq x.v x.xs q := fun e => by
  have ht := (h.s a x (Nat.le_refl _) hx).ty e
  have hO := he.os a x hx q e
  have no : ∀ t, (∃ cur, w.heap[q]? = some (.cells cur t)) → t ≠ 65 → t ≠ 5 → False := fun t h1 h2 h3 => by
    rcases ht with h4 | h4
    · exact h2 (ty_ne h1 h4)
    · exact h3 (ty_ne h1 h4)
  rcases hq with ⟨i, y, hi, hy, e2⟩ | ⟨i, y, hi, hy, e2⟩ | ⟨i, y, hi, hy, e2⟩ | e2 | e2 | e2
  · have := he.os i y hy q e2
    omega
  · have := he.ob i y hy q e2
    omega
  · exact no _ (Mg.row_type (h.n i y hi hy) q e2) (by decide) (by decide)
  · exact no _ (Mg.row_type h.rs q e2) (by decide) (by decide)
  · exact no _ (Mg.row_type h.rb q e2) (by decide) (by decide)
  · exact no _ (Mg.row_type h.rn q e2) (by decide) (by decide)
theorem Pd.dB (h : Pd w B Sx Bx Nx vs vb vn a b c) (he : En F w' B T Sx Bx Nx O) {x : BE} (hx : Bx[b]? = some x) {q : Nat} (hq : Pq Sx Bx Nx vs vb vn a (b + 1) c q) : ¬ x.v.ownBlock = some q := fun e => by
  have ht := Mg.row_type (h.b b x (Nat.le_refl _) hx).row q e
  have hO := he.ob b x hx q e
  rcases hq with ⟨i, y, hi, hy, e2⟩ | ⟨i, y, hi, hy, e2⟩ | ⟨i, y, hi, hy, e2⟩ | e2 | e2 | e2
  · have := he.os i y hy q e2
    omega
  · have := he.ob i y hy q e2
    omega
  · exact absurd (ty_ne (Mg.row_type (h.n i y hi hy) q e2) ht) (by decide)
  · exact absurd (ty_ne (Mg.row_type h.rs q e2) ht) (by decide)
  · exact absurd (ty_ne (Mg.row_type h.rb q e2) ht) (by decide)
  · exact absurd (ty_ne (Mg.row_type h.rn q e2) ht) (by decide)
theorem Pd.dN (h : Pd w B Sx Bx Nx vs vb vn a b c) (he : En F w' B T Sx Bx Nx O) {x : NE} (hx : Nx[c]? = some x) {q : Nat} (hq : Pq Sx Bx Nx vs vb vn a b (c + 1) q) : ¬ x.v.ownBlock = some q := fun e => by
  have ht := Mg.row_type (h.n c x (Nat.le_refl _) hx) q e
  have hO := he.on c x hx q e
  rcases hq with ⟨i, y, hi, hy, e2⟩ | ⟨i, y, hi, hy, e2⟩ | ⟨i, y, hi, hy, e2⟩ | e2 | e2 | e2
  · rcases (h.s i y hi hy).ty e2 with h4 | h4
    · exact absurd (ty_ne h4 ht) (by decide)
    · exact absurd (ty_ne h4 ht) (by decide)
  · exact absurd (ty_ne (Mg.row_type (h.b i y hi hy).row q e2) ht) (by decide)
  · have := he.on i y hy q e2
    omega
  · exact absurd (ty_ne (Mg.row_type h.rs q e2) ht) (by decide)
  · exact absurd (ty_ne (Mg.row_type h.rb q e2) ht) (by decide)
  · exact absurd (ty_ne (Mg.row_type h.rn q e2) ht) (by decide)
/-- the book, empty -/
theorem bk_new (w : World) (B : Nat) (hB : B ≤ w.heap.size) : Bk B (w.alloc (.cells #[.slice none 0 0, .slice none 0 0, .slice none 0 0, .slice none 0 0, .slice none 0 0, .slice none 0 0, .slice none 0 0, .slice none 0 0, .slice none 0 0] 34)) (fun _ => none) w.heap.size [.slice none 0 0, .slice none 0 0, .slice none 0 0, .slice none 0 0, .slice none 0 0, .slice none 0 0, .slice none 0 0, .slice none 0 0, .slice none 0 0] [] [] [] [] [] [] := by
  have key : ∀ v ∈ ([.slice none 0 0, .slice none 0 0, .slice none 0 0, .slice none 0 0, .slice none 0 0, .slice none 0 0, .slice none 0 0, .slice none 0 0, .slice none 0 0] : List Value), v = .slice none 0 0 := fun v hv => by simpa using hv
  refine ⟨⟨lb_new w _ 34, fun i v d hv hd => ?_, rfl, fun i j u v hu _ _ q e => ?_, hB, fun d hd => ?_⟩, Cb.Col.none _, fun _ _ => rfl, Cb.Vs.nil _ _, Cb.Vs.nil _ _, Cb.Vs.nil _ _, Cb.Hs.nil _ _ _, Cb.Hs.nil _ _ _, Cb.Hs.nil _ _ _, fun x hx => (by cases hx), fun x hx => (by cases hx), fun x hx => (by cases hx), fun q hq => absurd rfl hq⟩
  · rw [key v (List.mem_of_getElem? hv)]
    have hd2 : d.2 = [] := by
      have := List.mem_of_getElem? hd
      simp only [bkD, List.map_nil, List.mem_cons, List.not_mem_nil, or_false] at this
      rcases this with e | e | e | e | e | e | e | e | e <;> rw [e]
    rw [hd2]
    exact World.ownsRow_nil _ _ _ _
  · rw [key u (List.mem_of_getElem? hu)] at e
    cases e
  · simp only [bkD, List.map_nil, List.mem_cons, List.not_mem_nil, or_false] at hd
    rcases hd with e | e | e | e | e | e | e | e | e <;> rw [e] <;> decide
theorem row_get {α : Type} (f : α → Value) {l : List α} {a : Option Addr} {n c : Nat} {t : TypeId} (h : w.ownsRow B t 1 (.slice a n c) (l.map f).length (l.map f)) {j : Nat} {x : α} (hx : l[j]? = some x) : ∃ b, a = some ⟨b, 0, none⟩ ∧ w.cell? ⟨b, j, none⟩ = some (f x) := by
  have hj := (List.getElem?_eq_some_iff.1 hx).1
  rcases h.2 with ⟨e1, h0⟩ | ⟨b, cap, cur, e1, -⟩
  · rw [List.length_map] at h0
    omega
  · simp only [Value.slice.injEq] at e1
    obtain ⟨rfl, rfl, rfl⟩ := e1
    refine ⟨b, rfl, ?_⟩
    rw [h.cellAt j (by rw [List.length_map]; omega), List.getElem?_map, hx]
    rfl
end
end Go.Proofs.Ytjepeeopjjnglab
