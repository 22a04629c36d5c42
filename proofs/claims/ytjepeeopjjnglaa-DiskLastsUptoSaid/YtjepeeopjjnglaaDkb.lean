/-
  Package disk: maps.Clone; a map of files is ranged over; SyncDir's parts.
-/
import Derived.Test.YtjepeeopjjnglaaDka
import Derived.Maps.RangeWalk
namespace Go.Proofs.Ytjepeeopjjnglaa
open Go Go.RowKit Go.ChangeShapes Go.Maps Go.Sort Go.Shelf
open Wb

theorem dkclone_any (m : Option Nat) (l : Dk.Nm) (w : World) (h : MpA w m l) :
    Calls Try.prog 55 #[.map m] w fun e w' => ∃ m', e = .returned (.map m') ∧ MpA w' m' l ∧ (∀ b, m' = some b → w.heap.size ≤ b) ∧ Below w.heap.size w w' := by
  rcases h.2 with ⟨rfl, rfl⟩ | ⟨b, rfl, hown⟩
  · refine (AnyW.maps_Clone_nil laysClone w).mono ?_
    rintro e w' ⟨rfl, rfl⟩
    exact ⟨none, rfl, ⟨List.Pairwise.nil, .inl ⟨rfl, rfl⟩⟩, fun b e => (by cases e), Below.refl _ _⟩
  · refine (AnyW.maps_Clone_owns laysClone 9 fpR b l.length (Dk.dm l) w hown).mono ?_
    rintro e w' ⟨rfl, h1, -, hb⟩
    exact ⟨_, rfl, MpA.own h.1 h1, fun b e => Nat.le_of_eq (Option.some.inj e), hb⟩
/-- an entry has come -/
structure NXF (b r n : Nat) (l : Dk.Nm) (left : Lit → Bool) (cnt : Nat) (wr : World) (x : List UInt8) (f cnt1 : Nat) (w1 : World) : Prop where
  lx : left (.string x) = true
  gt : Dk.get l x = some f
  rg : w1.ranges Try.prog 9 fpR b r n (Dk.dm l) (fun z => left z && !z.sameKey (.string x)) cnt1
  lt : cnt1 < cnt
  gr : wr.grownBy w1 (some r)
  en : (Instr.entry (.pointer (some ⟨r, 0, none⟩))).run Try.prog w1 = .ok (.tuple #[.string ⟨x.toArray⟩, .pointer (some ⟨f, 0, none⟩)]) w1
def Left0 (left : Lit → Bool) : Prop := ∀ kl, left kl = false
theorem fpR_shape {v : Value} {y : DataW Unit × List MemPlace} (h : fpR v = some y) : ∃ c, v = fpo c := by
  unfold fpR at h
  split at h
  · exact ⟨none, rfl⟩
  · rename_i b
    exact ⟨some b, rfl⟩
  · cases h
theorem wpList_nextF (wr : World) {ops : Array Oper} {rest : List Oper} {o : Oper} {a : Act} {Q : Exit → Act → World → Prop} (hg : o.guard = none) (it : Operand) (hop : o.op = Op.next it false) (b r n : Nat) (l : Dk.Nm) (left : Lit → Bool) (cnt : Nat)
    (hit : a.eval it = .pointer (some ⟨r, 0, none⟩)) (h : wr.ranges Try.prog 9 fpR b r n (Dk.dm l) left cnt)
    (hDone : Left0 left → wpList Try.prog ops Q rest (a.put o.dst (.tuple #[.bool false])) wr)
    (hMore : ∀ (x : List UInt8) (f cnt1 : Nat) (w1 : World), NXF b r n l left cnt wr x f cnt1 w1 → wpList Try.prog ops Q rest (a.put o.dst (.tuple #[.bool true, .string ⟨x.toArray⟩, .pointer (some ⟨f, 0, none⟩)])) w1) :
    wpList Try.prog ops Q (o :: rest) a wr :=
  wpList_next_ranges wr hg it hop 9 lawS fpR encStr fpo (fun key kl hkey => by obtain ⟨x, rfl, _⟩ := Maps.keyOf_str Try.underlying9 hkey; exact ⟨x, rfl⟩) (fun v y hv => fpR_shape hv) b r n _ _ _ hit h (fun _ hl => hDone hl) (fun x c kl y w1 cnt1 hkey hlx hR hat hrg1 hlt hg1 _ hen => by
    obtain ⟨x', ex, rfl, -⟩ := Maps.keyOf_str Try.underlying9 hkey
    obtain rfl := encStr_inj ex
    have h1 := hat .nil
    have h2 := hat (.lit (.bool true))
    rw [Dk.dm_at] at h1 h2
    cases hgt : Dk.get l x with
    | none =>
      rw [hgt] at h1 h2
      simp only at h1 h2
      rw [← h1] at h2
      cases h2
    | some f =>
      rw [hgt] at h1
      simp only at h1
      obtain ⟨y1, y2⟩ := y
      simp only at h1
      subst h1
      have hc := fpR_inv hR
      rw [hc] at hen ⊢
      exact hMore x f cnt1 w1 ⟨hlx, hgt, hrg1, hlt, hg1, hen⟩)
namespace Dk
def len (fo : Nat → Fl) (p : List UInt8 × Nat) : Nat := (fo p.2).data.length
/-- the bytes of all files that have a name -/
def tot (l : Nm) (fo : Nat → Fl) : Nat := (l.map (len fo)).sum
/-- of those that are left -/
def lsum (l : Nm) (fo : Nat → Fl) (left : Lit → Bool) : Nat := ((l.filter fun p => left (.string p.1)).map (len fo)).sum
theorem lsum_all (l : Nm) (fo : Nat → Fl) : lsum l fo (Maps.has (dm l)) = tot l fo := by
  unfold lsum tot
  rw [List.filter_eq_self.2]
  intro p hp
  rw [dm_has]
  unfold get
  cases hf : l.find? (fun q => q.1 == p.1) with
  | none =>
    rw [List.find?_eq_none] at hf
    have := hf p hp
    simp at this
  | some q => rfl
theorem lsum_none (l : Nm) (fo : Nat → Fl) (left : Lit → Bool) (h : ∀ k, left k = false) : lsum l fo left = 0 := by
  unfold lsum
  rw [List.filter_eq_nil_iff.2 (fun p _ => by rw [h]; simp)]
  rfl
theorem lsum_step (fo : Nat → Fl) (left : Lit → Bool) (x : List UInt8) (f : Nat) (hx : left (.string x) = true) : ∀ l : Nm, rising l → (x, f) ∈ l → lsum l fo left = (fo f).data.length + lsum l fo (fun z => left z && !z.sameKey (.string x))
  | [], _, hm => by cases hm
  | p :: r, hr, hm => by
    have hr0 := hr
    unfold rising at hr
    rw [List.pairwise_cons] at hr
    have same : ∀ q : List UInt8 × Nat, (Lit.string q.1).sameKey (.string x) = (q.1 == x) := fun q => rfl
    rcases List.mem_cons.1 hm with e | e
    · have hno : ∀ q ∈ r, q.1 ≠ x := fun q hq e2 => by
        have h9 := hr.1 q hq
        rw [← e] at h9
        rw [e2] at h9
        rw [bb_irrefl] at h9
        cases h9
      have e3 : r.filter (fun p => left (.string p.1) && !(Lit.string p.1).sameKey (.string x)) = r.filter (fun p => left (.string p.1)) := by
        refine List.filter_congr fun q hq => ?_
        rw [same]
        have : (q.1 == x) = false := by simpa using hno q hq
        rw [this]
        simp
      unfold lsum
      dsimp only
      rw [List.filter_cons, List.filter_cons, ← e, if_pos hx, if_neg (by simp [Lit.sameKey]), e3, List.map_cons, List.sum_cons]
      rfl
    · have hpx : p.1 ≠ x := fun e2 => by
        have h9 := hr.1 _ e
        rw [e2] at h9
        rw [bb_irrefl] at h9
        cases h9
      have ih := lsum_step fo left x f hx r hr.2 e
      unfold lsum at ih ⊢
      dsimp only at ih ⊢
      have e4 : (p.1 == x) = false := by simpa using hpx
      rw [List.filter_cons, List.filter_cons, same, e4]
      cases hl : left (.string p.1) with
      | true =>
        simp only [Bool.not_false, Bool.and_true, if_true, List.map_cons, List.sum_cons]
        rw [ih]
        omega
      | false =>
        simp only [Bool.false_and, Bool.false_eq_true, if_false]
        exact ih
/-- SyncDir -/
def sdE (S : DS) : Int := if askE S [] = 0 then (cnt S).1 else askE S []
def sd (S : DS) : DS := if askE S [] = 0 then (if (cnt S).1 = 0 then { (cnt S).2 with la := S.nm, ch := [], taken := (tot S.nm S.fo : Int) } else (cnt S).2) else S
end Dk
section
variable {B : Nat} {w w' : World} {g : Nat} {S : Dk.DS} {M : Mm}
/-- all names last -/
theorem DM.last (h : DM B w g S M) (hB : B ≤ w.heap.size) {W : World} {m' : Option Nat} (hb : Below w.heap.size w W) (hm : MpA W m' S.nm) (hn : ∀ b, m' = some b → w.heap.size ≤ b) : DM B (W.setCell ⟨g, 3, none⟩ (.map m')) g { S with la := S.nm } { M with ml := m' } ∧ IFr w (W.setCell ⟨g, 3, none⟩ (.map m')) (Ft g S M) ∧ ∀ q, Ft g { S with la := S.nm } { M with ml := m' } q → Ft g S M q ∨ w.heap.size ≤ q := by
  have h1 := h.kept hb
  have gl := h.box.lt
  have far : ∀ q, q ≠ g → (W.setCell ⟨g, 3, none⟩ (.map m')).heap[q]? = W.heap[q]? := fun q hq => set_other _ _ _ _ hq
  have L := h1.box.set 3 (.map m')
  refine ⟨⟨L, h1.nm.blk fun b e => far b fun e2 => h1.gne.1 (by rw [← e2]; exact e), hm.blk fun b e => far b fun e2 => by have := hn b e; omega, Mg.row_block h1.ch fun q e => far q (h1.vne e).1, fun f hf => (far f (h1.fne hf).1).trans (h1.fb f hf), fun f hf => ⟨Mg.row_block (h1.fd f hf).1 fun q e => far q (h1.dne hf e).1, (h1.fd f hf).2⟩, h.ap, fun b e e2 => ?_, h.gB, fun b e => ?_, h.fB⟩, ⟨hb.os, hb.tape, hb.output, by simp only [World.setCell, Array.size_modify]; exact hb.size, fun k hk hnn => (far k fun e => hnn (.inl e)).trans (hb.block k hk)⟩, fun q hq => ?_⟩
  · have k1 := h.nm.lt b e
    have k2 := hn b e2
    omega
  · rcases e with e | e
    · exact h.mB b (.inl e)
    · exact Nat.le_trans hB (hn b e)
  · rcases hq with e | e | e | e | e
    · exact .inl (.inl e)
    · exact .inl (.inr (.inl e))
    · exact .inr (hn q e)
    · exact .inl (.inr (.inr (.inr (.inl e))))
    · exact .inl (.inr (.inr (.inr (.inr e))))
/-- no change is kept -/
theorem DM.nochg (h : DM B w g S M) : DM B (w.setCell ⟨g, 4, none⟩ (.slice none 0 0)) g { S with ch := [] } { M with vc := .slice none 0 0 } := by
  have far : ∀ q, q ≠ g → (w.setCell ⟨g, 4, none⟩ (.slice none 0 0)).heap[q]? = w.heap[q]? := fun q hq => set_other _ _ _ _ hq
  exact ⟨h.box.set 4 _, h.nm.blk fun b e => far b fun e2 => h.gne.1 (by rw [← e2]; exact e), h.la.blk fun b e => far b fun e2 => h.gne.2.1 (by rw [← e2]; exact e), World.ownsRow_nil _ _ _ _, fun f hf => (far f (h.fne hf).1).trans (h.fb f hf), fun f hf => ⟨Mg.row_block (h.fd f hf).1 fun q e => far q (h.dne hf e).1, (h.fd f hf).2⟩, h.ap, h.ne, h.gB, h.mB, h.fB⟩
theorem ft_nochg {q : Nat} (h : Ft g { S with ch := [] } { M with vc := .slice none 0 0 } q) : Ft g S M q := by
  rcases h with e | e | e | e | e
  · exact .inl e
  · exact .inr (.inl e)
  · exact .inr (.inr (.inl e))
  · cases e
  · exact .inr (.inr (.inr (.inr e)))
end
end Go.Proofs.Ytjepeeopjjnglaa
