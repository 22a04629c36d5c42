import Derived.Shelf.Sort.Plain
import Derived.Shelf.AbstractIn
import Derived.Maps.RangeWalk
import Derived.Test.YtppabcihbpbfpaaGreatDoorQK6
import Derived.Test.YtppabcihbpbfpaaGreatDoorQKs
/-
  Package disk: rising, List, Read.
-/
namespace Go.Proofs.YtppabcihbpbfpaaGreatDoor
open Go Go.RowKit Go.ChangeShapes Go.Maps Go.Sort Go.Shelf
open Wb

theorem dksorts (m : Nat) : AnyZ.SortsIn Tryz.prog laysSorted_ren Fence.wide m :=
  ⟨fun blk off cap ss W hH hblk hsz => callsIn_wide.2 (Any.slices_Sort_string laysSort blk off cap ss W hH hblk hsz),
   fun p cap W => callsIn_wide.2 (Any.slices_Sort_string_none laysSort p cap W)⟩
theorem Dk.bb_lt : ∀ a b : List UInt8, bytesBefore a b = true → a < b
  | [], [], h => by cases h
  | [], _ :: _, _ => List.nil_lt_cons _ _
  | _ :: _, [], h => by cases h
  | x :: r, y :: s, h => by
    rw [bytesBefore] at h
    simp only [Bool.or_eq_true, decide_eq_true_eq, Bool.and_eq_true, beq_iff_eq] at h
    rw [List.cons_lt_cons_iff]
    rcases h with h | ⟨rfl, h⟩
    · exact .inl h
    · exact .inr ⟨rfl, Dk.bb_lt r s h⟩
theorem Dk.keys_dm (l : Dk.Nm) : strKeys (Dk.dm l) = l.map (·.1) := by
  unfold Dk.dm
  simp only [strKeys, List.map_map]
  rfl
theorem Dk.keys_sorted (l : Dk.Nm) (h : Dk.rising l) (ss : List (List UInt8)) (hp : ss.Perm (strKeys (Dk.dm l))) : ss.mergeSort (fun x y => decide (x ≤ y)) = l.map (·.1) := by
  rw [Dk.keys_dm] at hp
  have tr : ∀ a b c : List UInt8, leB a b = true → leB b c = true → leB a c = true := fun a b c h1 h2 => by simp only [leB, decide_eq_true_eq] at *; exact List.le_trans h1 h2
  have tot : ∀ a b : List UInt8, (leB a b || leB b a) = true := fun a b => by simp only [leB, Bool.or_eq_true, decide_eq_true_eq]; exact List.le_total a b
  refine List.Perm.eq_of_pairwise (le := fun a b => leB a b = true) (fun a b _ _ h1 h2 => ?_) (List.pairwise_mergeSort tr tot ss) ?_ ((List.mergeSort_perm ss leB).trans hp)
  · simp only [leB, decide_eq_true_eq] at h1 h2
    exact List.le_antisymm h1 h2
  · rw [List.pairwise_map]
    refine List.Pairwise.imp (fun {p q} hpq => ?_) h
    simp only [leB, decide_eq_true_eq]
    exact List.le_of_lt (Dk.bb_lt _ _ hpq)
set_option maxRecDepth 100000 in
set_option maxHeartbeats 2000000 in
theorem dkrising_any (m : Option Nat) (l : Dk.Nm) (w : World) (h : MpA w m l) (hl : l.length ≤ 1000000000) :
    Calls Tryz.prog 31 #[.map m] w fun e w' => ∃ v, e = .returned v ∧ w'.ownsRow w.heap.size 9 1 v l.length (l.map fun p => enS p.1) ∧ Below w.heap.size w w' := by
  refine (callsIn_wide (n := 6)).1 ?_
  have HR : Hid (Dk.rising l) := h.1
  have hsq : ∃ N, N ≤ 1000000000 ∧ SeqGives Fence.wide 2 Tryz.prog 58 #[.pointer (some ⟨w.heap.size, 0, none⟩)] encStr (fun ss => ss.Perm (strKeys (Dk.dm l))) N (w.alloc (.cells #[.map m] 62)) := by
    rcases h.2 with ⟨rfl, rfl⟩ | ⟨b, rfl, hown⟩
    · refine ⟨0, by omega, ?_⟩
      have h9 := AnyZ.keys_gives_nil (ρ := laysKeys_ren) { laysKeys with } Fence.wide 2 trivial rfl w.heap.size (w.alloc (.cells #[.map none] 62)) (by simp) (by simp)
      have e : (fun ss : List (List UInt8) => ss = []) = (fun ss => ss.Perm (strKeys (Dk.dm []))) := by
        funext ss
        rw [Dk.keys_dm]
        simp
      rw [e] at h9
      exact h9
    · refine ⟨_, by rw [← Dk.dm_size] at hl; exact hl, ?_⟩
      have hbl := hown.lt
      exact AnyZ.keys_gives (ρ := laysKeys_ren) { laysKeys with } Fence.wide _ trivial rfl (by omega) w.heap.size b l.length (Dk.dm l) _ (by simp) (by simp) (by
        obtain ⟨es, clock, hb, Ft, hs, hD⟩ := hown
        exact ⟨es, clock, (Below.heap_alloc _ _ b hbl).trans hb, Ft, hs, hD⟩)
  obtain ⟨N, hN, hseq⟩ := hsq
  clear h
  have cK : ∀ mb W, CallsIn Fence.wide 5 Tryz.prog 49 #[.map mb] W fun e w' => e = .returned (.func (.func 58) #[] #[.pointer (some ⟨W.heap.size, 0, none⟩)]) ∧ w' = W.alloc (.cells #[.map mb] 62) := fun mb W => AnyZ.keys_in laysKeys Fence.wide 5 trivial rfl mb W
  have cS := AnyZ.sorted_in laysSorted Fence.wide 5 trivial trivial trivial trivial rfl (by omega) (dksorts _) (enters_of Tryz.func57 (by kernel_rfl) rfl) 58 #[.pointer (some ⟨w.heap.size, 0, none⟩)] trivial (enters_of Tryz.func58 (by kernel_rfl) rfl) _ _ (by unfold maxLen; omega) (by omega) _ hseq
  change CallsIn _ _ Tryz.prog 48 _ _ _ at cS
  have hfK : Fence.wide.fn 49 := trivial
  have hfS : Fence.wide.fn 48 := trivial
  refine callsIn_of_wp Tryz.func31 rfl trivial ?_ rfl
  simp only [Tryz.ntmps31, List.size_toArray, List.length_cons, List.length_nil, Nat.reduceAdd, Nat.reduceSub, Array.replicate_succ, Array.replicate_zero, List.push_toArray, List.append_toArray, List.nil_append, List.cons_append]
  clear hseq
  gi_wp2_with (first
    | (gi_at_call 49; refine (cK _ _).mono ?_; rintro e w' ⟨rfl, rfl⟩)
    | (gi_at_call 48; refine cS.mono ?_; rintro e w' ⟨v, ss, rfl, hS, hrow, hnil, hb⟩))
  go_ret
  have e1 := Dk.keys_sorted l HR.out ss hS
  have e2 : ss.length = l.length := by
    rw [hS.length_eq, Dk.keys_dm, List.length_map]
  rw [e1, e2, List.map_map] at hrow
  exact ⟨v, rfl, ownsRow_base_a hrow (by simp), ((Below.refl _ w).alloc (Nat.le_refl _) _).trans (hb.mono (by simp))⟩
namespace Dk
def lst (S : DS) : List (List UInt8) := if S.down = true then [] else S.nm.map (·.1)
def rdD (S : DS) (s : List UInt8) : List Nat := if (findE S s).1 = 0 then (S.fo (fil S s)).data else []
end Dk
set_option maxRecDepth 100000 in
set_option maxHeartbeats 4000000 in
theorem dklist_any (B g : Nat) (S : Dk.DS) (M : Mm) (w : World) (h : DM B w g S M) (hl : S.nm.length ≤ 1000000000) :
    Calls Tryz.prog 44 #[.pointer (some ⟨g, 0, none⟩)] w fun e w' => ∃ v, e = .returned v ∧ w'.ownsRow w.heap.size 9 1 v (Dk.lst S).length ((Dk.lst S).map enS) ∧ Below w.heap.size w w' := by
  have x7 := h.box.cell 7 _ rfl
  have x2 := h.box.cell 2 _ rfl
  have HR : Hid (Calls Tryz.prog 31 #[.map M.mn] w fun e w' => ∃ v, e = .returned v ∧ w'.ownsRow w.heap.size 9 1 v S.nm.length (S.nm.map fun p => enS p.1) ∧ Below w.heap.size w w') := dkrising_any M.mn S.nm w h.nm hl
  clear h
  cases hd : S.down with
  | true =>
    have HE : Hid (Dk.lst S = []) := by
      show Dk.lst S = []
      unfold Dk.lst
      rw [if_pos hd]
    rw [hd] at x7
    clear hd HR
    go_enter Tryz.func44, Tryz.ntmps44
    go_wp2_with fail
    go_returns
    rw [HE.out]
    exact ⟨_, rfl, World.ownsRow_nil _ _ _ _, Below.refl _ _⟩
  | false =>
    have HE : Hid (Dk.lst S = S.nm.map (·.1)) := by
      show Dk.lst S = _
      unfold Dk.lst
      rw [if_neg (by rw [hd]; simp)]
    rw [hd] at x7
    clear hd
    go_enter Tryz.func44, Tryz.ntmps44
    go_wp2_with fail
    refine HR.out.mono ?_
    rintro e w' ⟨v, rfl, r, b⟩
    have HF : Hid (w'.ownsRow w.heap.size 9 1 v S.nm.length (S.nm.map fun p => enS p.1) ∧ Below w.heap.size w w') := ⟨r, b⟩
    clear r b HR
    go_wp2_with fail
    go_returns
    rw [HE.out, List.length_map, List.map_map]
    exact ⟨_, rfl, HF.out.1, HF.out.2⟩
end Go.Proofs.YtppabcihbpbfpaaGreatDoor

/-
  Package disk: maps.Clone; a map of files is ranged over; SyncDir's parts.
-/
namespace Go.Proofs.YtppabcihbpbfpaaGreatDoor
open Go Go.RowKit Go.ChangeShapes Go.Maps Go.Sort Go.Shelf
open Wb

theorem dkclone_any (m : Option Nat) (l : Dk.Nm) (w : World) (h : MpA w m l) :
    Calls Tryz.prog 43 #[.map m] w fun e w' => ∃ m', e = .returned (.map m') ∧ MpA w' m' l ∧ (∀ b, m' = some b → w.heap.size ≤ b) ∧ Below w.heap.size w w' := by
  rcases h.2 with ⟨rfl, rfl⟩ | ⟨b, rfl, hown⟩
  · refine (AnyW.maps_Clone_nil laysClone w).mono ?_
    rintro e w' ⟨rfl, rfl⟩
    exact ⟨none, rfl, ⟨List.Pairwise.nil, .inl ⟨rfl, rfl⟩⟩, fun b e => (by cases e), Below.refl _ _⟩
  · refine (AnyW.maps_Clone_owns laysClone 9 fpR b l.length (Dk.dm l) w hown).mono ?_
    rintro e w' ⟨rfl, h1, -, hb⟩
    exact ⟨_, rfl, MpA.own h.1 h1, fun b e => Nat.le_of_eq (Option.some.inj e), hb⟩
/-- an entry has come -/
structure NXF (b r n : Nat) (l : Dk.Nm) (left : Lit → Bool) (cnt : Nat) (wr : World) (x : List UInt8) (f cnt1 : Nat) (w1 : World) : Prop where
  lx : left (.string x) = true
  gt : Dk.get l x = some f
  rg : w1.ranges Tryz.prog 9 fpR b r n (Dk.dm l) (fun z => left z && !z.sameKey (.string x)) cnt1
  lt : cnt1 < cnt
  gr : wr.grownBy w1 (some r)
  en : (Instr.entry (.pointer (some ⟨r, 0, none⟩))).run Tryz.prog w1 = .ok (.tuple #[.string ⟨x.toArray⟩, .pointer (some ⟨f, 0, none⟩)]) w1
def Left0 (left : Lit → Bool) : Prop := ∀ kl, left kl = false
theorem fpR_shape {v : Value} {y : DataW Unit × List MemPlace} (h : fpR v = some y) : ∃ c, v = fpo c := by
  unfold fpR at h
  split at h
  · exact ⟨none, rfl⟩
  · rename_i b
    exact ⟨some b, rfl⟩
  · cases h
theorem wpList_nextF (wr : World) {ops : Array Oper} {rest : List Oper} {o : Oper} {a : Act} {Q : Exit → Act → World → Prop} (hg : o.guard = none) (it : Operand) (hop : o.op = Op.next it false) (b r n : Nat) (l : Dk.Nm) (left : Lit → Bool) (cnt : Nat)
    (hit : a.eval it = .pointer (some ⟨r, 0, none⟩)) (h : wr.ranges Tryz.prog 9 fpR b r n (Dk.dm l) left cnt)
    (hDone : Left0 left → wpList Tryz.prog ops Q rest (a.put o.dst (.tuple #[.bool false])) wr)
    (hMore : ∀ (x : List UInt8) (f cnt1 : Nat) (w1 : World), NXF b r n l left cnt wr x f cnt1 w1 → wpList Tryz.prog ops Q rest (a.put o.dst (.tuple #[.bool true, .string ⟨x.toArray⟩, .pointer (some ⟨f, 0, none⟩)])) w1) :
    wpList Tryz.prog ops Q (o :: rest) a wr :=
  wpList_next_ranges wr hg it hop 9 lawS fpR encStr fpo (fun key kl hkey => by obtain ⟨x, rfl, _⟩ := Maps.keyOf_str Tryz.underlying9 hkey; exact ⟨x, rfl⟩) (fun v y hv => fpR_shape hv) b r n _ _ _ hit h (fun _ hl => hDone hl) (fun x c kl y w1 cnt1 hkey hlx hR hat hrg1 hlt hg1 _ hen => by
    obtain ⟨x', ex, rfl, -⟩ := Maps.keyOf_str Tryz.underlying9 hkey
    obtain rfl := encStr_inj ex
    have h1 := hat .nil
    have h2 := hat (.lit (.bool true))
    rw [Dk.dm_at] at h1 h2
    cases hgt : Dk.get l x with
    | none =>
      rw [hgt] at h1 h2
      simp only at h1 h2
      rw [← h1] at h2
      cases h2
    | some f =>
      rw [hgt] at h1
      simp only at h1
      obtain ⟨y1, y2⟩ := y
      simp only at h1
      subst h1
      have hc := fpR_inv hR
      rw [hc] at hen ⊢
      exact hMore x f cnt1 w1 ⟨hlx, hgt, hrg1, hlt, hg1, hen⟩)
namespace Dk
def len (fo : Nat → Fl) (p : List UInt8 × Nat) : Nat := (fo p.2).data.length
/-- the bytes of all files that have a name -/
def tot (l : Nm) (fo : Nat → Fl) : Nat := (l.map (len fo)).sum
/-- of those that are left -/
def lsum (l : Nm) (fo : Nat → Fl) (left : Lit → Bool) : Nat := ((l.filter fun p => left (.string p.1)).map (len fo)).sum
theorem lsum_all (l : Nm) (fo : Nat → Fl) : lsum l fo (Maps.has (dm l)) = tot l fo := by
  unfold lsum tot
  rw [List.filter_eq_self.2]
  intro p hp
  rw [dm_has]
  unfold get
  cases hf : l.find? (fun q => q.1 == p.1) with
  | none =>
    rw [List.find?_eq_none] at hf
    have := hf p hp
    simp at this
  | some q => rfl
theorem lsum_none (l : Nm) (fo : Nat → Fl) (left : Lit → Bool) (h : ∀ k, left k = false) : lsum l fo left = 0 := by
  unfold lsum
  rw [List.filter_eq_nil_iff.2 (fun p _ => by rw [h]; simp)]
  rfl
theorem lsum_step (fo : Nat → Fl) (left : Lit → Bool) (x : List UInt8) (f : Nat) (hx : left (.string x) = true) : ∀ l : Nm, rising l → (x, f) ∈ l → lsum l fo left = (fo f).data.length + lsum l fo (fun z => left z && !z.sameKey (.string x))
  | [], _, hm => by cases hm
  | p :: r, hr, hm => by
    have hr0 := hr
    unfold rising at hr
    rw [List.pairwise_cons] at hr
    have same : ∀ q : List UInt8 × Nat, (Lit.string q.1).sameKey (.string x) = (q.1 == x) := fun q => rfl
    rcases List.mem_cons.1 hm with e | e
    · have hno : ∀ q ∈ r, q.1 ≠ x := fun q hq e2 => by
        have h9 := hr.1 q hq
        rw [← e] at h9
        rw [e2] at h9
        rw [bb_irrefl] at h9
        cases h9
      have e3 : r.filter (fun p => left (.string p.1) && !(Lit.string p.1).sameKey (.string x)) = r.filter (fun p => left (.string p.1)) := by
        refine List.filter_congr fun q hq => ?_
        rw [same]
        have : (q.1 == x) = false := by simpa using hno q hq
        rw [this]
        simp
      unfold lsum
      dsimp only
      rw [List.filter_cons, List.filter_cons, ← e, if_pos hx, if_neg (by simp [Lit.sameKey]), e3, List.map_cons, List.sum_cons]
      rfl
    · have hpx : p.1 ≠ x := fun e2 => by
        have h9 := hr.1 _ e
        rw [e2] at h9
        rw [bb_irrefl] at h9
        cases h9
      have ih := lsum_step fo left x f hx r hr.2 e
      unfold lsum at ih ⊢
      dsimp only at ih ⊢
      have e4 : (p.1 == x) = false := by simpa using hpx
      rw [List.filter_cons, List.filter_cons, same, e4]
      cases hl : left (.string p.1) with
      | true =>
        simp only [Bool.not_false, Bool.and_true, if_true, List.map_cons, List.sum_cons]
        rw [ih]
        omega
      | false =>
        simp only [Bool.false_and, Bool.false_eq_true, if_false]
        exact ih
/-- SyncDir -/
def sdE (S : DS) : Int := if askE S [] = 0 then (cnt S).1 else askE S []
def sd (S : DS) : DS := if askE S [] = 0 then (if (cnt S).1 = 0 then { (cnt S).2 with la := S.nm, ch := [], taken := (tot S.nm S.fo : Int) } else (cnt S).2) else S
end Dk
section
variable {B : Nat} {w w' : World} {g : Nat} {S : Dk.DS} {M : Mm}
/-- all names last -/
theorem DM.last (h : DM B w g S M) (hB : B ≤ w.heap.size) {W : World} {m' : Option Nat} (hb : Below w.heap.size w W) (hm : MpA W m' S.nm) (hn : ∀ b, m' = some b → w.heap.size ≤ b) : DM B (W.setCell ⟨g, 3, none⟩ (.map m')) g { S with la := S.nm } { M with ml := m' } ∧ IFr w (W.setCell ⟨g, 3, none⟩ (.map m')) (Ft g S M) ∧ ∀ q, Ft g { S with la := S.nm } { M with ml := m' } q → Ft g S M q ∨ w.heap.size ≤ q := by
  have h1 := h.kept hb
  have gl := h.box.lt
  have far : ∀ q, q ≠ g → (W.setCell ⟨g, 3, none⟩ (.map m')).heap[q]? = W.heap[q]? := fun q hq => set_other _ _ _ _ hq
  have L := h1.box.set 3 (.map m')
  refine ⟨⟨L, h1.nm.blk fun b e => far b fun e2 => h1.gne.1 (by rw [← e2]; exact e), hm.blk fun b e => far b fun e2 => by have := hn b e; omega, Mg.row_block h1.ch fun q e => far q (h1.vne e).1, fun f hf => (far f (h1.fne hf).1).trans (h1.fb f hf), fun f hf => ⟨Mg.row_block (h1.fd f hf).1 fun q e => far q (h1.dne hf e).1, (h1.fd f hf).2⟩, h.ap, fun b e e2 => ?_, h.gB, fun b e => ?_, h.fB⟩, ⟨hb.os, hb.tape, hb.output, by simp only [World.setCell, Array.size_modify]; exact hb.size, fun k hk hnn => (far k fun e => hnn (.inl e)).trans (hb.block k hk)⟩, fun q hq => ?_⟩
  · have k1 := h.nm.lt b e
    have k2 := hn b e2
    omega
  · rcases e with e | e
    · exact h.mB b (.inl e)
    · exact Nat.le_trans hB (hn b e)
  · rcases hq with e | e | e | e | e
    · exact .inl (.inl e)
    · exact .inl (.inr (.inl e))
    · exact .inr (hn q e)
    · exact .inl (.inr (.inr (.inr (.inl e))))
    · exact .inl (.inr (.inr (.inr (.inr e))))
/-- no change is kept -/
theorem DM.nochg (h : DM B w g S M) : DM B (w.setCell ⟨g, 4, none⟩ (.slice none 0 0)) g { S with ch := [] } { M with vc := .slice none 0 0 } := by
  have far : ∀ q, q ≠ g → (w.setCell ⟨g, 4, none⟩ (.slice none 0 0)).heap[q]? = w.heap[q]? := fun q hq => set_other _ _ _ _ hq
  exact ⟨h.box.set 4 _, h.nm.blk fun b e => far b fun e2 => h.gne.1 (by rw [← e2]; exact e), h.la.blk fun b e => far b fun e2 => h.gne.2.1 (by rw [← e2]; exact e), World.ownsRow_nil _ _ _ _, fun f hf => (far f (h.fne hf).1).trans (h.fb f hf), fun f hf => ⟨Mg.row_block (h.fd f hf).1 fun q e => far q (h.dne hf e).1, (h.fd f hf).2⟩, h.ap, h.ne, h.gB, h.mB, h.fB⟩
theorem ft_nochg {q : Nat} (h : Ft g { S with ch := [] } { M with vc := .slice none 0 0 } q) : Ft g S M q := by
  rcases h with e | e | e | e | e
  · exact .inl e
  · exact .inr (.inl e)
  · exact .inr (.inr (.inl e))
  · cases e
  · exact .inr (.inr (.inr (.inr e)))
end
end Go.Proofs.YtppabcihbpbfpaaGreatDoor

/-
  Package disk: SyncDir.
-/
namespace Go.Proofs.YtppabcihbpbfpaaGreatDoor
open Go Go.RowKit Go.ChangeShapes Go.Maps Go.Sort Go.Shelf
open Wb
attribute [local go_sem] map_eql_some map_eql_none run_mkmap

/-- while the names are ranged over -/
structure SDI (B g r b n : Nat) (w : World) (S3 : Dk.DS) (M3 : Mm) (left : Lit → Bool) (cnt : Nat) (t : Int) (W : World) : Prop where
  dm : DM B W g { S3 with taken := t } M3
  rg : W.ranges Tryz.prog 9 fpR b r n (Dk.dm S3.nm) left cnt
  su : t + (Dk.lsum S3.nm S3.fo left : Int) = (Dk.tot S3.nm S3.fo : Int)
  t0 : 0 ≤ t
  fr : IFr w W (fun q => q = g ∨ q = r)
  nr : ∀ q, Ft g S3 M3 q → q ≠ r
theorem grownBy_set1 (W : World) (B : Nat) (v : Value) : W.grownBy (W.setCell ⟨B, 1, none⟩ v) (some B) := ⟨rfl, rfl, rfl, by simp [World.setCell], fun i _ hi => set_other _ _ _ _ fun e => hi (by rw [e])⟩
theorem SDI.step {B g r b n : Nat} {w : World} {S3 : Dk.DS} {M3 : Mm} {left : Lit → Bool} {cnt : Nat} {t : Int} {W : World} (h : SDI B g r b n w S3 M3 left cnt t W) (hs : Dk.rising S3.nm ∧ (∀ p ∈ S3.nm, p.2 ∈ S3.ids) ∧ Dk.tot S3.nm S3.fo ≤ 1000000000000 ∧ M3.mn = some b) {x : List UInt8} {f cnt1 : Nat} {w1 : World} (hx : NXF b r n S3.nm left cnt W x f cnt1 w1) :
    SDI B g r b n w S3 M3 (fun z => left z && !z.sameKey (.string x)) cnt1 (t + ((S3.fo f).data.length : Int)) (w1.drew.setCell ⟨g, 1, none⟩ (.int .i64 (t + ((S3.fo f).data.length : Int)))) ∧ DM B w1.drew g { S3 with taken := t } M3 ∧ f ∈ S3.ids ∧ (IntKind.i64.wrap (t + ((S3.fo f).data.length : Int)) = t + ((S3.fo f).data.length : Int)) := by
  have hm := Dk.get_mem hx.gt
  have hsum := Dk.lsum_step S3.fo left x f hx.lx S3.nm hs.1 hm
  have hsu := h.su
  have ht0 := h.t0
  have d1 : DM B w1 g { S3 with taken := t } M3 := h.dm.blk fun q hq => hx.gr.block q (h.dm.ft hq).2 fun e => h.nr q hq (Option.some.inj e)
  have d2 := d1.kept (drew_bel w1)
  have r2 : w1.drew.ranges Tryz.prog 9 fpR b r n (Dk.dm S3.nm) (fun z => left z && !z.sameKey (.string x)) cnt1 := hx.rg.kept (grown_none (drew_bel w1) none) (by simp) (by simp)
  have hbg : b ≠ g := fun e => d1.gne.1 (by rw [← e]; exact hs.2.2.2)
  have hrg : r ≠ g := fun e => h.nr g (.inl rfl) e.symm
  refine ⟨⟨d2.num 1 _ _ rfl rfl rfl rfl rfl rfl, r2.kept (grownBy_set1 _ g _) (fun e => hbg (Option.some.inj e)) (fun e => hrg (Option.some.inj e)), by omega, by omega, ?_, h.nr⟩, d2, hs.2.1 _ hm, IntWalk.i64_in _ (by have := hs.2.2.1; omega)⟩
  refine (h.fr.trans (IFr.of (F := fun q => q = g ∨ q = r) hx.gr fun k _ e => .inr (Option.some.inj e).symm) fun _ _ e => e).trans ((IFr.kept (drew_bel w1)).trans (ifr_set _ g 1 _) fun _ _ e => e) fun _ _ e => .inl e
set_option maxRecDepth 100000 in
set_option maxHeartbeats 8000000 in
theorem dksyncdir_any (B g : Nat) (S : Dk.DS) (M : Mm) (w : World) (h : DM B w g S M) (hB : B ≤ w.heap.size) (hl : S.armed = true → 0 ≤ S.left ∧ S.left ≤ 9223372036854775807) (hid : ∀ p ∈ S.nm, p.2 ∈ S.ids) (htt : Dk.tot S.nm S.fo ≤ 1000000000000) :
    Calls Tryz.prog 26 #[.pointer (some ⟨g, 0, none⟩)] w fun e w' => e = .returned (.int .i64 (Dk.sdE S)) ∧ DPost B g S M w (Dk.sd S) w' := by
  have H0 : Hid (DM B w g S M) := h
  have HB : Hid (B ≤ w.heap.size) := hB
  have HI : Hid ((∀ p ∈ S.nm, p.2 ∈ S.ids) ∧ Dk.tot S.nm S.fo ≤ 1000000000000) := ⟨hid, htt⟩
  have cA := dkask_any B g S M (.slice none 0 0) [] w h ⟨none, 0, rfl, Nat.le_refl _, by unfold maxLen; omega, fun e => absurd rfl e⟩ (by simp)
  have cT := dkcount_any B g S M w h hl
  rw [List.map_nil] at cA
  clear h hB hl hid htt
  by_cases ha : Dk.askE S [] = 0
  · have HA : Hid (Dk.askE S [] = 0) := ha
    rw [ha] at cA
    clear ha
    go_enter Tryz.func26, Tryz.ntmps26
    go_wp2_with fail
    refine cA.mono ?_
    rintro e w' ⟨rfl, rfl⟩
    go_wp2_with fail
    refine cT.mono ?_
    rintro e W2 ⟨rfl, d2, f2⟩
    have HD2 : Hid (DM B W2 g (Dk.cnt S).2 M ∧ IFr w' W2 (Ft g S M)) := ⟨d2, f2.mono fun _ e => .inl e⟩
    clear d2 f2 cA cT
    by_cases hc0 : (Dk.cnt S).1 = 0
    · have HSE : Hid (Dk.sdE S = 0) := by
        show Dk.sdE S = 0
        unfold Dk.sdE
        rw [if_pos HA.out]
        exact hc0
      have HC0 : Hid ((Dk.cnt S).1 = 0) := hc0
      rw [hc0]
      clear hc0
      have x2 := HD2.out.1.box.cell 2 _ rfl
      have HCL : Hid (Calls Tryz.prog 43 #[.map M.mn] W2 fun e w' => ∃ m', e = .returned (.map m') ∧ MpA w' m' (Dk.cnt S).2.nm ∧ (∀ b, m' = some b → W2.heap.size ≤ b) ∧ Below W2.heap.size W2 w') := dkclone_any M.mn _ W2 HD2.out.1.nm
      go_wp2_with fail
      refine HCL.out.mono ?_
      rintro e W3 ⟨m', rfl, hm3, hn3, b3⟩
      have hB2 : B ≤ W2.heap.size := Nat.le_trans HB.out HD2.out.2.size
      have k3 := HD2.out.1.last hB2 b3 hm3 hn3
      have d3 := HD2.out.1.kept b3
      have y3 := d3.box.cell 3 _ rfl
      have g3 := d3.box.free 3
      have y4 := k3.1.box.cell 4 _ rfl
      have g4 := k3.1.box.free 4
      have k4 := k3.1.nochg
      have y1 := k4.box.cell 1 _ rfl
      have g1 := k4.box.free 1
      have k5 := k4.num 1 (.int .i64 0) { (Dk.cnt S).2 with la := (Dk.cnt S).2.nm, ch := [], taken := 0 } rfl rfl rfl rfl rfl rfl
      have HK5 : Hid (DM B (((W3.setCell ⟨g, 3, none⟩ (.map m')).setCell ⟨g, 4, none⟩ (.slice none 0 0)).setCell ⟨g, 1, none⟩ (.int .i64 0)) g { (Dk.cnt S).2 with la := (Dk.cnt S).2.nm, ch := [], taken := 0 } { M with ml := m', vc := .slice none 0 0 } ∧ IFr w' (((W3.setCell ⟨g, 3, none⟩ (.map m')).setCell ⟨g, 4, none⟩ (.slice none 0 0)).setCell ⟨g, 1, none⟩ (.int .i64 0)) (Ft g S M) ∧ ∀ q, Ft g { (Dk.cnt S).2 with la := (Dk.cnt S).2.nm, ch := [], taken := 0 } { M with ml := m', vc := .slice none 0 0 } q → Ft g S M q ∨ w'.heap.size ≤ q) := ⟨k5, ((HD2.out.2.trans k3.2.1 fun _ _ e => ft_cnt e).trans (ifr_set _ g 4 _) fun _ _ e => .inl e).trans (ifr_set _ g 1 _) fun _ _ e => .inl e, fun q hq => by
        rcases k3.2.2 q (ft_nochg hq) with e | e
        · exact .inl (ft_cnt e)
        · exact .inr (Nat.le_trans HD2.out.2.size e)⟩
      clear k3 k4 k5 d3 hm3 hn3 b3 x2 HCL hB2
      go_upto_region 10 with fail
      obtain ⟨W5, hW5⟩ : ∃ W, W = ((W3.setCell ⟨g, 3, none⟩ (.map m')).setCell ⟨g, 4, none⟩ (.slice none 0 0)).setCell ⟨g, 1, none⟩ (.int .i64 0) := ⟨_, rfl⟩
      rw [← hW5] at HK5 ⊢
      clear hW5 y3 g3 y4 g4 y1 g1
      obtain ⟨S3, hS3⟩ : ∃ S3 : Dk.DS, S3 = { (Dk.cnt S).2 with la := (Dk.cnt S).2.nm, ch := [], taken := 0 } := ⟨_, rfl⟩
      obtain ⟨M3, hM3⟩ : ∃ M3 : Mm, M3 = { M with ml := m', vc := .slice none 0 0 } := ⟨_, rfl⟩
      have hmm : M3.mn = M.mn := by rw [hM3]
      rw [← hS3, ← hM3] at HK5
      have HS3 : Hid (S3.nm = S.nm ∧ S3.fo = S.fo ∧ S3.ids = S.ids ∧ ∀ t : Int, { S3 with taken := t } = { (Dk.cnt S).2 with la := S.nm, ch := [], taken := t }) := by
        subst hS3
        exact ⟨Dk.cnt_nm S, Dk.cnt_fo S, Dk.cnt_ids S, fun t => by simp only [Dk.cnt_nm]⟩
      have HT0 : Hid (S3.taken = 0) := by rw [hS3]; exact rfl
      have HFN : Hid (∀ W, DM B W g { S3 with taken := (Dk.tot S.nm S.fo : Int) } M3 → IFr w' W (Ft g S M) → DPost B g S M w' (Dk.sd S) W) := fun W h1 h2 => by
        have e9 : Dk.sd S = { S3 with taken := (Dk.tot S.nm S.fo : Int) } := by
          unfold Dk.sd
          rw [if_pos HA.out, if_pos HC0.out, HS3.out.2.2.2]
        rw [e9]
        exact ⟨M3, h1, h2, fun q hq => HK5.out.2.2 q hq⟩
      clear hS3 hM3
      have z2 := HK5.out.1.box.cell 2 _ rfl
      cases hmn : M3.mn with
      | none =>
        have hnm : S3.nm = [] := by
          rcases HK5.out.1.nm.2 with ⟨-, e⟩ | ⟨b, e, -⟩
          · exact e
          · rw [hmn] at e
            cases e
        rw [hmn] at z2
        have HFIN : Hid (DPost B g S M w' (Dk.sd S) (W5.alloc (.mapIter none 0 #[] 0))) := by
          refine HFN.out _ ?_ (HK5.out.2.1.trans (IFr.kept (F := Ft g S M) (up0 _ _)) fun _ _ e => e)
          have e8 : Dk.tot S.nm S.fo = 0 := by
            rw [← HS3.out.1, hnm]
            rfl
          rw [e8]
          have e7 : { S3 with taken := ((0 : Nat) : Int) } = S3 := by
            have h9 := HT0.out
            cases S3
            simp only at h9
            simp [h9]
          rw [e7]
          exact HK5.out.1.kept (up0 _ _)
        have hrg := run_range_nilMap (P := Tryz.prog) W5 62 9 72 Tryz.underlying62
        have hnx : ∀ ty, (Instr.next (.pointer (some ⟨W5.heap.size, 0, none⟩)) false ty).run Tryz.prog (W5.alloc (.mapIter none 0 #[] 0)) = _ := fun ty => run_next_nilMap _ ty 0 0 #[]
        clear hmn hnm hmm
        go_wp2_with fail
        refine wp_loop_rounds 1 ?_
        rw [rounds_succ]
        go_wp2_with fail
        go_returns
        rw [HSE.out]
        exact ⟨rfl, HFIN.out⟩
      | some b =>
        rw [hmn] at z2
        have HOW : Hid (W5.ownsMap Tryz.prog 9 fpR b S3.nm.length (Dk.dm S3.nm)) := by
          rcases HK5.out.1.nm.2 with ⟨e, -⟩ | ⟨b', e, h9⟩
          · rw [hmn] at e
            cases e
          · rw [hmn] at e
            obtain rfl := Option.some.inj e
            exact h9
        have HST : Hid (Dk.rising S3.nm ∧ (∀ p ∈ S3.nm, p.2 ∈ S3.ids) ∧ Dk.tot S3.nm S3.fo ≤ 1000000000000 ∧ M3.mn = some b) := ⟨HK5.out.1.nm.1, by rw [HS3.out.1, HS3.out.2.2.1]; exact HI.out.1, by rw [HS3.out.1, HS3.out.2.1]; exact HI.out.2, hmn⟩
        clear hmn hmm
        go_wp2_with (at_range; refine wpList_range_own _ rfl _ 62 rfl 9 72 lawS Tryz.underlying62 _ b S3.nm.length _ rfl HOW.out ?_; intro w0 hrg0 hg0 hs0)
        try go_frame
        obtain ⟨r, hr⟩ : ∃ r, r = W5.heap.size := ⟨_, rfl⟩
        rw [← hr] at hrg0 ⊢
        obtain ⟨n, hn⟩ : ∃ n, n = S3.nm.length := ⟨_, rfl⟩
        rw [← hn] at hrg0
        have HBW : Hid (Below W5.heap.size W5 w0) := ⟨hg0.os, hg0.tape, hg0.output, hg0.size, fun k hk => hg0.block k hk (by simp)⟩
        have HI0 : Hid (SDI B g r b n W5 S3 M3 (Maps.has (Dk.dm S3.nm)) (Maps.size (Dk.dm S3.nm)) 0 w0) := by
          refine ⟨?_, hrg0, by rw [Dk.lsum_all]; omega, by omega, IFr.kept HBW.out, fun q hq e => ?_⟩
          · have e7 : { S3 with taken := (0 : Int) } = S3 := by
              have h9 := HT0.out
              cases S3
              simp only at h9
              simp [h9]
            rw [e7]
            exact HK5.out.1.kept HBW.out
          · have := (HK5.out.1.ft hq).2
            omega
        have HRW : Hid (w'.heap.size ≤ r) := by rw [hr]; exact HK5.out.2.1.size
        have HFIN : Hid (∀ left cnt t W, SDI B g r b n W5 S3 M3 left cnt t W → Left0 left → DPost B g S M w' (Dk.sd S) W) := fun left cnt t W hI hl => by
          have e1 : t = (Dk.tot S.nm S.fo : Int) := by
            have h9 := hI.su
            rw [Dk.lsum_none _ _ _ hl, HS3.out.1, HS3.out.2.1] at h9
            omega
          refine HFN.out W ?_ (HK5.out.2.1.trans hI.fr fun k hk e => ?_)
          · rw [← e1]
            exact hI.dm
          · rcases e with e | e
            · exact .inl e
            · have := HRW.out
              omega
        clear hrg0 hg0 hs0 hr hn z2
        try go_wp2_with fail
        go_loopw [6] (fun _ wr => ∃ (left : Lit → Bool) (cnt : Nat) (t : Int), SDI B g r b n W5 S3 M3 left cnt t wr) (fun _ wr => wr.rangeLeft b r)
        case atStart => exact ⟨_, _, _, HI0.out⟩
        case round =>
          clear HI0
          obtain ⟨left, cnt, t, hI⟩ := hrel
          have HH : Hid (SDI B g r b n W5 S3 M3 left cnt t wr) := hI
          clear hI
          go_wp2_with (at_next; refine wpList_nextF _ rfl _ rfl b r n S3.nm left cnt rfl HH.out.rg ?_ ?_)
          · intro hl0
            have HE : Hid (Left0 left) := hl0
            have HF : Hid (DPost B g S M w' (Dk.sd S) wr) := HFIN.out left cnt t wr HH.out hl0
            clear hl0
            go_wp2_with fail
            go_returns
            rw [HSE.out]
            exact ⟨rfl, HF.out⟩
          · intro x f cnt1 w1 hnx
            have HX : Hid (SDI B g r b n W5 S3 M3 (fun z => left z && !z.sameKey (.string x)) cnt1 (t + ((S3.fo f).data.length : Int)) (w1.drew.setCell ⟨g, 1, none⟩ (.int .i64 (t + ((S3.fo f).data.length : Int)))) ∧ DM B w1.drew g { S3 with taken := t } M3 ∧ f ∈ S3.ids ∧ (IntKind.i64.wrap (t + ((S3.fo f).data.length : Int)) = t + ((S3.fo f).data.length : Int))) := HH.out.step HST.out hnx
            have hen := hnx.en
            have HM : Hid (cnt1 < cnt ∧ wr.rangeLeft b r = cnt) := ⟨hnx.lt, HH.out.rg.left_eq⟩
            clear hnx
            obtain ⟨a1, c1, hdv, -⟩ := Mg.row_shape (HX.out.2.1.fd f HX.out.2.2.1).row
            have fb := HX.out.2.1.fb f HX.out.2.2.1
            rw [hdv] at fb
            simp only at fb hdv
            have x1 := HX.out.2.1.box.cell 1 _ rfl
            have g1 := HX.out.2.1.box.free 1
            simp only at x1
            have hwr := HX.out.2.2.2
            obtain ⟨Wz, hWz⟩ : ∃ W, W = w1.drew := ⟨_, rfl⟩
            have fb3 : LB (w1.drew.setCell ⟨g, 1, none⟩ (.int .i64 (t + ((S3.fo f).data.length : Int)))) f 75 [.slice a1 (S3.fo f).data.length c1, .int .i64 ((S3.fo f).syn : Int)] := by
              have h9 := HX.out.1.dm.fb f HX.out.2.2.1
              rw [hdv] at h9
              exact h9
            rw [← hWz] at fb x1 g1 HX fb3
            have hS0 := fb.cell 0 _ rfl
            have hS3 := fb3.cell 0 _ rfl
            clear hdv fb fb3
            go_upto_region 13 with fail
            refine wp_region_held_drew (S := fun W : World => W.cell? ⟨f, 0, none⟩ = some (.slice a1 (S3.fo f).data.length c1)) (by kernel_rfl) (by rw [← hWz]; exact hS0) (fun _ => ?_)
            rw [← hWz]
            clear hWz hen
            refine zqk 0 rfl hS0 ?_
            simp only [Act.put, zq1, zq2, zq3, zq4, zq5]
            refine zqk 1 rfl hS0 ?_
            simp only [Act.put, zq1, zq2, zq3, zq4, zq5, zq6]
            refine zqk 2 rfl hS0 ?_
            simp only [Act.put, zq1, zq2, zq3, zq4, zq5, zq6]
            refine zqk 4 rfl hS0 ?_
            simp only [Act.put, zq1, zq2, zq3, zq4, zq5, zq6]
            refine zqk 5 rfl hS0 ?_
            simp only [Act.put, zq1, zq2, zq3, zq4, zq5, zq6]
            refine zqk 6 rfl hS0 ?_
            simp only [Act.put, zq1, zq2, zq3, zq4, zq5, zq6]
            refine zqk 7 rfl hS0 ?_
            simp only [Act.put, zq1, zq2, zq3, zq4, zq5, zq6]
            refine zqk 8 rfl hS0 ?_
            simp only [Act.put, zq1, zq2, zq3, zq4, zq5, zq6]
            refine zqr 3 rfl (fun K hK => ?_)
            go_simp
            refine hK.out _ _ hS0 fun _ => ?_
            try simp only [Act.put, zq1, zq2, zq3, zq4, zq5, zq6]
            clear hK K
            refine zqk 9 rfl hS0 ?_
            simp only [Act.put, zq1, zq2, zq3, zq4, zq5, zq6]
            refine zqk 10 rfl hS0 ?_
            simp only [Act.put, zq1, zq2, zq3, zq4, zq5, zq6]
            refine zqk 11 rfl hS0 ?_
            simp only [Act.put, zq1, zq2, zq3, zq4, zq5, zq6]
            refine zqr 12 rfl (fun K hK => ?_)
            go_simp
            refine hK.out _ _ hS3 fun _ => ?_
            try simp only [Act.put, zq1, zq2, zq3, zq4, zq5, zq6]
            clear hK K
            refine wpAnyH_done (by kernel_rfl) ?_ _
            clear hS0 hS3 x1 g1
            go_wp2_with fail
            go_roundw
            case rel => exact ⟨_, _, _, HX.out.1⟩
            case measure =>
              rw [HX.out.1.rg.left_eq, HM.out.2]
              exact HM.out.1
    · obtain ⟨ce, hce⟩ : ∃ ce, ce = (Dk.cnt S).1 := ⟨_, rfl⟩
      have HE : Hid (Dk.sdE S = ce ∧ Dk.sd S = (Dk.cnt S).2) := by
        refine ⟨?_, ?_⟩
        · unfold Dk.sdE
          rw [if_pos HA.out, hce]
        · unfold Dk.sd
          rw [if_pos HA.out, if_neg hc0]
      rw [← hce] at hc0 ⊢
      have hd : (ce != 0) = true := by simp only [bne_iff_ne, ne_eq]; exact hc0
      clear hc0 hce
      go_wp2_with fail
      go_returns
      refine ⟨?_, ?_⟩
      · rw [HE.out.1]
        rfl
      · rw [HE.out.2]
        exact DPost.cnt HD2.out.2 HD2.out.1
  · obtain ⟨ae, hae⟩ : ∃ ae, ae = Dk.askE S [] := ⟨_, rfl⟩
    have HE : Hid (Dk.sdE S = ae ∧ Dk.sd S = S) := by
      refine ⟨?_, ?_⟩
      · unfold Dk.sdE
        rw [if_neg ha, hae]
      · unfold Dk.sd
        rw [if_neg ha]
    rw [← hae] at cA ha
    have hd : (ae != 0) = true := by simp only [bne_iff_ne, ne_eq]; exact ha
    clear hae ha cT
    go_enter Tryz.func26, Tryz.ntmps26
    go_wp2_with fail
    refine cA.mono ?_
    rintro e w' ⟨rfl, rfl⟩
    go_wp2_with fail
    go_returns
    refine ⟨?_, ?_⟩
    · rw [HE.out.1]
      rfl
    · rw [HE.out.2]
      exact DPost.same H0.out (Below.refl _ _)
end Go.Proofs.YtppabcihbpbfpaaGreatDoor

/-
  Package disk: files in a row; Files.
-/
namespace Go.Proofs.YtppabcihbpbfpaaGreatDoor
open Go Go.RowKit Go.ChangeShapes
open Wb

/-- files to be read: a name and bytes each; all their blocks are as told -/
structure Fls (ok : Nat → Prop) (w : World) (v : Value) (fs : List (List UInt8 × List Nat)) : Prop where
  sh : ∃ a c, v = .slice a fs.length c ∧ fs.length ≤ c ∧ c ≤ maxLen ∧ (fs ≠ [] → ∃ b off, a = some ⟨b, off, none⟩ ∧ ok b ∧ ∀ j (h : j < fs.length), w.cell? ⟨b, off + j * 2, none⟩ = some (enS fs[j].1) ∧ ∃ dv, w.cell? ⟨b, off + j * 2 + 1, none⟩ = some dv ∧ Bs w dv fs[j].2 ∧ ∀ q off2 n c2, dv = .slice (some ⟨q, off2, none⟩) n c2 → ok q)
theorem Fls.blk {ok : Nat → Prop} {w w' : World} {v : Value} {fs : List (List UInt8 × List Nat)} (h : Fls ok w v fs) (hb : ∀ q, ok q → q < w.heap.size → w'.heap[q]? = w.heap[q]?) : Fls ok w' v fs := by
  obtain ⟨a, c, e, h1, h2, h3⟩ := h.sh
  refine ⟨a, c, e, h1, h2, fun hne => ?_⟩
  obtain ⟨b, off, e2, hok, hc⟩ := h3 hne
  refine ⟨b, off, e2, hok, fun j hj => ?_⟩
  obtain ⟨c1, dv, c2, c3, c4⟩ := hc j hj
  have key : ∀ o x, w.cell? ⟨b, o, none⟩ = some x → w'.cell? ⟨b, o, none⟩ = some x := fun o x hx => by
    have hlt : b < w.heap.size := World.block_lt_of_cell? _ _ hx
    simp only [World.cell?] at hx ⊢
    rw [hb b hok hlt]
    exact hx
  exact ⟨key _ _ c1, dv, key _ _ c2, bs_blk c3 fun q ⟨o2, n, c9, e9⟩ hlt => hb q (c4 q o2 n c9 e9) hlt, c4⟩
theorem Fls.kept {ok : Nat → Prop} {w w' : World} {v : Value} {fs : List (List UInt8 × List Nat)} (h : Fls ok w v fs) (hb : Below w.heap.size w w') : Fls ok w' v fs := h.blk fun q _ hq => hb.block q hq
theorem Fls.mono {ok ok2 : Nat → Prop} {w : World} {v : Value} {fs : List (List UInt8 × List Nat)} (h : Fls ok w v fs) (hm : ∀ q, ok q → ok2 q) : Fls ok2 w v fs := by
  obtain ⟨a, c, e, h1, h2, h3⟩ := h.sh
  refine ⟨a, c, e, h1, h2, fun hne => ?_⟩
  obtain ⟨b, off, e2, hok, hc⟩ := h3 hne
  refine ⟨b, off, e2, hm b hok, fun j hj => ?_⟩
  obtain ⟨c1, dv, c2, c3, c4⟩ := hc j hj
  exact ⟨c1, dv, c2, c3, fun q o n c e => hm q (c4 q o n c e)⟩
/-- a file's two cells -/
def enF (x : List UInt8 × Value × List Nat) : List Value := [enS x.1, x.2.1]
theorem flatF_len (cs : List (List UInt8 × Value × List Nat)) : (cs.flatMap enF).length = cs.length * 2 := by
  induction cs with
  | nil => rfl
  | cons x r ih => rw [List.flatMap_cons, List.length_append, ih, List.length_cons]; simp [enF]; omega
theorem flatF_at : ∀ (cs : List (List UInt8 × Value × List Nat)) (j : Nat) (h : j < cs.length), (cs.flatMap enF)[j * 2]? = some (enS cs[j].1) ∧ (cs.flatMap enF)[j * 2 + 1]? = some cs[j].2.1
  | [], j, h => by simp at h
  | x :: r, 0, _ => by simp [enF]
  | x :: r, j + 1, h => by
    have hj : j < r.length := by simpa using h
    obtain ⟨h1, h2⟩ := flatF_at r j hj
    rw [List.flatMap_cons, show (j + 1) * 2 = (enF x).length + j * 2 by simp [enF]; omega, show (enF x).length + j * 2 + 1 = (enF x).length + (j * 2 + 1) by omega, List.getElem?_append_right (by omega), List.getElem?_append_right (by omega), Nat.add_sub_cancel_left, Nat.add_sub_cancel_left]
    simp only [List.getElem_cons_succ]
    exact ⟨h1, h2⟩
/-- files in a row of the call's own, their bytes in rows of their own -/
structure FO (B : Nat) (w : World) (o : Value) (xs : List (List UInt8 × Value × List Nat)) : Prop where
  row : w.ownsRow B 34 2 o xs.length (xs.flatMap enF)
  own : ∀ x ∈ xs, Own B w x.2.1 x.2.2
theorem FO.kept {B : Nat} {w w' : World} {o : Value} {xs : List (List UInt8 × Value × List Nat)} (h : FO B w o xs) (hb : Below w.heap.size w w') : FO B w' o xs := ⟨Mg.row_kept h.row hb, fun x hx => (h.own x hx).kept hb⟩
theorem FO.nil (B : Nat) (w : World) : FO B w (.slice none 0 0) [] := ⟨World.ownsRow_nil _ _ _ _, fun x hx => by cases hx⟩
theorem FO.fls {B : Nat} {w : World} {o : Value} {xs : List (List UInt8 × Value × List Nat)} (h : FO B w o xs) : Fls (B ≤ ·) w o (xs.map fun x => (x.1, x.2.2)) := by
  obtain ⟨a, c, e, h1, h2⟩ := Mg.row_shape h.row
  refine ⟨a, c, by rw [List.length_map]; exact e, by rw [List.length_map]; exact h1, h2, fun hne => ?_⟩
  have hne2 : xs ≠ [] := fun e2 => hne (by rw [e2]; rfl)
  rcases h.row.2 with ⟨e3, h0⟩ | ⟨b, c', cur, e3, hB, -⟩
  · exact absurd (List.eq_nil_of_length_eq_zero h0) hne2
  · rw [e] at e3
    simp only [Value.slice.injEq] at e3
    refine ⟨b, 0, e3.1, hB, fun j hj => ?_⟩
    have hj2 : j < xs.length := by rw [List.length_map] at hj; exact hj
    obtain ⟨f0, f1⟩ := flatF_at xs j hj2
    have hr := h.row
    rw [e, e3.1] at hr
    have c0 := World.ownsRow.cellAt hr (j * 2) (by omega)
    have c1 := World.ownsRow.cellAt hr (j * 2 + 1) (by omega)
    rw [f0] at c0
    rw [f1] at c1
    simp only [List.getElem_map, Nat.zero_add]
    refine ⟨c0, xs[j].2.1, c1, (h.own _ (List.getElem_mem hj2)).bs, fun q o2 n c2 e9 => ?_⟩
    rcases (h.own _ (List.getElem_mem hj2)).shape with ⟨e8, -⟩ | ⟨g8, c8, e8, hB8, -⟩
    · rw [e9] at e8
      simp at e8
    · rw [e9] at e8
      simp only [Value.slice.injEq, Option.some.injEq, Addr.mk.injEq] at e8
      rw [e8.1.1]
      exact hB8
theorem infoF : (Tryz.prog.info? 34).map (fun i => (i.zero, i.size, i.bytes)) = some (some (.agg #[.string ⟨#[]⟩, .slice none 0 0]), 2, 40) := by kernel_rfl
/-- append of one file, its run -/
theorem FO.app {B : Nat} {w : World} {o : Value} {xs : List (List UInt8 × Value × List Nat)} (h : FO B w o xs) (ty : TypeId) (x : List UInt8 × Value × List Nat) (hx : Own B w x.2.1 x.2.2) (g c : Nat) (hc : LB w g 34 (enF x)) (hmax : xs.length ≤ 1000000000) (hB : B ≤ w.heap.size) : ∃ o' w', (Builtin.append_ #[25, 25] ty #[o, .slice (some ⟨g, 0, none⟩) 1 c]).run Tryz.prog w = .ok o' w' ∧ FO B w' o' (xs ++ [x]) ∧ Below B w w' := by
  obtain ⟨i0, hi, hq⟩ := Option.map_eq_some_iff.1 infoF
  simp only [Prod.mk.injEq] at hq
  obtain ⟨v', w', hr, h2, h3, -, h5⟩ := run_append_own_at (P := Tryz.prog) w B 25 ty 34 i0 _ 2 40 Tryz.underlying25 hi hq.1 hq.2.1 hq.2.2 rfl (by decide) o xs.length _ h.row ⟨g, 0, none⟩ 1 c (enF x) rfl (fun j u hj => by
    rw [Addr.add_lit, Nat.zero_add]
    exact hc.cell j u hj) (fun u hu => by
      simp [enF] at hu
      rcases hu with rfl | rfl
      · rfl
      · obtain ⟨a9, c9, e9, -⟩ := Mg.row_shape hx.row
        rw [e9]
        rfl) (by unfold maxLen; omega) (by omega) hB
  have oth : ∀ y : Value × List Nat, Own B w y.1 y.2 → Own B w' y.1 y.2 := fun y hy => ⟨Mg.row_other hy.row h3 fun q e e2 => by
    obtain ⟨cur, k1⟩ := Mg.row_type hy.row q e
    obtain ⟨cur2, k2⟩ := Mg.row_type h.row q e2
    rw [k1] at k2
    simp at k2, hy.good⟩
  refine ⟨v', w', hr, ⟨?_, fun y hy => ?_⟩, (Below.refl B w).grown h3 hB fun k e => (World.ownsRow.lt h.row k e).1⟩
  · rw [List.length_append, List.flatMap_append]
    simpa using h2
  · rcases List.mem_append.1 hy with e | e
    · exact oth y.2 (h.own y e)
    · rw [List.mem_singleton.1 e]
      exact oth x.2 hx
namespace Dk
/-- what Files tells -/
def files (S : DS) : List (List UInt8 × List Nat) := S.nm.map fun p => (p.1, (S.fo p.2).data)
end Dk
set_option maxRecDepth 100000 in
set_option maxHeartbeats 8000000 in
theorem dkfiles_any (B g : Nat) (S : Dk.DS) (M : Mm) (w : World) (h : DM B w g S M) (hid : ∀ p ∈ S.nm, p.2 ∈ S.ids ∧ p.1.length ≤ 1000) (hln : ∀ f ∈ S.ids, (S.fo f).data.length ≤ 1000000000) (hn : S.nm.length ≤ 1000000000) :
    Calls Tryz.prog 12 #[.pointer (some ⟨g, 0, none⟩)] w fun e w' => ∃ v, e = .returned v ∧ Fls (w.heap.size ≤ ·) w' v (Dk.files S) ∧ Below w.heap.size w w' := by
  have H0 : Hid (∀ W, Below w.heap.size w W → DM B W g S M) := fun W hW => h.kept hW
  have x2 := h.box.cell 2 _ rfl
  have HR : Hid (Calls Tryz.prog 31 #[.map M.mn] w fun e w' => ∃ v, e = .returned v ∧ w'.ownsRow w.heap.size 9 1 v S.nm.length (S.nm.map fun p => enS p.1) ∧ Below w.heap.size w w') := dkrising_any M.mn S.nm w h.nm hn
  have HI : Hid ((∀ p ∈ S.nm, p.2 ∈ S.ids ∧ p.1.length ≤ 1000) ∧ (∀ f ∈ S.ids, (S.fo f).data.length ≤ 1000000000) ∧ Dk.rising S.nm) := ⟨hid, hln, h.nm.1⟩
  clear h hid hln
  go_enter Tryz.func12, Tryz.ntmps12
  go_wp2_with fail
  refine HR.out.mono ?_
  rintro e W1 ⟨nv, rfl, r1, b1⟩
  obtain ⟨na, nc, hnv, hn1, hn2⟩ := Mg.row_shape r1
  subst hnv
  have H1 : Hid (W1.ownsRow w.heap.size 9 1 (.slice na S.nm.length nc) S.nm.length (S.nm.map fun p => enS p.1) ∧ Below w.heap.size w W1) := ⟨r1, b1⟩
  unfold maxLen at hn2
  clear r1 b1 HR x2
  go_wp2_with fail
  go_loopw [3, 12] (fun o i wr => ∃ (k : Nat) (xs : List (List UInt8 × Value × List Nat)), k ≤ S.nm.length ∧ i = .int .i64 (k : Int) ∧ FO W1.heap.size wr o xs ∧ (xs.map fun x => (x.1, x.2.2)) = (Dk.files S).take k ∧ Below W1.heap.size W1 wr) (fun _ i _ => S.nm.length - (intOf i).toNat)
  case atStart => exact ⟨0, [], Nat.zero_le _, rfl, FO.nil _ _, rfl, Below.refl _ _⟩
  case round =>
    obtain ⟨k, xs, hk, rfl, hfo, hxs, hb⟩ := hrel
    have HF : Hid (FO W1.heap.size wr u3 xs ∧ (xs.map fun x => (x.1, x.2.2)) = (Dk.files S).take k ∧ Below W1.heap.size W1 wr) := ⟨hfo, hxs, hb⟩
    have HBW : Hid (Below w.heap.size w wr) := andThen H1.out.2 hb
    clear hfo hxs hb
    by_cases hlt : k < S.nm.length
    · obtain ⟨p, hp⟩ : ∃ p, p = S.nm[k] := ⟨_, rfl⟩
      have HPM : Hid (p ∈ S.nm ∧ (Dk.files S).take (k + 1) = (Dk.files S).take k ++ [(p.1, (S.fo p.2).data)] ∧ S.nm[k]? = some p) := by
        refine ⟨by rw [hp]; exact List.getElem_mem hlt, ?_, by rw [hp]; exact List.getElem?_eq_getElem hlt⟩
        unfold Dk.files
        rw [List.take_succ_eq_append_getElem (by rw [List.length_map]; exact hlt), List.getElem_map, hp]
      clear hp
      obtain ⟨nm, f⟩ := p
      have HFI : Hid (f ∈ S.ids ∧ nm.length ≤ 1000) := HI.out.1 _ HPM.out.1
      obtain ⟨gn, hgn⟩ : ∃ gn, na = some ⟨gn, 0, none⟩ := by
        rcases H1.out.1.2 with ⟨e, e0⟩ | ⟨gn, c7, cur7, e, -⟩
        · omega
        · simp only [Value.slice.injEq] at e
          exact ⟨gn, e.1⟩
      subst hgn
      have y0 : wr.cell? ⟨gn, k, none⟩ = some (.string ⟨nm.toArray⟩) := by
        have e := World.ownsRow.cellAt (Mg.row_kept H1.out.1 HF.out.2.2) k (by omega)
        rw [e, List.getElem?_map, HPM.out.2.2]
        rfl
      have dW := H0.out wr HBW.out
      have y2 := dW.box.cell 2 _ rfl
      have yl := dW.nm.look ⟨nm.toArray⟩ (show nm.toArray.size ≤ maxLen by have := HFI.out.2; simp [maxLen]; omega)
      have egt : Dk.get S.nm (⟨nm.toArray⟩ : ByteArray).data.toList = some f := by
        have e : (⟨nm.toArray⟩ : ByteArray).data.toList = nm := by simp
        rw [e]
        exact Dk.mem_get HI.out.2.2 HPM.out.1
      rw [egt] at yl
      unfold fpo fp at yl
      obtain ⟨a1, c1, hdv, -⟩ := Mg.row_shape (dW.fd f HFI.out.1).row
      have fb := dW.fb f HFI.out.1
      have ow := dW.fd f HFI.out.1
      rw [hdv] at fb ow
      have x0 := fb.cell 0 _ rfl
      have HCL : Hid (Calls Tryz.prog 33 #[.slice a1 (S.fo f).data.length c1] wr fun e w' => ∃ v', e = .returned v' ∧ Own wr.heap.size w' v' (S.fo f).data ∧ Below wr.heap.size wr w') := bclone_any _ _ wr ow.bs (by have := HI.out.2.1 f HFI.out.1; omega)
      clear dW egt fb ow hdv
      go_wp2_with fail
      refine HCL.out.mono ?_
      rintro e W2 ⟨v2, rfl, o2, b2⟩
      obtain ⟨a2, k2, c2, hv2⟩ : ∃ (x : Option Addr) (y z : Nat), v2 = .slice x y z := by
        obtain ⟨x, z, e, -⟩ := Mg.row_shape o2.row
        exact ⟨x, _, z, e⟩
      subst hv2
      have b3 := up0 W2 (.cells #[.string ⟨nm.toArray⟩, .slice a2 k2 c2] 34)
      have L3 : LB (W2.alloc (.cells #[.string ⟨nm.toArray⟩, .slice a2 k2 c2] 34)) W2.heap.size 34 (enF (nm, .slice a2 k2 c2, (S.fo f).data)) := lb_new W2 [.string ⟨nm.toArray⟩, .slice a2 k2 c2] 34
      have f3 := (HF.out.1.kept b2).kept b3
      have xl : xs.length ≤ 1000000000 := by
        have h9 := congrArg List.length HF.out.2.1
        rw [List.length_map, List.length_take] at h9
        omega
      obtain ⟨o4, W4, hr4, f4, b4⟩ := f3.app 25 (nm, .slice a2 k2 c2, (S.fo f).data) ((o2.mono HF.out.2.2.size).kept b3) W2.heap.size 1 L3 xl (Nat.le_trans HF.out.2.2.size (Nat.le_trans b2.size b3.size))
      have H4 : Hid (FO W1.heap.size W4 o4 (xs ++ [(nm, .slice a2 k2 c2, (S.fo f).data)]) ∧ (xs ++ [(nm, Value.slice a2 k2 c2, (S.fo f).data)]).map (fun x => (x.1, x.2.2)) = (Dk.files S).take (k + 1) ∧ Below W1.heap.size W1 W4) := by
        refine ⟨f4, ?_, ?_⟩
        · rw [List.map_append, HF.out.2.1, HPM.out.2.1]
          rfl
        · exact (andThen (andThen HF.out.2.2 b2) b3).trans b4
      clear L3 f3 xl f4 b4 b3 o2 b2 HCL x0 yl y2 y0
      go_wp2_with (at_builtin; refine wpList_appRun rfl (.tmp 16) (.tmp 29) 25 rfl rfl rfl hr4 ?_)
      clear hr4
      go_wp2_with fail
      go_roundw
      case rel => exact ⟨k + 1, _, by omega, by go_num, H4.out.1, H4.out.2.1, H4.out.2.2⟩
      case measure => simp [intOf]; omega
    · have HE : Hid ((xs.map fun x => (x.1, x.2.2)) = Dk.files S) := by
        have h9 := HF.out.2.1
        rw [List.take_of_length_le (by unfold Dk.files; rw [List.length_map]; omega)] at h9
        exact h9
      go_wp2_with fail
      go_returns
      refine ⟨_, rfl, ?_, HBW.out⟩
      rw [← HE.out]
      exact HF.out.1.fls.mono fun q hq => Nat.le_trans H1.out.2.size hq
end Go.Proofs.YtppabcihbpbfpaaGreatDoor
