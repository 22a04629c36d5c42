/-
  Package disk: a map of names in memory; a disk in memory.
-/
import Derived.Test.YtjepeeopjjnglaaDk0
import Derived.Test.YtjepeeopjjnglaaMg1
import Derived.Sort.KeysCollected
namespace Go.Proofs.Ytjepeeopjjnglaa
open Go Go.RowKit Go.ChangeShapes
open Wb

/-- every block stays but those of F -/
structure IFr (w w' : World) (F : Nat → Prop) : Prop where
  os : w'.os = w.os
  tape : w'.tape = w.tape
  output : w'.output = w.output
  size : w.heap.size ≤ w'.heap.size
  block : ∀ k, k < w.heap.size → ¬ F k → w'.heap[k]? = w.heap[k]?
theorem IFr.trans {w w1 w2 : World} {F F2 : Nat → Prop} (h : IFr w w1 F) (h2 : IFr w1 w2 F2) (hF : ∀ k, k < w.heap.size → F2 k → F k) : IFr w w2 F :=
  ⟨h2.os.trans h.os, h2.tape.trans h.tape, h2.output.trans h.output, Nat.le_trans h.size h2.size, fun k hk hn => (h2.block k (Nat.lt_of_lt_of_le hk h.size) fun e => hn (hF k hk e)).trans (h.block k hk hn)⟩
theorem IFr.of {w w' : World} {F : Nat → Prop} {b : Option Nat} (h : w.grownBy w' b) (hb : ∀ k, k < w.heap.size → b = some k → F k) : IFr w w' F :=
  ⟨h.os, h.tape, h.output, h.size, fun k hk hn => h.block k hk fun e => hn (hb k hk e.symm)⟩
theorem IFr.refl (w : World) (F : Nat → Prop) : IFr w w F := ⟨rfl, rfl, rfl, Nat.le_refl _, fun _ _ _ => rfl⟩
theorem IFr.below {w w' : World} {F : Nat → Prop} (h : IFr w w' F) (B : Nat) (hB : B ≤ w.heap.size) (hF : ∀ k, F k → B ≤ k) : Below B w w' :=
  ⟨h.os, h.tape, h.output, h.size, fun k hk => h.block k (Nat.lt_of_lt_of_le hk hB) fun e => by have := hF k e; omega⟩
theorem IFr.mono {w w' : World} {F F2 : Nat → Prop} (h : IFr w w' F) (hF : ∀ k, F k → F2 k) : IFr w w' F2 := ⟨h.os, h.tape, h.output, h.size, fun k hk hn => h.block k hk fun e => hn (hF k e)⟩
theorem IFr.kept {w w' : World} {F : Nat → Prop} (h : Below w.heap.size w w') : IFr w w' F := ⟨h.os, h.tape, h.output, h.size, fun k hk _ => h.block k hk⟩
theorem grown_none {w w' : World} (h : Below w.heap.size w w') (row : Option Nat) : w.grownBy w' row := ⟨h.os, h.tape, h.output, h.size, fun k hk _ => h.block k hk⟩

/-- a pointer to a file -/
def fp (f : Nat) : Value := .pointer (some ⟨f, 0, none⟩)
/-- what a pointer to a file reads as -/
def fpR : Value → Option (DataW Unit × List MemPlace)
  | .pointer none => some (.nil, [])
  | .pointer (some ⟨b, 0, none⟩) => some (.lit (.int .i64 (b : Int)), [])
  | _ => none
theorem fpR_fp (f : Nat) : fpR (fp f) = some (.lit (.int .i64 (f : Int)), []) := rfl
theorem fpR_inv {v : Value} {f : Nat} {ps : List MemPlace} (h : fpR v = some (.lit (.int .i64 (f : Int)), ps)) : v = fp f := by
  unfold fpR at h
  split at h
  · simp at h
  · rename_i b
    simp at h
    have e : b = f := by omega
    rw [e]
    rfl
  · cases h
theorem fpR_nil {v : Value} {ps : List MemPlace} (h : fpR v = some (.nil, ps)) : v = .pointer none := by
  unfold fpR at h
  split at h
  · rfl
  · simp at h
  · cases h
/-- what a name's pointer is -/
def fpo : Option Nat → Value
  | none => .pointer none
  | some f => fp f
theorem lawS : Maps.Keyed Try.prog 9 := Maps.string_keyed Try.underlying9
theorem keyS {s : ByteArray} (h : s.size ≤ maxLen) : keyOf Try.prog 9 (.string s) = some (.string s.data.toList) := WideMaps.keyOf_string_mk Try.underlying9 h
theorem zeroF (w : World) : (zeroValue 85).run Try.prog w = .ok (.pointer none) w := by kernel_rfl
theorem tight {H : Type} {P : Program} {k : TypeId} {R : Value → Option (DataW H × List MemPlace)} {w : World} {b n : Nat} {D : DataW H} (h : w.ownsMap P k R b n D) : w.ownsMap P k R b (Maps.size D) D := by
  obtain ⟨es, clock, hb, F, hs, rfl⟩ := h
  exact ⟨es, clock, hb, F, by rw [Maps.size_eq, length_read]; exact Nat.le_refl _, rfl⟩
/-- a map of names, or nil -/
def MpA (w : World) (m : Option Nat) (l : Dk.Nm) : Prop := Dk.rising l ∧ ((m = none ∧ l = []) ∨ ∃ b, m = some b ∧ w.ownsMap Try.prog 9 fpR b l.length (Dk.dm l))
section
variable {w w' : World} {m : Option Nat} {l : Dk.Nm}
theorem MpA.own (hr : Dk.rising l) {b n : Nat} (h : w.ownsMap Try.prog 9 fpR b n (Dk.dm l)) : MpA w (some b) l := ⟨hr, .inr ⟨b, rfl, by have h9 := tight h; rw [Dk.dm_size] at h9; exact h9⟩⟩
theorem MpA.blk (h : MpA w m l) (hb : ∀ b, m = some b → w'.heap[b]? = w.heap[b]?) : MpA w' m l := by
  refine ⟨h.1, ?_⟩
  rcases h.2 with h1 | ⟨b, e, es, clock, h2, h3⟩
  · exact .inl h1
  · exact .inr ⟨b, e, es, clock, (hb b e).trans h2, h3⟩
theorem MpA.lt (h : MpA w m l) (b : Nat) (e : m = some b) : b < w.heap.size := by
  rcases h.2 with ⟨h1, -⟩ | ⟨b', e', h2⟩
  · rw [h1] at e
    cases e
  · rw [e'] at e
    obtain rfl := Option.some.inj e
    exact h2.lt
theorem MpA.obj (h : MpA w m l) (b : Nat) (e : m = some b) : ∃ es clock, w.heap[b]? = some (.map es clock) := by
  rcases h.2 with ⟨h1, -⟩ | ⟨b', e', es, clock, h2, -⟩
  · rw [h1] at e
    cases e
  · rw [e'] at e
    obtain rfl := Option.some.inj e
    exact ⟨es, clock, h2⟩
theorem MpA.kept (h : MpA w m l) (hb : Below w.heap.size w w') : MpA w' m l := h.blk fun b e => hb.block b (h.lt b e)
/-- what stands at a name -/
theorem MpA.look (h : MpA w m l) (s : ByteArray) (hs : s.size ≤ maxLen) : (Instr.lookup 79 (.map m) (.string s) false).run Try.prog w = .ok (fpo (Dk.get l s.data.toList)) w := by
  rcases h.2 with ⟨rfl, rfl⟩ | ⟨b, rfl, h2⟩
  · exact Maps.look_nil (k := 9) (e := 85) false lawS Try.underlying79 (zeroF w) (keyS hs)
  · obtain ⟨v, ps, hrun, hR⟩ := h2.lookup lawS Try.underlying79 (zeroF w) (show fpR (.pointer none) = some (.nil, []) from rfl) (keyS hs)
    rw [hrun]
    rw [Dk.dm_at] at hR
    cases hg : Dk.get l s.data.toList with
    | none =>
      rw [hg] at hR
      rw [fpR_nil hR]
      rfl
    | some f =>
      rw [hg] at hR
      rw [fpR_inv hR]
      rfl
/-- a name is given -/
theorem MpA.put {b : Nat} (h : MpA w (some b) l) (s : ByteArray) (hs : s.size ≤ maxLen) (f : Nat) (hn : l.length < maxLen) : ∃ w', (Instr.mapUpdate 79 (.map (some b)) (.string s) (fp f)).run Try.prog w = .ok () w' ∧ MpA w' (some b) (Dk.put l s.data.toList f) ∧ w.grownBy w' (some b) := by
  rcases h.2 with ⟨e, -⟩ | ⟨b', e, h2⟩
  · cases e
  · obtain rfl := Option.some.inj e
    obtain ⟨w', hrun, h3, h4⟩ := h2.store lawS Try.underlying79 hn (keyS hs) (fpR_fp f)
    rw [Dk.dm_put] at h3
    exact ⟨w', hrun, MpA.own (Dk.rising_put h.1 _ _) h3, h4.grown⟩
/-- a name is taken away -/
theorem MpA.del (h : MpA w m l) (s : ByteArray) (hs : s.size ≤ maxLen) (ty : TypeId) : ∃ w', (Builtin.delete_ #[79, 9] ty #[.map m, .string s]).run Try.prog w = .ok (.tuple #[]) w' ∧ MpA w' m (Dk.del l s.data.toList) ∧ w.grownBy w' m := by
  rcases h.2 with ⟨rfl, rfl⟩ | ⟨b, rfl, h2⟩
  · exact ⟨w, Maps.drop_nil (k := 9) (e := 85) lawS Try.underlying79 (keyS hs) ty, ⟨List.Pairwise.nil, .inl ⟨rfl, rfl⟩⟩, ⟨rfl, rfl, rfl, Nat.le_refl _, fun _ _ _ => rfl⟩⟩
  · obtain ⟨w', hrun, h3, h4⟩ := h2.drop lawS Try.underlying79 (keyS hs) ty
    rw [Dk.dm_del] at h3
    exact ⟨w', hrun, MpA.own (Dk.rising_del h.1 _) h3, h4.grown⟩
end
namespace Dk
/-- a file: its bytes, how many are synced -/
structure Fl where
  data : List Nat
  syn : Nat
/-- a name change -/
structure Ch where
  frm : List UInt8
  tow : List UInt8
  f : Option Nat
/-- what stands on a disk -/
structure DS where
  quota : Int
  taken : Int
  nm : Nm
  la : Nm
  ch : List Ch
  armed : Bool
  left : Int
  down : Bool
  ids : List Nat
  fo : Nat → Fl
/-- the names behind a change -/
def Ch.app (c : Ch) (l : Nm) : Nm := if c.tow = [] then del l c.frm else put (del l c.frm) c.tow (c.f.getD 0)
end Dk
def enS (l : List UInt8) : Value := .string ⟨l.toArray⟩
def enC (c : Dk.Ch) : List Value := [enS c.frm, enS c.tow, fpo c.f]
/-- where a disk's parts lie -/
structure Mm where
  mn : Option Nat
  ml : Option Nat
  vc : Value
  dv : Nat → Value
def dkc (S : Dk.DS) (M : Mm) : List Value := [.int .i64 S.quota, .int .i64 S.taken, .map M.mn, .map M.ml, M.vc, .bool S.armed, .int .i64 S.left, .bool S.down]
/-- a disk in memory -/
structure DM (B : Nat) (w : World) (g : Nat) (S : Dk.DS) (M : Mm) : Prop where
  box : LB w g 82 (dkc S M)
  nm : MpA w M.mn S.nm
  la : MpA w M.ml S.la
  ch : w.ownsRow B 96 3 M.vc S.ch.length (S.ch.flatMap enC)
  fb : ∀ f ∈ S.ids, LB w f 84 [M.dv f, .int .i64 ((S.fo f).syn : Int)]
  fd : ∀ f ∈ S.ids, Own B w (M.dv f) (S.fo f).data
  ap : ∀ f ∈ S.ids, ∀ f' ∈ S.ids, f ≠ f' → ∀ q, (M.dv f).ownBlock = some q → (M.dv f').ownBlock ≠ some q
  ne : ∀ b, M.mn = some b → M.ml ≠ some b
  gB : B ≤ g
  mB : ∀ b, M.mn = some b ∨ M.ml = some b → B ≤ b
  fB : ∀ f ∈ S.ids, B ≤ f
/-- the blocks of a disk -/
def Ft (g : Nat) (S : Dk.DS) (M : Mm) (q : Nat) : Prop := q = g ∨ M.mn = some q ∨ M.ml = some q ∨ M.vc.ownBlock = some q ∨ ∃ f ∈ S.ids, q = f ∨ (M.dv f).ownBlock = some q
section
variable {B : Nat} {w w' : World} {g : Nat} {S : Dk.DS} {M : Mm}
theorem DM.ft (h : DM B w g S M) {q : Nat} (hq : Ft g S M q) : B ≤ q ∧ q < w.heap.size := by
  rcases hq with rfl | e | e | e | ⟨f, hf, rfl | e⟩
  · exact ⟨h.gB, h.box.lt⟩
  · exact ⟨h.mB q (.inl e), h.nm.lt q e⟩
  · exact ⟨h.mB q (.inr e), h.la.lt q e⟩
  · exact World.ownsRow.lt h.ch q e
  · exact ⟨h.fB q hf, (h.fb q hf).lt⟩
  · exact World.ownsRow.lt (h.fd f hf).1 q e
/-- none of its blocks changes -/
theorem DM.blk (h : DM B w g S M) (hb : ∀ q, Ft g S M q → w'.heap[q]? = w.heap[q]?) : DM B w' g S M :=
  ⟨(hb g (.inl rfl)).trans h.box, h.nm.blk fun b e => hb b (.inr (.inl e)), h.la.blk fun b e => hb b (.inr (.inr (.inl e))), Mg.row_block h.ch fun q e => hb q (.inr (.inr (.inr (.inl e)))), fun f hf => (hb f (.inr (.inr (.inr (.inr ⟨f, hf, .inl rfl⟩))))).trans (h.fb f hf), fun f hf => ⟨Mg.row_block (h.fd f hf).1 fun q e => hb q (.inr (.inr (.inr (.inr ⟨f, hf, .inr e⟩)))), (h.fd f hf).2⟩, h.ap, h.ne, h.gB, h.mB, h.fB⟩
theorem DM.kept (h : DM B w g S M) (hb : Below w.heap.size w w') : DM B w' g S M := h.blk fun q hq => hb.block q (h.ft hq).2
end
end Go.Proofs.Ytjepeeopjjnglaa
