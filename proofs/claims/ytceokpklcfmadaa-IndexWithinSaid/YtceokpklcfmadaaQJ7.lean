import Derived.Deep.Onto
import Derived.Test.YtceokpklcfmadaaQJ3
import Derived.Test.YtceokpklcfmadaaQJ6
import Derived.Test.YtceokpklcfmadaaQJ5
import Derived.Test.YtceokpklcfmadaaQIC
/-
  IndexRound: rows of numbers beside a Multi.
-/
namespace Go.Proofs.Ytceokpklcfmadaa
open Go Go.RowKit Go.ChangeShapes
open Wb

theorem ownsRow_blk {W W' : World} {B : Nat} {e : TypeId} {s : Nat} {v : Value} {n : Nat} {xs : List Value} (h : W.ownsRow B e s v n xs) (hb : ∀ k, v.ownBlock = some k → W'.heap[k]? = W.heap[k]?) : W'.ownsRow B e s v n xs := by
  refine ⟨h.1, ?_⟩
  rcases h.2 with h1 | ⟨g, cap, cur, rfl, h1, hg, rest⟩
  · exact .inl h1
  · exact .inr ⟨g, cap, cur, rfl, h1, (hb g rfl).trans hg, rest⟩
theorem ownsRow_cells {W : World} {B : Nat} {e : TypeId} {s : Nat} {v : Value} {n : Nat} {xs : List Value} (h : W.ownsRow B e s v n xs) {k : Nat} (hk : v.ownBlock = some k) : ∃ cs z, W.heap[k]? = some (.cells cs e z) := by
  rcases h.2 with ⟨e1, -⟩ | ⟨g, cap, cur, e1, -, hg, -⟩
  · rw [e1] at hk
    cases hk
  · rw [e1] at hk
    obtain rfl := Option.some.inj hk
    exact ⟨_, _, hg⟩
abbrev ivs (zs : List Int) : List Value := zs.map (Value.int .i64)
/-- rows of numbers, each in a block of its own, none of them the container's -/
structure IR (w : World) (b : Nat) (W : World) (rs : List (Value × List Int)) : Prop where
  own : ∀ p ∈ rs, W.ownsRow w.heap.size 3 1 p.1 p.2.length (ivs p.2)
  off : ∀ p ∈ rs, ∀ q, p.1.ownBlock = some q → ¬ Mrow W b q
  ap : rs.Pairwise (fun p q => ∀ k, p.1.ownBlock = some k → q.1.ownBlock ≠ some k)
section
variable {w : World} {b : Nat} {W W' : World} {rs : List (Value × List Int)}
theorem IR.blk (h : IR w b W rs) (hb : ∀ p ∈ rs, ∀ k, p.1.ownBlock = some k → W'.heap[k]? = W.heap[k]?) (hM : ∀ q, Mrow W' b q → Mrow W b q ∨ W.heap.size ≤ q) : IR w b W' rs := by
  refine ⟨fun p hp => ownsRow_blk (h.own p hp) (hb p hp), fun p hp q e hm => ?_, h.ap⟩
  rcases hM q hm with h1 | h1
  · exact h.off p hp q e h1
  · have := (World.ownsRow.lt (h.own p hp) q e).2
    omega
theorem IR.kept (h : IR w b W rs) (hb : Below W.heap.size W W') (hlt : b < W.heap.size) : IR w b W' rs :=
  h.blk (fun p hp k e => hb.block k (World.ownsRow.lt (h.own p hp) k e).2) fun _ hq => .inl (hq.same (hb.block b hlt))
theorem IR.swap {p q : Value × List Int} (h : IR w b W (p :: q :: rs)) : IR w b W (q :: p :: rs) := by
  have ha := h.ap
  rw [List.pairwise_cons, List.pairwise_cons] at ha
  refine ⟨fun x hx => h.own x ?_, fun x hx => h.off x ?_, List.pairwise_cons.2 ⟨fun x hx => ?_, List.pairwise_cons.2 ⟨fun x hx => ha.1 x (List.mem_cons_of_mem _ hx), ha.2.2⟩⟩⟩
  · simp only [List.mem_cons] at hx ⊢
    rcases hx with h1 | h1 | h1
    · exact .inr (.inl h1)
    · exact .inl h1
    · exact .inr (.inr h1)
  · simp only [List.mem_cons] at hx ⊢
    rcases hx with h1 | h1 | h1
    · exact .inr (.inl h1)
    · exact .inl h1
    · exact .inr (.inr h1)
  · rcases List.mem_cons.1 hx with rfl | hx
    · exact fun k e e2 => ha.1 q List.mem_cons_self k e2 e
    · exact ha.2.1 x hx
theorem IR.nil (h : IR w b W rs) : IR w b W ((.slice none 0 0, []) :: rs) := by
  refine ⟨fun p hp => ?_, fun p hp q e => ?_, List.pairwise_cons.2 ⟨fun x _ k e => (by cases e), h.ap⟩⟩
  · rcases List.mem_cons.1 hp with rfl | hp
    · exact World.ownsRow_nil _ _ _ _
    · exact h.own p hp
  · rcases List.mem_cons.1 hp with rfl | hp
    · cases e
    · exact h.off p hp q e
/-- one more number in the first row -/
theorem IR.app {g base n : Nat} {kvs : Ix.Gm} {v u : Value} {zs : List Int} (h : IR w b W ((v, zs) :: rs)) (hm : MI W g b base n kvs) (x : Int) (W1 W2 : World) (b1 : Below W.heap.size W W1) (hr : W2.ownsRow w.heap.size 3 1 u (zs ++ [x]).length (ivs (zs ++ [x]))) (hg : W1.grownBy W2 v.ownBlock) (hat : u.ownBlock = v.ownBlock ∨ u.ownBlock = some W1.heap.size) :
    IR w b W2 ((u, zs ++ [x]) :: rs) ∧ MI W2 g b base n kvs := by
  have h1 := h.kept b1 hm.blt.2
  have m1 := hm.kept b1
  have hv := h1.own _ List.mem_cons_self
  have hvc : ∀ r, v.ownBlock = some r → ∃ cs z, W1.heap[r]? = some (.cells cs 3 z) := fun r e => ownsRow_cells hv e
  have ha := h1.ap
  rw [List.pairwise_cons] at ha
  have hbk : W2.heap[b]? = W1.heap[b]? := hg.block b m1.blt.2 fun e => by
    obtain ⟨cs, z, h3⟩ := hvc b e.symm
    obtain ⟨es, clock, hb, -⟩ := m1.map
    rw [hb] at h3
    cases h3
  have hM : ∀ q, Mrow W2 b q → Mrow W1 b q := fun q hq => hq.same hbk
  have m2 : MI W2 g b base n kvs := m1.frame hg (fun e => by
    obtain ⟨cs, z, h3⟩ := hvc b e
    obtain ⟨es, clock, hb, -⟩ := m1.map
    rw [hb] at h3
    cases h3) (fun e => by
    obtain ⟨cs, z, h3⟩ := hvc g e
    have hx := m1.box
    unfold LB at hx
    rw [hx] at h3
    simp at h3) fun q e hq => h1.off _ List.mem_cons_self q e hq
  have hrest : ∀ p ∈ rs, ∀ k, p.1.ownBlock = some k → W2.heap[k]? = W1.heap[k]? := fun p hp k e => hg.block k (World.ownsRow.lt (h1.own p (List.mem_cons_of_mem _ hp)) k e).2 fun e2 => ha.1 p hp k e2.symm e
  refine ⟨⟨fun p hp => ?_, fun p hp q e hq => ?_, List.pairwise_cons.2 ⟨fun p hp k e e2 => ?_, ha.2⟩⟩, m2⟩
  · rcases List.mem_cons.1 hp with rfl | hp
    · exact hr
    · exact ownsRow_blk (h1.own p (List.mem_cons_of_mem _ hp)) (hrest p hp)
  · rcases List.mem_cons.1 hp with rfl | hp
    · rcases hat with e3 | e3
      · exact h1.off _ List.mem_cons_self q (e3 ▸ e) (hM q hq)
      · have e4 := Option.some.inj (e3.symm.trans e)
        have := (m1.row (hM q hq)).2
        omega
    · exact h1.off p (List.mem_cons_of_mem _ hp) q e (hM q hq)
  · rcases hat with e3 | e3
    · exact ha.1 p hp k (e3 ▸ e) e2
    · have e4 := Option.some.inj (e3.symm.trans e)
      have := (World.ownsRow.lt (h1.own p (List.mem_cons_of_mem _ hp)) k e2).2
      omega
/-- a row of another kind is written -/
theorem IR.other {g base n : Nat} {kvs : Ix.Gm} (h : IR w b W rs) (hm : MI W g b base n kvs) (W1 W2 : World) (b1 : Below W.heap.size W W1) {row : Option Nat} {t : TypeId} (hg : W1.grownBy W2 row) (hr : ∀ r, row = some r → ∃ cs z, W1.heap[r]? = some (.cells cs t z)) (h1 : t ≠ 3) (h2 : t ≠ 99) : IR w b W2 rs ∧ MI W2 g b base n kvs := by
  have h3 := h.kept b1 hm.blt.2
  have m1 := hm.kept b1
  have hbk : row ≠ some b := fun e => by
    obtain ⟨cs, z, h4⟩ := hr b e
    obtain ⟨es, clock, hb, -⟩ := m1.map
    rw [hb] at h4
    cases h4
  refine ⟨h3.blk (fun p hp k e => hg.block k (World.ownsRow.lt (h3.own p hp) k e).2 fun e2 => ?_) fun q hq => .inl (hq.same (hg.block b m1.blt.2 fun e => hbk e.symm)), m1.frame hg hbk (fun e => ?_) fun q e hq => ?_⟩
  · obtain ⟨cs, z, h4⟩ := hr k e2.symm
    obtain ⟨cs2, z2, h5⟩ := ownsRow_cells (h3.own p hp) e
    rw [h4] at h5
    simp at h5
    exact h1 h5.2.1
  · obtain ⟨cs, z, h4⟩ := hr g e
    have hx := m1.box
    unfold LB at hx
    rw [hx] at h4
    simp at h4
    exact h2 h4.2.1.symm
  · obtain ⟨cs, z, h4⟩ := hr q e
    obtain ⟨cs2, z2, h5⟩ := m1.rowTI hq
    rw [h4] at h5
    simp at h5
    exact h1 h5.2.1
end
/-- append of one number, and where it lies -/
theorem wpList_appIA (w : World) {ops : Array Oper} {rest : List Oper} {o : Oper} {a : Act} {Q : Exit → Act → World → Prop} (hgd : o.guard = none) (s x : Operand)
    (ho : o.op = .call { callee := .builtin .append, args := #[s, x], argTypes := #[35, 35] })
    (B : Nat) (v : Value) (zs : List Int) (hv : a.eval s = v) (h : w.ownsRow B 3 1 v zs.length (ivs zs)) (g c : Nat) (z : Int) (hx : a.eval x = .slice (some ⟨g, 0, none⟩) 1 c)
    (hc : w.cell? ⟨g, 0, none⟩ = some (.int .i64 z)) (hmax : zs.length ≤ 100000000) (hB : B ≤ w.heap.size)
    (hK : ∀ ad m c w', w'.ownsRow B 3 1 (.slice ad m c) (zs ++ [z]).length (ivs (zs ++ [z])) → w.grownBy w' v.ownBlock → ((Value.slice ad m c).ownBlock = v.ownBlock ∨ (Value.slice ad m c).ownBlock = some w.heap.size) → wpList Try.prog ops Q rest (a.put o.dst (.slice ad m c)) w') : wpList Try.prog ops Q (o :: rest) a w := by
  obtain ⟨i0, hi, hq⟩ := Option.map_eq_some_iff.1 infoI
  simp only [Prod.mk.injEq] at hq
  obtain ⟨v', w', hr, h2, h3, -, h5⟩ := run_append_own_at (P := Try.prog) w B 35 o.type 3 i0 _ 1 8 Try.underlying35 hi hq.1 hq.2.1 hq.2.2 rfl (by decide) v zs.length _ h ⟨g, 0, none⟩ 1 c [.int .i64 z] rfl (fun j u hj => by
    cases j with
    | zero =>
      rw [Addr.add_lit]
      have e : u = .int .i64 z := by simpa using hj.symm
      rw [e]
      exact hc
    | succ j => simp at hj) (fun u hu => by rw [List.mem_singleton.1 hu]; rfl) (by unfold maxLen; omega) (by omega) hB
  obtain ⟨ad, m, c', rfl⟩ : ∃ ad m c', v' = .slice ad m c' := by
    rcases h2.2 with ⟨rfl, -⟩ | ⟨g', cap, cur, rfl, -⟩ <;> exact ⟨_, _, _, rfl⟩
  refine wpList_plain hgd fun _ hK' => ?_
  unfold Oper.wp
  simp [execOp, ho, resolve, invoke, builtin, hv, hx, hr, Result.andThen]
  refine hK' _ _ (hK ad m c' w' ?_ h3 h5)
  rw [List.length_append, ivs, List.map_append]
  exact h2
theorem infoIS : (Try.prog.info? 35).map (fun i => (i.zero, i.size, i.bytes)) = some (some (.slice none 0 0), 1, 24) := by kernel_rfl
/-- append of one list of numbers -/
theorem wpList_appS (w : World) {ops : Array Oper} {rest : List Oper} {o : Oper} {a : Act} {Q : Exit → Act → World → Prop} (hgd : o.guard = none) (s x : Operand)
    (ho : o.op = .call { callee := .builtin .append, args := #[s, x], argTypes := #[61, 61] })
    (B : Nat) (v : Value) (ss : List Value) (hv : a.eval s = v) (h : w.ownsRow B 35 1 v ss.length ss) (g c : Nat) (ad0 : Option Addr) (m0 c0 : Nat) (hx : a.eval x = .slice (some ⟨g, 0, none⟩) 1 c)
    (hc : w.cell? ⟨g, 0, none⟩ = some (.slice ad0 m0 c0)) (hmax : ss.length ≤ 100000000) (hB : B ≤ w.heap.size)
    (hK : ∀ ad m c w', w'.ownsRow B 35 1 (.slice ad m c) (ss ++ [Value.slice ad0 m0 c0]).length (ss ++ [Value.slice ad0 m0 c0]) → w.grownBy w' v.ownBlock → wpList Try.prog ops Q rest (a.put o.dst (.slice ad m c)) w') : wpList Try.prog ops Q (o :: rest) a w := by
  obtain ⟨i0, hi, hq⟩ := Option.map_eq_some_iff.1 infoIS
  simp only [Prod.mk.injEq] at hq
  obtain ⟨v', w', hr, h2, h3, -⟩ := run_append_own (P := Try.prog) w B 61 o.type 35 i0 _ 1 24 Try.underlying61 hi hq.1 hq.2.1 hq.2.2 rfl (by decide) v ss.length _ h ⟨g, 0, none⟩ 1 c [Value.slice ad0 m0 c0] rfl (fun j u hj => by
    cases j with
    | zero =>
      rw [Addr.add_lit]
      have e : u = Value.slice ad0 m0 c0 := by simpa using hj.symm
      rw [e]
      exact hc
    | succ j => simp at hj) (fun u hu => by rw [List.mem_singleton.1 hu]; rfl) (by unfold maxLen; omega) (by omega) hB
  obtain ⟨ad, m, c', rfl⟩ : ∃ ad m c', v' = .slice ad m c' := by
    rcases h2.2 with ⟨rfl, -⟩ | ⟨g', cap, cur, rfl, -⟩ <;> exact ⟨_, _, _, rfl⟩
  refine wpList_plain hgd fun _ hK' => ?_
  unfold Oper.wp
  simp [execOp, ho, resolve, invoke, builtin, hv, hx, hr, Result.andThen]
  refine hK' _ _ (hK ad m c' w' ?_ h3)
  rw [List.length_append]
  exact h2
theorem and_nat (x M : Int) (k : Nat) (hM : (BitVec.ofInt 64 M).toNat ≤ k) (hk : k ≤ 4611686018427387904) : ∃ z : Nat, bits .and .i64 x M = (z : Int) ∧ z ≤ k := by
  have e : bits .and .i64 x M = IntKind.i64.wrap ((BitVec.ofInt 64 x &&& BitVec.ofInt 64 M).toNat : Int) := rfl
  have h : (BitVec.ofInt 64 x &&& BitVec.ofInt 64 M).toNat ≤ k := by
    rw [BitVec.toNat_and]
    exact Nat.le_trans Nat.and_le_right hM
  rw [IntWalk.i64_in _ (by omega)] at e
  exact ⟨_, e, h⟩
namespace Ix
theorem wrO_le : ∀ (xs : List Nat) (f : Bool) (off : Nat), okO f off xs → (wrO off xs).length ≤ 10 * xs.length
  | [], _, _, _ => Nat.le_refl _
  | x :: r, f, off, h => by
    have h1 := wrO_le r false x h.2.2.2
    have h2 := Wn.uint_len10 (x - off) (by have := h.2.2.1; omega)
    rw [wrO, List.length_append, List.length_cons]
    omega
theorem wrK_le : ∀ (es : List (Nat × List Nat)) (key : Nat), okK key es → (∀ p ∈ es, p.2.length ≤ 16) → (wrK key es).length ≤ 180 * es.length
  | [], _, _, _ => Nat.le_refl _
  | (k, xs) :: r, key, h, hb => by
    have h1 := wrK_le r k h.2.2.2.2 fun p hp => hb p (List.mem_cons_of_mem _ hp)
    have h2 := Wn.uint_len10 (k - key) (by have := h.2.1; omega)
    have h3 : xs.length ≤ 16 := hb (k, xs) List.mem_cons_self
    have h4 := Wn.uint_len10 xs.length (by omega)
    have h5 := wrO_le xs true 0 h.2.2.2.1
    rw [wrK_app, List.length_append, List.length_append, List.length_append, List.length_cons]
    omega
theorem wrI_le (es : List (Nat × List Nat)) (h : okK 0 es) (hb : ∀ p ∈ es, p.2.length ≤ 16) (hl : es.length ≤ 300) : (wrI es).length ≤ 60000 := by
  have h1 := wrK_le es 0 h hb
  have h2 := Wn.uint_len10 es.length (by omega)
  unfold wrI
  rw [List.length_append]
  omega
theorem wrI_ne (es : List (Nat × List Nat)) : 0 < (wrI es).length := by
  have := Wn.uint_pos es.length
  unfold wrI
  rw [List.length_append]
  omega
theorem gm_few (es : List (Nat × List Nat)) (hb : ∀ p ∈ es, p.2.length ≤ 16) : total (gm es) ≤ 16 * es.length := by
  induction es with
  | nil => exact Nat.le_refl _
  | cons p r ih =>
    have h1 := ih fun q hq => hb q (List.mem_cons_of_mem _ hq)
    have h2 := hb p List.mem_cons_self
    unfold total gm at h1 ⊢
    simp [nums] at h1 ⊢
    omega
theorem withK_nil (kvs : Gm) (k : Nat) : withK kvs k [] = kvs := by
  unfold withK
  rw [if_pos rfl]
theorem withK_gm (es : List (Nat × List Nat)) (k : Nat) (acc : List Nat) (h : acc ≠ []) : withK (gm es) k acc = gm (es ++ [(k, acc)]) := by
  unfold withK
  rw [if_neg h, gm_snoc]
end Ix
end Go.Proofs.Ytceokpklcfmadaa

/-
  IndexDropped: plain: an index against the list of what it holds.
-/
namespace Go.Proofs.Ytceokpklcfmadaa
open Go Go.RowKit Go.ChangeShapes
open Wb

namespace Ix
theorem total_mem : ∀ (kvs : Gm) (p : Int × List Int), p ∈ kvs → p.2.length ≤ total kvs
  | q :: r, p, h => by
    unfold total
    rw [List.map_cons, List.sum_cons]
    rcases List.mem_cons.1 h with rfl | h
    · omega
    · have := total_mem r p h
      unfold total at this
      omega
theorem encS_len (kvs : Gm) (hg : ∀ k, (get kvs k).length < 18446744073709551616) (s : List Nat × Int × Int) (x : Int × Int) (s' : List Nat × Int × Int) (h : encS kvs s x = .ok s') : s'.1.length ≤ s.1.length + 30 := by
  have h1 := Wn.uint_len10 _ (u64_lt (x.1 - s.2.1))
  have h2 := Wn.uint_len10 _ (hg x.1)
  have h3 := Wn.uint_len10 _ (u64_lt (x.2 - 0))
  have h4 := Wn.uint_len10 _ (u64_lt (x.2 - s.2.2))
  unfold encS at h
  split at h
  · cases h
  · split at h
    · split at h
      · cases h
      · cases h
        simp only [List.length_append]
        omega
    · split at h
      · cases h
      · cases h
        simp only [List.length_append]
        omega
theorem enc_len (kvs : Gm) (hg : ∀ k, (get kvs k).length < 18446744073709551616) : ∀ (l : List (Int × Int)) (s s' : List Nat × Int × Int), l.foldlM (encS kvs) s = .ok s' → s'.1.length ≤ s.1.length + 30 * l.length
  | [], s, s', h => by
    cases h
    exact Nat.le_add_right _ _
  | x :: r, s, s', h => by
    have h0 : (do let s1 ← encS kvs s x; List.foldlM (encS kvs) s1 r) = Except.ok s' := h
    cases h1 : encS kvs s x with
    | error e => rw [h1] at h0; cases h0
    | ok s1 =>
      rw [h1] at h0
      have h2 := enc_len kvs hg r s1 s' h0
      have h3 := encS_len kvs hg s x s1 h1
      rw [List.length_cons]
      omega
theorem encS_err (kvs : Gm) (s : List Nat × Int × Int) (x : Int × Int) (er : Nat) (h : encS kvs s x = .error er) : er = 50 ∨ er = 52 := by
  unfold encS at h
  split at h
  · cases h; exact .inl rfl
  · split at h
    · split at h
      · cases h; exact .inr rfl
      · cases h
    · split at h
      · cases h; exact .inr rfl
      · cases h
theorem enc_err (kvs : Gm) : ∀ (l : List (Int × Int)) (s : List Nat × Int × Int) (er : Nat), l.foldlM (encS kvs) s = .error er → er = 50 ∨ er = 52
  | [], s, er, h => by cases h
  | x :: r, s, er, h => by
    have h0 : (do let s1 ← encS kvs s x; List.foldlM (encS kvs) s1 r) = Except.error er := h
    cases h1 : encS kvs s x with
    | error e =>
      rw [h1] at h0
      cases h0
      exact encS_err kvs s x _ h1
    | ok s1 =>
      rw [h1] at h0
      exact enc_err kvs r s1 er h0
end Ix
/-- Encode, both -/
theorem plain_enc (g b base n : Nat) (ps : List (Int × Int)) (w : World) (h : MI w g b base n (Ix.gml ps)) (hn : n < 1000000000) (hl : ps.length ≤ 1000) (hw : ∀ p ∈ ps, -9223372036854775808 ≤ p.1 ∧ p.1 ≤ 9223372036854775807) :
    Calls Try.prog 24 #[.pointer (some ⟨g, 0, none⟩)] w fun e w' => Below w.heap.size w w' ∧ ((∃ s, Ix.encF (Ix.gml ps) (prs (Ix.gml ps)) = .ok s ∧ ∃ ad, ∃ m c : Nat, e = .returned (.tuple #[.slice ad m c, .int .i64 0]) ∧ Bs w' (.slice ad m c) s.1) ∨ (∃ er : Nat, Ix.encF (Ix.gml ps) (prs (Ix.gml ps)) = .error er ∧ e = .returned (.tuple #[.slice none 0 0, .int .i64 (er : Int)]))) := by
  have hf := Ix.gml_fine ps
  have ha : allE (Ix.gml ps) = prs (Ix.gml ps) := by
    unfold allE
    rw [Ix.within_all]
    intro p hp
    obtain ⟨q, hq, e⟩ := hf.key p hp
    rw [← e]
    exact hw q hq
  refine (ixenc_any g b base n _ w h (by have := hf.len; omega) (by rw [ha, Ix.prs_len, hf.tot]; omega) hn).mono fun e w' ⟨hbl, hc⟩ => ⟨hbl, ?_⟩
  rw [ha] at hc
  rcases hc with ⟨s, e1, ad, m, c, e2, e3⟩ | ⟨er, pre, e1, e2, e3⟩
  · exact .inl ⟨s, e1, ad, m, c, e2, e3.bs⟩
  · exact .inr ⟨er, Ix.encF_error _ _ pre e1 er e2, e3⟩
set_option maxRecDepth 100000 in
set_option maxHeartbeats 4000000 in
theorem ixplain_any (g b base n : Nat) (ps : List (Int × Int)) (v : Value) (w : World) (h : MI w g b base n (Ix.gml ps)) (hp : Pr w v ps) (hn : n < 1000000000) (hl : ps.length ≤ 1000) (hw : ∀ p ∈ ps, (-9223372036854775808 ≤ p.1 ∧ p.1 ≤ 9223372036854775807) ∧ (-9223372036854775808 ≤ p.2 ∧ p.2 ≤ 9223372036854775807)) :
    Calls Try.prog 47 #[.pointer (some ⟨g, 0, none⟩), v] w fun e w' => e = .returned (.bool true) ∧ Below w.heap.size w w' := by
  have hf := Ix.gml_fine ps
  have hlg : ∀ k, (Ix.get (Ix.gml ps) k).length < 18446744073709551616 := fun k => by
    have := Ix.pdel_len ps k
    omega
  have HEN := plain_enc g b base n ps w h hn hl fun p hp => (hw p hp).1
  have HRE : ∀ W, Below w.heap.size w W → Calls Try.prog 43 #[v] W fun e w' => RePost ps W e w' := fun W hW => rixenc_any v ps W (hp.kept hW) (by omega) hw
  have HHO : Hid (∀ W, Below w.heap.size w W → Calls Try.prog 39 #[.pointer (some ⟨g, 0, none⟩), v] W fun e w' => e = .returned (.bool true) ∧ Below W.heap.size W w') := fun W hW => ixholds_any g b base n ps v W (h.kept hW) (hp.kept hW) hn (by omega) fun p hp => (hw p hp).1
  have HHR : Hid (∀ (W : World) (g' b' base' n' : Nat), Below w.heap.size w W → MI W g' b' base' n' (Ix.gml ps) → n' ≤ 60000 → Calls Try.prog 39 #[.pointer (some ⟨g', 0, none⟩), v] W fun e w' => e = .returned (.bool true) ∧ Below W.heap.size W w') := fun W g' b' base' n' hW hm hn' => ixholds_any g' b' base' n' ps v W hm (hp.kept hW) (by omega) (by omega) fun p hp => (hw p hp).1
  have HSB : Hid (∀ (W : World) (va vb : Value) (l : List Nat), Bs W va l → Bs W vb l → Calls Try.prog 44 #[va, vb] W fun e w' => e = .returned (.bool true) ∧ Below W.heap.size W w') := fun W va vb l h1 h2 => (ixsameb_any va vb l l W h1 h2).mono fun e w' ⟨h3, h4⟩ => ⟨by rw [h3, decide_eq_true rfl], h4⟩
  obtain ⟨va, vc, hve, -⟩ := id hp
  cases hR : Ix.encF (Ix.gml ps) (prs (Ix.gml ps)) with
  | error er =>
    have her := Ix.enc_err _ _ _ er hR
    have HEN2 : Hid (Calls Try.prog 24 #[.pointer (some ⟨g, 0, none⟩)] w fun e w' => e = .returned (.tuple #[.slice none 0 0, .int .i64 (er : Int)]) ∧ Below w.heap.size w w') := HEN.mono fun e w' ⟨hb, hc⟩ => by
      rcases hc with ⟨s, e1, -⟩ | ⟨er', e1, e2⟩
      · rw [hR] at e1
        cases e1
      · rw [hR] at e1
        cases e1
        exact ⟨e2, hb⟩
    have HRE2 : Hid (∀ W, Below w.heap.size w W → Calls Try.prog 43 #[v] W fun e w' => e = .returned (.tuple #[.slice none 0 0, .int .i64 (er : Int)]) ∧ Below W.heap.size W w') := fun W hW => (HRE W hW).mono fun e w' ⟨hb, hc⟩ => by
      rcases hc with ⟨s, e1, -⟩ | ⟨er', pre, e1, e2, e3⟩
      · rw [hR] at e1
        cases e1
      · rw [Ix.encF_error _ _ pre e1 er' e2] at hR
        cases hR
        exact ⟨e3, hb⟩
    have hd1 : ((er : Int) != (er : Int)) = false := by simp
    have hd2 : ((er : Int) != 0) = true := by
      simp
      omega
    subst hve
    clear HEN HRE hR her hf hlg h hp
    go_enter Try.func47, Try.ntmps47
    go_wp2_with fail
    refine HEN2.out.mono ?_
    rintro e W1 ⟨rfl, b1⟩
    have H1 : Hid (Below w.heap.size w W1) := b1
    clear b1
    go_wp2_with fail
    refine (HRE2.out W1 H1.out).mono ?_
    rintro e W2 ⟨rfl, b2⟩
    have H2 : Hid (Below w.heap.size w W2) := andThen H1.out b2
    clear b2 H1
    go_wp2_with fail
    refine (HSB.out W2 _ _ [] (Bs.nil _) (Bs.nil _)).mono ?_
    rintro e W3 ⟨rfl, b3⟩
    have H3 : Hid (Below w.heap.size w W3) := andThen H2.out b3
    clear b3 H2
    go_wp2_with fail
    refine (HHO.out W3 H3.out).mono ?_
    rintro e W4 ⟨rfl, b4⟩
    have H4 : Hid (Below w.heap.size w W4) := andThen H3.out b4
    clear b4 H3
    go_wp2_with fail
    go_returns
    exact ⟨rfl, H4.out⟩
  | ok s =>
    obtain ⟨es, he1, he2, he3⟩ := Ix.encF_es _ s hf.ris (fun p hp => ⟨hf.ne p hp, by
      obtain ⟨q, hq, e⟩ := hf.key p hp
      have h9 := (hw q hq).1
      rw [e] at h9
      exact ⟨h9.2, fun x hx => by
        obtain ⟨q, hq, e⟩ := Ix.gml_vals ps p hp x hx
        rw [← e]
        exact (hw q hq).2.2⟩⟩) hR
    have hsl : s.1.length ≤ 60000 := by
      have h9 := Ix.enc_len _ hlg _ _ s hR
      rw [Ix.prs_len, hf.tot] at h9
      have := Wn.uint_len10 (Ix.gml ps).length (by have := hf.len; omega)
      simp only at h9
      omega
    have hdc : Ix.decodeP s.1 = (0, Ix.gml ps) := by
      rw [he3, he1]
      refine Ix.decode_fwd es he2 ?_ fun q hq => ?_
      · have := hf.len
        rw [he1] at this
        simp only [Ix.gm, List.length_map] at this
        omega
      · have h8 := hf.tot
        have h9 : q.2.length ≤ Ix.total (Ix.gml ps) := by
          rw [he1]
          have h7 := Ix.total_mem (Ix.gm es) ((q.1 : Int), Ix.nums q.2) (List.mem_map.2 ⟨q, hq, rfl⟩)
          simpa [Ix.nums] using h7
        omega
    have HEN2 : Hid (Calls Try.prog 24 #[.pointer (some ⟨g, 0, none⟩)] w fun e w' => ∃ ad, ∃ m c : Nat, e = .returned (.tuple #[.slice ad m c, .int .i64 0]) ∧ Bs w' (.slice ad m c) s.1 ∧ Below w.heap.size w w') := HEN.mono fun e w' ⟨hb, hc⟩ => by
      rcases hc with ⟨s', e1, ad, m, c, e2, e3⟩ | ⟨er', e1, e2⟩
      · rw [hR] at e1
        cases e1
        exact ⟨ad, m, c, e2, e3, hb⟩
      · rw [hR] at e1
        cases e1
    have HRE2 : Hid (∀ W, Below w.heap.size w W → Calls Try.prog 43 #[v] W fun e w' => ∃ ad, ∃ m c : Nat, e = .returned (.tuple #[.slice ad m c, .int .i64 0]) ∧ Bs w' (.slice ad m c) s.1 ∧ Below W.heap.size W w') := fun W hW => (HRE W hW).mono fun e w' ⟨hb, hc⟩ => by
      rcases hc with ⟨s', e1, ad, m, c, e2, e3⟩ | ⟨er', pre, e1, e2, e3⟩
      · rw [hR] at e1
        cases e1
        exact ⟨ad, m, c, e2, e3.bs, hb⟩
      · rw [Ix.encF_error _ _ pre e1 er' e2] at hR
        cases hR
    have HDC : Hid (∀ (W : World) (ad : Option Addr) (m c : Nat), Bs W (.slice ad m c) s.1 → Calls Try.prog 25 #[.slice ad m c] W fun e w' => ∃ g5 b5 base5 n5, e = .returned (.tuple #[.pointer (some ⟨g5, 0, none⟩), .int .i64 0]) ∧ MI w' g5 b5 base5 n5 (Ix.gml ps) ∧ n5 ≤ 60000 ∧ Below W.heap.size W w') := fun W ad m c hb2 => (ixdec_any _ s.1 W hb2 (by omega)).mono fun e w' hD => by
      unfold DcPost at hD
      rw [hdc] at hD
      rcases hD with ⟨-, g5, b5, base5, n5, e1, e2, -, e3, e4⟩ | ⟨h0, -⟩
      · exact ⟨g5, b5, base5, n5, e1, e2, by omega, e4⟩
      · exact absurd rfl h0
    subst hve
    clear HEN HRE hR hf hlg h hp hdc he1 he2 he3 hsl
    go_enter Try.func47, Try.ntmps47
    go_wp2_with fail
    refine HEN2.out.mono ?_
    rintro e W1 ⟨ad, m, c, rfl, r1, b1⟩
    have H1 : Hid (Below w.heap.size w W1 ∧ Bs W1 (.slice ad m c) s.1) := ⟨b1, r1⟩
    clear b1 r1
    go_wp2_with fail
    refine (HRE2.out W1 H1.out.1).mono ?_
    rintro e W2 ⟨ad2, m2, c2, rfl, r2, b2⟩
    have H2 : Hid (Below w.heap.size w W2 ∧ Bs W2 (.slice ad m c) s.1 ∧ Bs W2 (.slice ad2 m2 c2) s.1) := ⟨andThen H1.out.1 b2, H1.out.2.kept b2, r2⟩
    clear b2 r2 H1
    go_wp2_with fail
    refine (HSB.out W2 _ _ s.1 H2.out.2.1 H2.out.2.2).mono ?_
    rintro e W3 ⟨rfl, b3⟩
    have H3 : Hid (Below w.heap.size w W3 ∧ Bs W3 (.slice ad m c) s.1) := ⟨andThen H2.out.1 b3, H2.out.2.1.kept b3⟩
    clear b3 H2
    go_wp2_with fail
    refine (HHO.out W3 H3.out.1).mono ?_
    rintro e W4 ⟨rfl, b4⟩
    have H4 : Hid (Below w.heap.size w W4 ∧ Bs W4 (.slice ad m c) s.1) := ⟨andThen H3.out.1 b4, H3.out.2.kept b4⟩
    clear b4 H3
    go_wp2_with fail
    refine (HDC.out W4 ad m c H4.out.2).mono ?_
    rintro e W5 ⟨g5, b5, base5, n5, rfl, m5, hn5, be5⟩
    have H5 : Hid (Below w.heap.size w W5 ∧ MI W5 g5 b5 base5 n5 (Ix.gml ps) ∧ n5 ≤ 60000) := ⟨andThen H4.out.1 be5, m5, hn5⟩
    clear be5 m5 hn5 H4
    go_wp2_with fail
    refine (HHR.out W5 g5 b5 base5 n5 H5.out.1 H5.out.2.1 H5.out.2.2).mono ?_
    rintro e W6 ⟨rfl, b6⟩
    have H6 : Hid (Below w.heap.size w W6) := andThen H5.out.1 b6
    clear b6 H5
    go_wp2_with fail
    go_returns
    exact ⟨rfl, H6.out⟩
end Go.Proofs.Ytceokpklcfmadaa

/-
  IndexDropped: what it holds between two steps; a list of steps.
-/
namespace Go.Proofs.Ytceokpklcfmadaa
open Go Go.RowKit Go.ChangeShapes
open Wb

theorem i64_wf_bounds {x : Int} (h : (Lit.int .i64 x).wf = true) : -9223372036854775808 ≤ x ∧ x ≤ 9223372036854775807 := by
  simp [Lit.wf, IntKind.min, IntKind.max, IntKind.signed, IntKind.bits] at h
  omega
/-- between two steps -/
structure DpS (w : World) (g b base n : Nat) (ps : List (Int × Int)) (l : Value) (W : World) : Prop where
  mi : MI W g b base n (Ix.gml ps)
  row : W.ownsRow w.heap.size 54 2 l ps.length (ps.flatMap enP)
  bel : Below w.heap.size w W
  mr : ∀ q, Mrow W b q → w.heap.size ≤ q
  hb : w.heap.size ≤ b
  bd : ∀ p ∈ ps, (-9223372036854775808 ≤ p.1 ∧ p.1 ≤ 9223372036854775807) ∧ (-9223372036854775808 ≤ p.2 ∧ p.2 ≤ 9223372036854775807)
section
variable {w : World} {g b base n : Nat} {ps : List (Int × Int)} {l : Value} {W W' : World}
theorem DpS.kept (h : DpS w g b base n ps l W) (hb : Below W.heap.size W W') : DpS w g b base n ps l W' :=
  ⟨h.mi.kept hb, ownsRow_blk h.row fun k e => hb.block k (World.ownsRow.lt h.row k e).2, andThen h.bel hb, fun q hq => h.mr q (hq.same (hb.block b h.mi.blt.2)), h.hb, h.bd⟩
theorem DpS.off (h : DpS w g b base n ps l W) {k : Nat} (e : l.ownBlock = some k) : ¬ (k = b ∨ Mrow W b k) := by
  obtain ⟨cs, z, h3⟩ := ownsRow_cells h.row e
  rintro (e2 | e2)
  · subst e2
    obtain ⟨es9, clock, hb9, -⟩ := h.mi.map
    rw [hb9] at h3
    cases h3
  · obtain ⟨cs2, z2, h4⟩ := h.mi.rowTI e2
    rw [h3] at h4
    simp at h4
/-- m.Add(key, val), and the pair goes to the list -/
theorem DpS.add (h : DpS w g b base n ps l W) (k x : Int) (hk : (Lit.int .i64 k).wf = true) (hx : (Lit.int .i64 x).wf = true) (hm : MI W' g b base (n + 1) (Ix.add (Ix.gml ps) k x)) (hf : IFr W W' (fun q => q = b ∨ Mrow W b q)) (hM : ∀ q, Mrow W' b q → Mrow W b q ∨ W.heap.size ≤ q) (W1 W2 : World) (b1 : Below W'.heap.size W' W1) (u : Value) :
    W1.ownsRow w.heap.size 54 2 l ps.length (ps.flatMap enP) ∧ w.heap.size ≤ W1.heap.size ∧ (W2.ownsRow w.heap.size 54 2 u (ps.length + 1) ((ps ++ [(k, x)]).flatMap enP) → W1.grownBy W2 l.ownBlock → DpS w g b base (n + 1) (ps ++ [(k, x)]) u W2) := by
  have hrow' : W'.ownsRow w.heap.size 54 2 l ps.length (ps.flatMap enP) := ownsRow_blk h.row fun k e => hf.block k (World.ownsRow.lt h.row k e).2 (h.off e)
  have hrow1 : W1.ownsRow w.heap.size 54 2 l ps.length (ps.flatMap enP) := ownsRow_blk hrow' fun k e => b1.block k (World.ownsRow.lt hrow' k e).2
  have hbel' : Below w.heap.size w W' := h.bel.trans (hf.below _ h.bel.size fun k hk9 => by
    rcases hk9 with rfl | hk9
    · exact h.hb
    · exact h.mr k hk9)
  have hbel1 : Below w.heap.size w W1 := andThen hbel' b1
  refine ⟨hrow1, hbel1.size, fun hr hg => ?_⟩
  have hml : ∀ r, l.ownBlock = some r → Hml W1 b r := fun r e => by
    obtain ⟨cs, z, h3⟩ := ownsRow_cells hrow1 e
    exact .inl ⟨cs, _, z, h3, .inl rfl⟩
  have m1 := hm.kept b1
  refine ⟨by rw [Ix.gml_snoc]; exact m1.hml hg hml, by rw [List.length_append, List.length_singleton]; exact hr, hbel1.grown hg hbel1.size fun k e => (World.ownsRow.lt hrow1 k e).1, fun q hq => ?_, h.hb, fun p hp => ?_⟩
  · have h9 := (hq.same (hg.block b m1.blt.2 fun e => ?_)).same (b1.block b hm.blt.2)
    · rcases hM q h9 with h8 | h8
      · exact h.mr q h8
      · exact Nat.le_trans h.bel.size h8
    · obtain ⟨cs2, z2, h4⟩ := ownsRow_cells hrow1 e.symm
      obtain ⟨es9, clock, hb9, -⟩ := m1.map
      rw [hb9] at h4
      cases h4
  · rcases List.mem_append.1 hp with hp | hp
    · exact h.bd p hp
    · obtain rfl := List.mem_singleton.1 hp
      exact ⟨i64_wf_bounds hk, i64_wf_bounds hx⟩
/-- a key is dropped -/
theorem DpS.drop (h : DpS w g b base n ps l W) (k : Int) (W1 W2 : World) (u : Value) (b1 : Below W.heap.size W W1) (hu : W1.ownsRow W.heap.size 54 2 u (Ix.pdel ps k).length ((Ix.pdel ps k).flatMap enP)) (hm : MI W2 g b base n (Ix.del (Ix.gml ps) k)) (hf : IFr W1 W2 (fun q => q = b)) (hM : ∀ q, Mrow W2 b q → Mrow W1 b q) : DpS w g b base n (Ix.pdel ps k) u W2 := by
  have h1 := h.kept b1
  have hu1 : W1.ownsRow w.heap.size 54 2 u (Ix.pdel ps k).length ((Ix.pdel ps k).flatMap enP) := hu.mono h.bel.size
  refine ⟨by rw [Ix.gml_pdel]; exact hm, ownsRow_blk hu1 fun q e => hf.block q (World.ownsRow.lt hu1 q e).2 fun e2 => ?_, h1.bel.trans (hf.below _ h1.bel.size fun q hq => by rw [hq]; exact h.hb), fun q hq => h1.mr q (hM q hq), h.hb, fun p hp => h.bd p (List.mem_filter.1 hp).1⟩
  subst e2
  obtain ⟨cs, z, h3⟩ := ownsRow_cells hu1 e
  obtain ⟨es9, clock, hb9, -⟩ := h1.mi.map
  rw [hb9] at h3
  cases h3
end
/-- one step -/
structure St6 where
  kd : Int
  ob : Int
  ke : Int
  va : Int
  hi : Int
  sp : Int
/-- steps in a row -/
def Sx (w : World) (v : Value) (ss : List St6) : Prop := ∃ a c, v = .slice a ss.length c ∧ ss.length ≤ c ∧ c ≤ maxLen ∧ (ss ≠ [] → ∃ b off, a = some ⟨b, off, none⟩ ∧ ∀ j (h : j < ss.length), w.cell? ⟨b, off + j * 6, none⟩ = some (.int .i64 ss[j].kd) ∧ w.cell? ⟨b, off + j * 6 + 1, none⟩ = some (.int .i64 ss[j].ob) ∧ w.cell? ⟨b, off + j * 6 + 2, none⟩ = some (.int .i64 ss[j].ke) ∧ w.cell? ⟨b, off + j * 6 + 3, none⟩ = some (.int .i64 ss[j].va) ∧ w.cell? ⟨b, off + j * 6 + 4, none⟩ = some (.int .i64 ss[j].hi) ∧ w.cell? ⟨b, off + j * 6 + 5, none⟩ = some (.int .i64 ss[j].sp))
/-- the state after the first drop -/
theorem DpS.zero {w W : World} {g b base n : Nat} (hm : MI W g b base n []) (hbl : Below w.heap.size w W) (hmr : ∀ q, Mrow W b q → w.heap.size ≤ q) (hb : w.heap.size ≤ b) : DpS w g b base n [] (.slice none 0 0) W :=
  ⟨hm, World.ownsRow_nil _ _ _ _, hbl, hmr, hb, fun p hp => by cases hp⟩
end Go.Proofs.Ytceokpklcfmadaa

/-
  Package index: a list of steps among the arguments.
-/
namespace Go.Proofs.Ytceokpklcfmadaa
open Go.ChangeShapes Go.WideShapes Go.ChangeAt Go.RowKit
open Wb

instance : Inhabited St6 := ⟨⟨0, 0, 0, 0, 0, 0⟩⟩
theorem cellsTS5 : Try.prog.cellsOf 32 = 6 := by kernel_rfl
set_option maxRecDepth 100000 in
theorem open_six5 {H : Type} {enc : TypeId × Value → H} {W : World} {fuel : Nat} {cs : List Value} {d : DataW H} {p : List MemPlace} (hf : DataW.trod enc Try.prog W 0 (fun _ => true) true fuel 32 cs = some (d, p)) (hlen : cs.length = 6) :
    ∃ q : St6, cs = [.int .i64 q.kd, .int .i64 q.ob, .int .i64 q.ke, .int .i64 q.va, .int .i64 q.hi, .int .i64 q.sp] ∧ (Lit.int .i64 q.ke).wf = true ∧ (Lit.int .i64 q.va).wf = true := by
  obtain ⟨xs, k', _, hxy, _, hxl, hfs⟩ := DataW.trod_struct Try.underlying32 hf
  match xs, hxl, cs, hlen with
  | [y0, y1, y2, y3, y4, y5], _, [v0, v1, v2, v3, v4, v5], _ =>
    have g0 := hfs 0 _ rfl
    have g1 := hfs 1 _ rfl
    have g2 := hfs 2 _ rfl
    have g3 := hfs 3 _ rfl
    have g4 := hfs 4 _ rfl
    have g5 := hfs 5 _ rfl
    simp [cellsTI5] at g0 g1 g2 g3 g4 g5
    obtain ⟨z0, e0, _, b0⟩ := DataW.trod_int Try.underlying3 g0
    obtain ⟨z1, e1, _, b1⟩ := DataW.trod_int Try.underlying3 g1
    obtain ⟨z2, e2, _, b2⟩ := DataW.trod_int Try.underlying3 g2
    obtain ⟨z3, e3, _, b3⟩ := DataW.trod_int Try.underlying3 g3
    obtain ⟨z4, e4, _, b4⟩ := DataW.trod_int Try.underlying3 g4
    obtain ⟨z5, e5, _, b5⟩ := DataW.trod_int Try.underlying3 g5
    simp only [List.cons.injEq, and_true] at e0 e1 e2 e3 e4 e5
    exact ⟨⟨z0, z1, z2, z3, z4, z5⟩, by simp only [e0, e1, e2, e3, e4, e5], b2, b3⟩
set_option maxRecDepth 100000 in
theorem open_steps5 {H : Type} {enc : TypeId × Value → H} {W : World} {base : Nat} {v : Value} {d : DataW H} {p : List MemPlace} (hv : Value.okWide Try.prog W .any base 22 v)
    (h : DataW.Trod enc Try.prog W 0 (fun _ => true) true 22 v d p) : ∃ ss, Sx W v ss ∧ ∀ s ∈ ss, (Lit.int .i64 s.ke).wf = true ∧ (Lit.int .i64 s.va).wf = true := by
  obtain ⟨a0, len0, cap0, rfl⟩ := okWide_slice Try.underlying22 hv
  obtain ⟨fuel, hf⟩ := h
  rcases Deep.open_slice Try.underlying22 hf with ⟨hcs, _⟩ | ⟨a, len, cap, m, n, D, Pl, hcs, _, hl, hm, hmm, hx, hel⟩
  · simp [Value.cells] at hcs
    obtain ⟨rfl, rfl, rfl⟩ := hcs
    exact ⟨[], ⟨none, 0, rfl, by simp, by simp [maxLen], fun e => absurd rfl e⟩, fun x hx => by cases hx⟩
  · simp [Value.cells] at hcs
    obtain ⟨rfl, rfl, rfl⟩ := hcs
    have each : ∀ k, k < len0 → ∃ q : St6, ∃ b off, a = ⟨b, off, none⟩ ∧ (W.cell? ⟨b, off + k * 6, none⟩ = some (.int .i64 q.kd) ∧ W.cell? ⟨b, off + k * 6 + 1, none⟩ = some (.int .i64 q.ob) ∧ W.cell? ⟨b, off + k * 6 + 2, none⟩ = some (.int .i64 q.ke) ∧ W.cell? ⟨b, off + k * 6 + 3, none⟩ = some (.int .i64 q.va) ∧ W.cell? ⟨b, off + k * 6 + 4, none⟩ = some (.int .i64 q.hi) ∧ W.cell? ⟨b, off + k * 6 + 5, none⟩ = some (.int .i64 q.sp)) ∧ (Lit.int .i64 q.ke).wf = true ∧ (Lit.int .i64 q.va).wf = true := fun k hk => by
      have hkm : k < m := by rw [hmm]; simp; omega
      obtain ⟨cs', h1, h2⟩ := hel k hkm
      rw [cellsTS5] at h1
      obtain ⟨_, hlen, hcell⟩ := World.cells?_some h1
      obtain ⟨q, rfl, bx, by1⟩ := open_six5 h2 hlen
      have r0 := hcell 0 (by omega)
      have r1 := hcell 1 (by omega)
      have r2 := hcell 2 (by omega)
      have r3 := hcell 3 (by omega)
      have r4 := hcell 4 (by omega)
      have r5 := hcell 5 (by omega)
      rw [Deep.add_add] at r0 r1 r2 r3 r4 r5
      have hspot : a.spot = none := by
        obtain ⟨cs0, h10, _⟩ := hel 0 (by omega)
        rw [cellsTS5] at h10
        obtain ⟨_, hl0, hc0⟩ := World.cells?_some h10
        have r9 := hc0 0 (by omega)
        rw [List.getElem?_eq_getElem (show 0 < cs0.length by omega)] at r9
        simpa [Addr.add] using World.cell?_spot r9
      obtain ⟨b, off, spot⟩ := a
      obtain rfl : spot = none := hspot
      rw [Go.WideShapes.add_plain] at r0 r1 r2 r3 r4 r5
      exact ⟨q, b, off, rfl, ⟨by simpa using r0, by simpa [Nat.add_assoc] using r1, by simpa [Nat.add_assoc] using r2, by simpa [Nat.add_assoc] using r3, by simpa [Nat.add_assoc] using r4, by simpa [Nat.add_assoc] using r5⟩, bx, by1⟩
    obtain ⟨q, hq⟩ := Deep.choose_lt each
    have hql : ((List.range len0).map q).length = len0 := by simp
    refine ⟨(List.range len0).map q, ⟨some a, cap0, by rw [hql], by rw [hql]; exact hl, hm, fun hne => ?_⟩, fun x hx => ?_⟩
    · have hpos : 0 < len0 := by
        rw [← hql]
        exact List.length_pos_iff.2 hne
      obtain ⟨b, off, rfl, -⟩ := hq 0 hpos
      refine ⟨b, off, rfl, fun j hj => ?_⟩
      rw [hql] at hj
      obtain ⟨b2, off2, e, c0, -⟩ := hq j hj
      simp only [Addr.mk.injEq, and_true] at e
      obtain ⟨rfl, rfl⟩ := e
      simp only [List.getElem_map, List.getElem_range]
      exact c0
    · obtain ⟨j, hj, rfl⟩ := List.mem_map.1 hx
      obtain ⟨_, _, _, _, b0, b1⟩ := hq j (List.mem_range.1 hj)
      exact ⟨b0, b1⟩
end Go.Proofs.Ytceokpklcfmadaa
