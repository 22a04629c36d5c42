import Derived.Test.YtppabcihbpbfpaaGreatDoorQK18
/-
  DiskAgain: files whose rows lie apart; blocks by their owners.
-/
namespace Go.Proofs.YtppabcihbpbfpaaGreatDoor
open Go Go.RowKit Go.ChangeShapes
open Wb
open Rd
abbrev FX := List UInt8 × Value × List Nat
/-- their blocks -/
def Fq (a : Value) (xs : List FX) (q : Nat) : Prop := a.ownBlock = some q ∨ ∃ x ∈ xs, x.2.1.ownBlock = some q
/-- files whose rows are apart -/
structure FOA (B : Nat) (w : World) (o : Value) (xs : List FX) : Prop where
  fo : FO B w o xs
  ap : ∀ (i j : Nat) (x y : FX), xs[i]? = some x → xs[j]? = some y → i ≠ j → ∀ q, x.2.1.ownBlock = some q → y.2.1.ownBlock ≠ some q
section
variable {B B2 : Nat} {w w' : World} {o v : Value} {xs : List FX} {l : List Nat}
theorem FOA.kept (h : FOA B w o xs) (hb : Below w.heap.size w w') : FOA B w' o xs := ⟨h.fo.kept hb, h.ap⟩
theorem FOA.nil (B : Nat) (w : World) : FOA B w (.slice none 0 0) [] := ⟨FO.nil B w, fun i j x y h => by simp at h⟩
theorem FOA.low (h : FOA B w o xs) (hB : B2 ≤ B) : FOA B2 w o xs := ⟨⟨row_low h.fo.row hB, fun x hx => (h.fo.own x hx).mono hB⟩, h.ap⟩
theorem FOA.fresh (h : FOA B w o xs) (hv : Own w.heap.size w' v l) : ∀ y ∈ xs, ∀ q, y.2.1.ownBlock = some q → v.ownBlock ≠ some q := fun y hy q e e2 => by
  have h1 := (World.ownsRow.lt (h.fo.own y hy).row q e).2
  have h2 := (World.ownsRow.lt hv.row q e2).1
  omega
theorem FOA.app (h : FOA B w o xs) (ty : TypeId) {v : Value} (hne : ∀ y ∈ xs, ∀ q, y.2.1.ownBlock = some q → v.ownBlock ≠ some q) (x : List UInt8 × Value × List Nat) (hx : Own B w x.2.1 x.2.2) (g c : Nat) (hc : LB w g 34 (enF x)) (hmax : xs.length ≤ 1000000000) (hB : B ≤ w.heap.size) (hxv : x.2.1 = v := by rfl) : ∃ o' w', (Builtin.append_ #[25, 25] ty #[o, .slice (some ⟨g, 0, none⟩) 1 c]).run Tryz.prog w = .ok o' w' ∧ FOA B w' o' (xs ++ [x]) ∧ Below B w w' := by
  obtain ⟨o', w', h1, h2, h3⟩ := h.fo.app ty x hx g c hc hmax hB
  subst hxv
  refine ⟨o', w', h1, ⟨h2, fun i j y z hy hz hij q e e2 => ?_⟩, h3⟩
  have key : ∀ (k : Nat) (u : FX), (xs ++ [x])[k]? = some u → (k < xs.length ∧ xs[k]? = some u) ∨ (k = xs.length ∧ u = x) := fun k u hk => by
    by_cases hlt : k < xs.length
    · rw [List.getElem?_append_left hlt] at hk
      exact .inl ⟨hlt, hk⟩
    · have hl := (List.getElem?_eq_some_iff.1 hk).1
      rw [List.length_append, List.length_singleton] at hl
      obtain rfl : k = xs.length := by omega
      rw [List.getElem?_append_right (Nat.le_refl _), Nat.sub_self] at hk
      simp at hk
      exact .inr ⟨rfl, hk.symm⟩
  rcases key i y hy with ⟨i1, i2⟩ | ⟨i1, rfl⟩
  · rcases key j z hz with ⟨j1, j2⟩ | ⟨j1, rfl⟩
    · exact h.ap i j y z i2 j2 hij q e e2
    · exact hne y (List.mem_of_getElem? i2) q e e2
  · rcases key j z hz with ⟨j1, j2⟩ | ⟨j1, rfl⟩
    · exact hne z (List.mem_of_getElem? j2) q e2 e
    · omega
theorem FOA.ge (h : FOA B w o xs) {q : Nat} (hq : Fq o xs q) : B ≤ q := by
  rcases hq with e | ⟨x, hx, e⟩
  · exact (World.ownsRow.lt h.fo.row q e).1
  · exact (World.ownsRow.lt (h.fo.own x hx).row q e).1
theorem FOA.lt (h : FOA B w o xs) {q : Nat} (hq : Fq o xs q) : q < w.heap.size := by
  rcases hq with e | ⟨x, hx, e⟩
  · exact (World.ownsRow.lt h.fo.row q e).2
  · exact (World.ownsRow.lt (h.fo.own x hx).row q e).2
theorem FOA.blk (h : FOA B w o xs) (hb : ∀ q, Fq o xs q → w'.heap[q]? = w.heap[q]?) : FOA B w' o xs :=
  ⟨⟨Mg.row_block h.fo.row fun q e => hb q (.inl e), fun x hx => ⟨Mg.row_block (h.fo.own x hx).row fun q e => hb q (.inr ⟨x, hx, e⟩), (h.fo.own x hx).good⟩⟩, h.ap⟩
/-- the row of the list is no row of bytes -/
theorem FOA.kinds (h : FOA B w o xs) {x : FX} (hx : x ∈ xs) {q : Nat} (e : o.ownBlock = some q) : x.2.1.ownBlock ≠ some q := Mg.kinds_apart h.fo.row (h.fo.own x hx).row (by decide) q e
end
/-- something in memory: its blocks have one owner -/
structure Co (P : World → Prop) (K : Nat → Prop) (w : World) (col : Nat → Nat) (i : Nat) : Prop where
  p : P w
  lt : ∀ q, K q → q < w.heap.size
  c : ∀ q, K q → col q = i
  st : ∀ w1 w2, P w1 → (∀ q, K q → w2.heap[q]? = w1.heap[q]?) → P w2
theorem Co.mv {P : World → Prop} {K : Nat → Prop} {w w' : World} {col col' : Nat → Nat} {i j : Nat} (h : Co P K w col i) (hij : i ≠ j) (hc : ∀ q, q < w.heap.size → col' q = col q) (hs : ∀ q, q < w.heap.size → col q ≠ j → w'.heap[q]? = w.heap[q]?) (hz : w.heap.size ≤ w'.heap.size) : Co P K w' col' i :=
  ⟨h.st w w' h.p fun q hq => hs q (h.lt q hq) (by rw [h.c q hq]; exact hij), fun q hq => Nat.lt_of_lt_of_le (h.lt q hq) hz, fun q hq => (hc q (h.lt q hq)).trans (h.c q hq), h.st⟩
theorem Co.kept {P : World → Prop} {K : Nat → Prop} {w w' : World} {col : Nat → Nat} {i : Nat} (h : Co P K w col i) (hb : Below w.heap.size w w') : Co P K w' col i :=
  ⟨h.st w w' h.p fun q hq => hb.block q (h.lt q hq), fun q hq => Nat.lt_of_lt_of_le (h.lt q hq) hb.size, h.c, h.st⟩
section
variable {w : World} {col : Nat → Nat} {i : Nat}
theorem co_foa {v : Value} {xs : List FX} (h : FOA 0 w v xs) (hc : ∀ q, Fq v xs q → col q = i) : Co (fun w => FOA 0 w v xs) (Fq v xs) w col i := ⟨h, fun _ hq => h.lt hq, hc, fun _ _ h1 h2 => h1.blk h2⟩
theorem co_row {t : TypeId} {c n : Nat} {v : Value} {cells : List Value} (h : w.ownsRow 0 t c v n cells) (hc : ∀ q, v.ownBlock = some q → col q = i) : Co (fun w => w.ownsRow 0 t c v n cells) (fun q => v.ownBlock = some q) w col i := ⟨h, fun q hq => (World.ownsRow.lt h q hq).2, hc, fun _ _ h1 h2 => Mg.row_block h1 h2⟩
theorem co_own {v : Value} {l : List Nat} (h : Own 0 w v l) (hc : ∀ q, v.ownBlock = some q → col q = i) : Co (fun w => Own 0 w v l) (fun q => v.ownBlock = some q) w col i := ⟨h, fun q hq => (World.ownsRow.lt h.row q hq).2, hc, fun _ _ h1 h2 => ⟨Mg.row_block h1.row h2, h1.good⟩⟩
theorem co_dm {g : Nat} {S : Dk.DS} {M : Mm} (h : DM 0 w g S M) (hc : ∀ q, Ft g S M q → col q = i) : Co (fun w => DM 0 w g S M) (Ft g S M) w col i := ⟨h, fun _ hq => (h.ft hq).2, hc, fun _ _ h1 h2 => h1.blk h2⟩
end
/-- the disk with the book -/
def aS (f : Nat) (kl : List Nat) : Dk.DS := ⟨4194304, kl.length, [(Dk.Z, f)], [(Dk.Z, f)], [], false, 0, false, [f], Dk.fo0 f ⟨kl, 1⟩⟩
theorem aS_rdy (f : Nat) : Dk.rdy 4194304 f = aS f [7] := rfl
theorem aS_find (f : Nat) (kl : List Nat) : Dk.findE (aS f kl) Dk.Z = (0, some f) := Dk.find_z _ f rfl rfl
theorem aS_app (f : Nat) (kl l : List Nat) (h : kl.length + l.length ≤ 4194304) : Dk.appE (aS f kl) Dk.Z l = 0 ∧ Dk.app (aS f kl) Dk.Z l = aS f (kl ++ l) := by
  have hf := aS_find f kl
  have hr : ¬ ((l.length : Int) > (aS f kl).quota - (aS f kl).taken) := by
    show ¬ ((l.length : Int) > 4194304 - (kl.length : Int))
    omega
  refine ⟨?_, ?_⟩
  · unfold Dk.appE
    rw [hf, if_pos rfl, if_neg hr]
    rfl
  · unfold Dk.app Dk.fil
    rw [hf, if_pos ⟨rfl, hr⟩]
    show Dk.DS.mk 4194304 ((kl.length : Int) + (l.length : Int)) [(Dk.Z, f)] [(Dk.Z, f)] [] false 0 false [f] (Dk.upd (Dk.fo0 f ⟨kl, 1⟩) f ⟨(Dk.fo0 f ⟨kl, 1⟩ f).data ++ l, (Dk.fo0 f ⟨kl, 1⟩ f).syn⟩) = _
    unfold Dk.fo0 aS
    rw [Dk.upd_upd, Dk.upd_same, List.length_append]
    rfl
theorem aS_fo (f : Nat) (kl : List Nat) : (aS f kl).fo f = ⟨kl, 1⟩ := by
  show Dk.fo0 f ⟨kl, 1⟩ f = _
  unfold Dk.fo0
  rw [Dk.upd_same]
theorem aS_read (f : Nat) (kl : List Nat) : Dk.rdD (aS f kl) Dk.Z = kl := by
  unfold Dk.rdD Dk.fil
  rw [aS_find, if_pos rfl]
  show ((aS f kl).fo f).data = kl
  rw [aS_fo]
def enD (d : Nat × Dk.DS × Mm) : List Value := [fp d.1]
def enW (x : Value × List FX) : List Value := [x.1]
theorem tiF2 : TI 34 25 2 := ti_of (z := .agg #[.string ⟨#[]⟩, .slice none 0 0]) (k := 40) Tryz.underlying25 (by kernel_rfl) rfl (by decide) (by decide)
theorem tiK : TI 71 26 2 := ti_of (z := .agg #[.int .i64 0, .int .i64 0]) (k := 16) Tryz.underlying26 (by kernel_rfl) rfl (by decide) (by decide)
theorem enK_len (c : Int × Int) : (enK c).length = 2 := rfl
theorem enK_one (p : Int × Int) : ∀ u ∈ enK p, u.oneCell' = true := fun u hu => by
  simp [enK] at hu
  rcases hu with rfl | rfl <;> rfl
section
variable {α : Type} {en : α → List Value} {c B : Nat} {w : World} {v : Value} {xs : List α}
/-- one of a literal behind a row -/
theorem row_more {e st : TypeId} (T : TI e st c) (hen : ∀ x, (en x).length = c) (h : w.ownsRow B e c v xs.length (xs.flatMap en)) (x : α) (hone : ∀ u ∈ en x, u.oneCell' = true) (hmax : xs.length ≤ 100000000) (hB : B ≤ w.heap.size) :
    ∃ v' W, (Builtin.append_ #[st, st] st #[v, .slice (some ⟨w.heap.size, 0, none⟩) 1 1]).run Tryz.prog (w.alloc (.cells (en x).toArray e)) = .ok v' W ∧ W.ownsRow B e c v' (xs ++ [x]).length ((xs ++ [x]).flatMap en) ∧ IFr w W (fun q => v.ownBlock = some q) ∧ (∀ q, v'.ownBlock = some q → v.ownBlock = some q ∨ w.heap.size ≤ q) ∧ ∃ a k, v' = .slice a (xs.length + 1) k := by
  obtain ⟨i0, z, k0, h1, h2, h3, h4, h5, h6⟩ := T.i
  have b0 := up0 w (.cells (en x).toArray e)
  have hl := lb_new w (en x) e
  have hb : (xs.length + 1) * k0 ≤ 140737488355328 := by
    have : (xs.length + 1) * k0 ≤ 100000001 * 100 := Nat.mul_le_mul (by omega) h6
    omega
  obtain ⟨v', w', hr, h7, h8, -, h9⟩ := run_append_own_at (P := Tryz.prog) (w.alloc (.cells (en x).toArray e)) B st st e i0 z c k0 T.u h1 h2 h3 h4 h5 T.c0 v xs.length _ (Mg.row_kept h b0) ⟨w.heap.size, 0, none⟩ 1 1 (en x) (by rw [hen, Nat.one_mul]) (fun j u hj => by
    rw [Addr.add_lit, Nat.zero_add]
    exact hl.cell j u hj) hone (by unfold maxLen; omega) hb (Nat.le_trans hB b0.size)
  obtain ⟨a9, k9, e9, -⟩ := Mg.row_shape h7
  refine ⟨v', w', hr, ?_, (IFr.kept b0).trans (IFr.of (F := fun q => v.ownBlock = some q) h8 fun k _ e => e) fun _ _ e => e, fun q e => ?_, a9, k9, e9⟩
  · rw [List.length_append, List.flatMap_append, List.flatMap_singleton]
    exact h7
  · rcases h9 with e2 | e2
    · exact .inl (e2.symm.trans e)
    · rw [e2] at e
      have := Option.some.inj e
      have := b0.size
      exact .inr (by omega)
/-- what is in a row, at a place -/
theorem row_read {e9 : TypeId} (hen : ∀ x, (en x).length = c) (h : w.ownsRow B e9 c v xs.length (xs.flatMap en)) (j : Nat) (x : α) (hx : xs[j]? = some x) (i : Nat) (u : Value) (hu : (en x)[i]? = some u) : ∃ b k, v = .slice (some ⟨b, 0, none⟩) xs.length k ∧ w.cell? ⟨b, j * c + i, none⟩ = some u := by
  obtain ⟨hj, hxe⟩ := List.getElem?_eq_some_iff.1 hx
  have hi : i < c := by
    rw [← hen x]
    exact (List.getElem?_eq_some_iff.1 hu).1
  obtain ⟨a, k, e, -, -, h3⟩ := row_at h
  obtain ⟨b, rfl⟩ := h3 (List.ne_nil_of_length_pos (by omega))
  subst e
  exact ⟨b, k, rfl, by rw [row_cell hen h j hj i hi, hxe]; exact hu⟩
end
/-- cuts behind an empty row -/
theorem cts_row {w : World} {B : Nat} {v0 : Value} (h0 : w.ownsRow B 71 2 v0 0 []) {a : Option Addr} {c : Nat} {cs : List (Int × Int)} (h : CtS w (.slice a cs.length c) cs) (hl : cs.length ≤ 100000000) (hB : B ≤ w.heap.size) (hv0 : ∃ b k, v0 = .slice (some b) 0 k) : ∃ v' w', (Builtin.append_ #[26, 26] 26 #[v0, .slice a cs.length c]).run Tryz.prog w = .ok v' w' ∧ w'.ownsRow B 71 2 v' cs.length (cs.flatMap enK) ∧ Below B w w' := by
  obtain ⟨a', c', e, h1, h2, h3⟩ := h
  simp only [Value.slice.injEq, true_and] at e
  obtain ⟨rfl, rfl⟩ := e
  cases a with
  | none =>
    have e0 : cs = [] := by
      by_cases e : cs = []
      · exact e
      · obtain ⟨b, off, e2, -⟩ := h3 e
        cases e2
    subst e0
    obtain ⟨i0, z, k0, hi, -⟩ := tiK.i
    obtain ⟨b0, k9, rfl⟩ := hv0
    refine ⟨_, w, ?_, h0, Below.refl _ _⟩
    simp [Builtin.append_, run_underlying tiK.u, sizeOf, typeInfo, hi, Builtin.lenOf, Builtin.firstCells, storeCells]
  | some a =>
    obtain ⟨v', w', hr, g, -, b⟩ := row_app (xs := ([] : List (Int × Int))) (ys := cs) tiK enK_len h0 a c (fun x _ => enK_one x) (fun j u hj => by
      have hjl : j < cs.length * 2 := by
        rw [← flat_len enK_len cs]
        exact (List.getElem?_eq_some_iff.1 hj).1
      obtain ⟨b, off, e2, hc⟩ := h3 (List.ne_nil_of_length_pos (by omega))
      obtain rfl := Option.some.inj e2
      rw [Addr.add_lit]
      have hq : j / 2 < cs.length := by omega
      obtain ⟨c0, c1⟩ := hc (j / 2) hq
      obtain ⟨f0, f1⟩ := flatK_at cs (j / 2) hq
      by_cases hm : j % 2 = 0
      · have ej : j = j / 2 * 2 := by omega
        rw [ej, f0] at hj
        rw [ej, ← Option.some.inj hj]
        exact c0
      · have ej : j = j / 2 * 2 + 1 := by omega
        rw [ej, f1] at hj
        rw [ej, ← Option.some.inj hj]
        exact c1) (by simp; omega) hB 26
    rw [List.nil_append] at g
    exact ⟨v', w', hr, g, b⟩
/-- the loop's memory -/
structure AG (w : World) (col : Nat → Nat) (av : Value) (ys : List FX) (cv : Value) (cs : List (Int × Int)) (bv : Value) (bl : List Nat) (kv : Value) (kl : List Nat) (ga f : Nat) (M : Mm) (dv : Value) (ds : List (Nat × Dk.DS × Mm)) (wv : Value) (ws : List (Value × List FX)) : Prop where
  a1 : Co (fun w => FOA 0 w av ys) (Fq av ys) w col 1
  a2 : Co (fun w => w.ownsRow 0 71 2 cv cs.length (cs.flatMap enK)) (fun q => cv.ownBlock = some q) w col 2
  a3 : Co (fun w => Own 0 w bv bl) (fun q => bv.ownBlock = some q) w col 3
  a4 : Co (fun w => Own 0 w kv kl) (fun q => kv.ownBlock = some q) w col 4
  a5 : Co (fun w => DM 0 w ga (aS f kl) M) (Ft ga (aS f kl) M) w col 5
  a6 : Co (fun w => w.ownsRow 0 35 1 dv ds.length (ds.flatMap enD)) (fun q => dv.ownBlock = some q) w col 6
  a7 : Co (fun w => w.ownsRow 0 25 1 wv ws.length (ws.flatMap enW)) (fun q => wv.ownBlock = some q) w col 7
  a8 : ∀ d ∈ ds, Co (fun w => DM 0 w d.1 d.2.1 d.2.2) (Ft d.1 d.2.1 d.2.2) w col 8
  a9 : ∀ x ∈ ws, Co (fun w => FOA 0 w x.1 x.2) (Fq x.1 x.2) w col 9

section
variable {w w' : World} {col : Nat → Nat} {av : Value} {ys : List FX} {cv : Value} {cs : List (Int × Int)} {bv : Value} {bl : List Nat} {kv : Value} {kl : List Nat} {ga f : Nat} {M : Mm} {dv : Value} {ds : List (Nat × Dk.DS × Mm)} {wv : Value} {ws : List (Value × List FX)}
theorem AG.kept (h : AG w col av ys cv cs bv bl kv kl ga f M dv ds wv ws) (hb : Below w.heap.size w w') : AG w' col av ys cv cs bv bl kv kl ga f M dv ds wv ws :=
  ⟨h.a1.kept hb, h.a2.kept hb, h.a3.kept hb, h.a4.kept hb, h.a5.kept hb, h.a6.kept hb, h.a7.kept hb, fun d hd => (h.a8 d hd).kept hb, fun x hx => (h.a9 x hx).kept hb⟩
/-- a byte of a row is another: the row is new in all but its block -/
theorem Wb.Own.put {B : Nat} {w : World} {g n cap : Nat} {l : List Nat} (h : Own B w (.slice (some ⟨g, 0, none⟩) n cap) l) (k b : Nat) (hb : b < 256) : Own B (w.setCell ⟨g, k, none⟩ (.int .u8 (b : Int))) (.slice (some ⟨g, 0, none⟩) n cap) (l.set k b) := by
  have hn : n = l.length := by
    rcases h.row.2 with ⟨e, h0⟩ | ⟨g', cap', cur, e, -⟩
    · cases e
    · simp only [Value.slice.injEq] at e
      exact e.2.1
  subst hn
  have hst := (World.ownsRow.stored h.row k (.int .u8 (b : Int))).1
  have e : (bv l).set k (.int .u8 (b : Int)) = bv (l.set k b) := by unfold bv; rw [List.map_set]
  rw [e] at hst
  refine ⟨?_, fun x hx => ?_⟩
  · rw [List.length_set]
    exact hst
  · rcases List.mem_or_eq_of_mem_set hx with hx | hx
    · exact h.good x hx
    · omega
/-- a byte of the buffer is another -/
theorem AG.putB {g n cap : Nat} (h : AG w col av ys cv cs (.slice (some ⟨g, 0, none⟩) n cap) bl kv kl ga f M dv ds wv ws) (k b : Nat) (hb : b < 256) : AG (w.setCell ⟨g, k, none⟩ (.int .u8 (b : Int))) col av ys cv cs (.slice (some ⟨g, 0, none⟩) n cap) (bl.set k b) kv kl ga f M dv ds wv ws := by
  have hc3 : col g = 3 := h.a3.c g rfl
  have hs : ∀ q, q < w.heap.size → col q ≠ 3 → (w.setCell ⟨g, k, none⟩ (.int .u8 (b : Int))).heap[q]? = w.heap[q]? := fun q _ hq => set_other _ _ _ _ fun e => hq (by rw [show q = g from e]; exact hc3)
  have hz : w.heap.size ≤ (w.setCell ⟨g, k, none⟩ (.int .u8 (b : Int))).heap.size := by simp [World.setCell]
  have mv : ∀ {P K i}, Co P K w col i → i ≠ 3 → Co P K (w.setCell ⟨g, k, none⟩ (.int .u8 (b : Int))) col i := fun hq hi => hq.mv hi (fun _ _ => rfl) hs hz
  exact ⟨mv h.a1 (by decide), mv h.a2 (by decide), co_own (h.a3.p.put k b hb) h.a3.c, mv h.a4 (by decide), mv h.a5 (by decide), mv h.a6 (by decide), mv h.a7 (by decide), fun d hd => mv (h.a8 d hd) (by decide), fun x hx => mv (h.a9 x hx) (by decide)⟩
theorem foa_put {o : Value} {xs : List FX} {B : Nat} (h : FOA B w o xs) (i : Nat) (x : FX) (hx : xs[i]? = some x) {g n cap : Nat} (hv : x.2.1 = .slice (some ⟨g, 0, none⟩) n cap) (k b : Nat) (hb : b < 256) : FOA B (w.setCell ⟨g, k, none⟩ (.int .u8 (b : Int))) o (xs.set i (x.1, x.2.1, x.2.2.set k b)) := by
  have hxm := List.mem_of_getElem? hx
  obtain ⟨hi, hxe⟩ := List.getElem?_eq_some_iff.1 hx
  have hgx : x.2.1.ownBlock = some g := by rw [hv]; rfl
  have hfl : (xs.set i (x.1, x.2.1, x.2.2.set k b)).flatMap enF = xs.flatMap enF := by
    have e : ∀ (l : List FX) (i : Nat) (y z : FX), l[i]? = some y → enF z = enF y → (l.set i z).flatMap enF = l.flatMap enF := by
      intro l
      induction l with
      | nil => intro i y z h _; simp at h
      | cons a r ih =>
        intro i y z h1 h2
        cases i with
        | zero =>
          have : a = y := by simpa using h1
          rw [List.set_cons_zero, List.flatMap_cons, List.flatMap_cons, h2, this]
        | succ i =>
          rw [List.set_cons_succ, List.flatMap_cons, List.flatMap_cons, ih i y z (by simpa using h1) h2]
    exact e xs i x _ hx rfl
  have hset : ∀ (j : Nat) (y : FX), (xs.set i (x.1, x.2.1, x.2.2.set k b))[j]? = some y → ∃ y0, xs[j]? = some y0 ∧ y.2.1 = y0.2.1 ∧ (j = i ∧ y = (x.1, x.2.1, x.2.2.set k b) ∨ j ≠ i ∧ y = y0) := fun j y hj => by
    rw [List.getElem?_set] at hj
    by_cases e : i = j
    · subst e
      rw [if_pos rfl, if_pos hi] at hj
      obtain rfl := Option.some.inj hj
      exact ⟨x, hx, rfl, .inl ⟨rfl, rfl⟩⟩
    · rw [if_neg e] at hj
      exact ⟨y, hj, rfl, .inr ⟨fun e2 => e e2.symm, rfl⟩⟩
  refine ⟨⟨?_, fun y hy => ?_⟩, fun j m y z hj hm hjm q e e2 => ?_⟩
  · rw [hfl, List.length_set]
    exact Mg.row_block h.fo.row fun q e => set_other _ _ _ _ fun e2 => h.kinds hxm e (by rw [hgx, show q = g from e2])
  · obtain ⟨j, hj⟩ := List.mem_iff_getElem?.1 hy
    obtain ⟨y0, h1, h2, h3⟩ := hset j y hj
    rcases h3 with ⟨rfl, rfl⟩ | ⟨hne, rfl⟩
    · have ho := h.fo.own x hxm
      show Own B _ x.2.1 (x.2.2.set k b)
      rw [hv] at ho ⊢
      exact ho.put k b hb
    · have ho := h.fo.own y (List.mem_of_getElem? h1)
      exact ⟨Mg.row_block ho.row fun q e => set_other _ _ _ _ fun e2 => h.ap j i y x h1 hx hne q e (by rw [hgx, show q = g from e2]), ho.good⟩
  · obtain ⟨y0, h1, h2, -⟩ := hset j y hj
    obtain ⟨z0, h3, h4, -⟩ := hset m z hm
    exact h.ap j m y0 z0 h1 h3 hjm q (h2 ▸ e) (h4 ▸ e2)
theorem fq_set {o : Value} {xs : List FX} {i : Nat} {x : FX} (hx : xs[i]? = some x) (l : List Nat) : ∀ q, Fq o (xs.set i (x.1, x.2.1, l)) q → Fq o xs q := fun q hq => by
  rcases hq with e | ⟨y, hy, e⟩
  · exact .inl e
  · rcases List.mem_or_eq_of_mem_set hy with hy | hy
    · exact .inr ⟨y, hy, e⟩
    · rw [hy] at e
      exact .inr ⟨x, List.mem_of_getElem? hx, e⟩
/-- a byte of a file is another -/
theorem AG.putA (h : AG w col av ys cv cs bv bl kv kl ga f M dv ds wv ws) (i : Nat) (x : FX) (hx : ys[i]? = some x) {g n cap : Nat} (hv : x.2.1 = .slice (some ⟨g, 0, none⟩) n cap) (k b : Nat) (hb : b < 256) : AG (w.setCell ⟨g, k, none⟩ (.int .u8 (b : Int))) col av (ys.set i (x.1, x.2.1, x.2.2.set k b)) cv cs bv bl kv kl ga f M dv ds wv ws := by
  have hc3 : col g = 1 := h.a1.c g (.inr ⟨x, List.mem_of_getElem? hx, by rw [hv]; rfl⟩)
  have hs : ∀ q, q < w.heap.size → col q ≠ 1 → (w.setCell ⟨g, k, none⟩ (.int .u8 (b : Int))).heap[q]? = w.heap[q]? := fun q _ hq => set_other _ _ _ _ fun e => hq (by rw [show q = g from e]; exact hc3)
  have hz : w.heap.size ≤ (w.setCell ⟨g, k, none⟩ (.int .u8 (b : Int))).heap.size := by simp [World.setCell]
  have mv : ∀ {P K i}, Co P K w col i → i ≠ 1 → Co P K (w.setCell ⟨g, k, none⟩ (.int .u8 (b : Int))) col i := fun hq hi => hq.mv hi (fun _ _ => rfl) hs hz
  exact ⟨co_foa (foa_put h.a1.p i x hx hv k b hb) fun q hq => h.a1.c q (fq_set hx _ q hq), mv h.a2 (by decide), mv h.a3 (by decide), mv h.a4 (by decide), mv h.a5 (by decide), mv h.a6 (by decide), mv h.a7 (by decide), fun d hd => mv (h.a8 d hd) (by decide), fun x hx => mv (h.a9 x hx) (by decide)⟩
/-- new blocks have this owner -/
def nc (n : Nat) (col : Nat → Nat) (i : Nat) : Nat → Nat := fun q => if q < n then col q else i
theorem nc_old {n : Nat} {col : Nat → Nat} {i q : Nat} (h : q < n) : nc n col i q = col q := if_pos h
theorem nc_new {n : Nat} {col : Nat → Nat} {i q : Nat} (h : n ≤ q) : nc n col i q = i := if_neg (by omega)
/-- without the book's bytes and the disk's: both in one step -/
structure AH (w : World) (col : Nat → Nat) (av : Value) (ys : List FX) (cv : Value) (cs : List (Int × Int)) (bv : Value) (bl : List Nat) (kv : Value) (kl kd : List Nat) (ga f : Nat) (M : Mm) (dv : Value) (ds : List (Nat × Dk.DS × Mm)) (wv : Value) (ws : List (Value × List FX)) : Prop where
  a1 : Co (fun w => FOA 0 w av ys) (Fq av ys) w col 1
  a2 : Co (fun w => w.ownsRow 0 71 2 cv cs.length (cs.flatMap enK)) (fun q => cv.ownBlock = some q) w col 2
  a3 : Co (fun w => Own 0 w bv bl) (fun q => bv.ownBlock = some q) w col 3
  a4 : Co (fun w => Own 0 w kv kl) (fun q => kv.ownBlock = some q) w col 4
  a5 : Co (fun w => DM 0 w ga (aS f kd) M) (Ft ga (aS f kd) M) w col 5
  a6 : Co (fun w => w.ownsRow 0 35 1 dv ds.length (ds.flatMap enD)) (fun q => dv.ownBlock = some q) w col 6
  a7 : Co (fun w => w.ownsRow 0 25 1 wv ws.length (ws.flatMap enW)) (fun q => wv.ownBlock = some q) w col 7
  a8 : ∀ d ∈ ds, Co (fun w => DM 0 w d.1 d.2.1 d.2.2) (Ft d.1 d.2.1 d.2.2) w col 8
  a9 : ∀ x ∈ ws, Co (fun w => FOA 0 w x.1 x.2) (Fq x.1 x.2) w col 9
theorem AG.appH (h : AG w col av ys cv cs bv bl kv kl ga f M dv ds wv ws) {kl2 : List Nat} (hp : DPost 0 ga (aS f kl) M w (aS f kl2) w') : ∃ M', AH w' (nc w.heap.size col 5) av ys cv cs bv bl kv kl kl2 ga f M' dv ds wv ws ∧ IFr w w' (Ft ga (aS f kl) M) := by
  obtain ⟨M', h1, h2, h3⟩ := hp
  have mv : ∀ {P K i}, Co P K w col i → i ≠ 5 → Co P K w' (nc w.heap.size col 5) i := fun hq hi => hq.mv hi (fun _ hl => nc_old hl) (fun q hl hne => h2.block q hl fun e => hne (h.a5.c q e)) h2.size
  have hft : ∀ q, Ft ga (aS f kl2) M' q → nc w.heap.size col 5 q = 5 := fun q hq => by
    rcases h3 q hq with e | e
    · rw [nc_old (h.a5.lt q e)]
      exact h.a5.c q e
    · exact nc_new e
  exact ⟨M', ⟨mv h.a1 (by decide), mv h.a2 (by decide), mv h.a3 (by decide), mv h.a4 (by decide), co_dm h1 hft, mv h.a6 (by decide), mv h.a7 (by decide), fun d hd => mv (h.a8 d hd) (by decide), fun x hx => mv (h.a9 x hx) (by decide)⟩, h2⟩
theorem AH.kept {kd : List Nat} (h : AH w col av ys cv cs bv bl kv kl kd ga f M dv ds wv ws) (hb : Below w.heap.size w w') : AH w' col av ys cv cs bv bl kv kl kd ga f M dv ds wv ws :=
  ⟨h.a1.kept hb, h.a2.kept hb, h.a3.kept hb, h.a4.kept hb, h.a5.kept hb, h.a6.kept hb, h.a7.kept hb, fun d hd => (h.a8 d hd).kept hb, fun x hx => (h.a9 x hx).kept hb⟩
/-- the book has taken the same -/
theorem AH.book (h : AH w col av ys cv cs bv bl kv kl (kl ++ bl) ga f M dv ds wv ws) (hl : kl.length + bl.length ≤ 4194304) : ∃ v' w', (Builtin.append_ #[32, 32] 32 #[kv, bv]).run Tryz.prog w = .ok v' w' ∧ AG w' (nc w.heap.size col 4) av ys cv cs bv bl v' (kl ++ bl) ga f M dv ds wv ws ∧ IFr w w' (fun q => kv.ownBlock = some q) ∧ ∃ a c, v' = .slice a (kl.length + bl.length) c := by
  obtain ⟨v', w', hr, h1, h2, h3⟩ := run_appB w 32 0 kv kl h.a4.p bv bl h.a3.p.bs (by omega) (Nat.zero_le _)
  have h2' : IFr w w' (fun q => kv.ownBlock = some q) := IFr.of h2 fun k _ e => e
  have mv : ∀ {P K i}, Co P K w col i → i ≠ 4 → Co P K w' (nc w.heap.size col 4) i := fun hq hi => hq.mv hi (fun _ hl => nc_old hl) (fun q hl hne => h2'.block q hl fun e => hne (h.a4.c q e)) h2'.size
  obtain ⟨a9, c9, e9, -⟩ := Mg.row_shape h1.row
  refine ⟨v', w', hr, ⟨mv h.a1 (by decide), mv h.a2 (by decide), mv h.a3 (by decide), co_own h1 fun q e => ?_, mv h.a5 (by decide), mv h.a6 (by decide), mv h.a7 (by decide), fun d hd => mv (h.a8 d hd) (by decide), fun x hx => mv (h.a9 x hx) (by decide)⟩, h2', a9, c9, by rw [← List.length_append]; exact e9⟩
  rcases h3 with e2 | e2
  · have e3 := e2.symm.trans e
    rw [nc_old (h.a4.lt q e3)]
    exact h.a4.c q e3
  · rw [e2] at e
    have := Option.some.inj e
    exact nc_new (by omega)
end
end Go.Proofs.YtppabcihbpbfpaaGreatDoor
