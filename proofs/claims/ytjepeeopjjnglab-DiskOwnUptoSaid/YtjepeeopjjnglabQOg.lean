import Derived.Test.YtjepeeopjjnglabQOf
import Derived.Test.YtjepeeopjjnglabQOa
/-
  The Book: spoils.
-/
namespace Go.Proofs.Ytjepeeopjjnglab
open Go Go.RowKit Go.ChangeShapes
open Wb
open Cb
/-- files that were handed out: their rows are apart -/
abbrev FX := List UInt8 × Value × List Nat
structure FA (w : World) (a : Value) (xs : List FX) : Prop where
  row : w.ownsRow 0 65 2 a xs.length (xs.flatMap enF)
  own : ∀ x ∈ xs, Own 0 w x.2.1 x.2.2
  ap : ∀ (i j : Nat) (x y : FX), xs[i]? = some x → xs[j]? = some y → i ≠ j → ∀ q, x.2.1.ownBlock = some q → y.2.1.ownBlock ≠ some q
/-- their blocks -/
def Fq (a : Value) (xs : List FX) (q : Nat) : Prop := a.ownBlock = some q ∨ ∃ x ∈ xs, x.2.1.ownBlock = some q
section
variable {w w' : World} {a : Value} {xs : List FX}
theorem FA.blk (h : FA w a xs) (hb : ∀ q, Fq a xs q → w'.heap[q]? = w.heap[q]?) : FA w' a xs := ⟨Mg.row_block h.row fun q e => hb q (.inl e), fun x hx => ⟨Mg.row_block (h.own x hx).row fun q e => hb q (.inr ⟨x, hx, e⟩), (h.own x hx).good⟩, h.ap⟩
theorem FA.lt (h : FA w a xs) {q : Nat} (hq : Fq a xs q) : q < w.heap.size := by
  rcases hq with e | ⟨x, hx, e⟩
  · exact (World.ownsRow.lt h.row q e).2
  · exact (World.ownsRow.lt (h.own x hx).row q e).2
theorem FA.kept (h : FA w a xs) (hb : Below w.heap.size w w') : FA w' a xs := h.blk fun q hq => hb.block q (h.lt hq)
theorem FA.kinds (h : FA w a xs) {x : FX} (hx : x ∈ xs) {q : Nat} (e : a.ownBlock = some q) : x.2.1.ownBlock ≠ some q := Mg.kinds_apart h.row (h.own x hx).row (by decide) q e
theorem FA.fls (h : FA w a xs) : Fls (Fq a xs) w a (xs.map fun x => (x.1, x.2.2)) := by
  have h9 := (FO.mk h.row h.own : FO 0 w a xs).fls
  obtain ⟨aa, c, e, h1, h2, h3⟩ := h9.sh
  rw [List.length_map] at e h1
  refine ⟨aa, c, by rw [List.length_map]; exact e, by rw [List.length_map]; exact h1, h2, fun hne => ?_⟩
  obtain ⟨b, off, e2, -, h4⟩ := h3 hne
  refine ⟨b, off, e2, .inl (by rw [e, e2]; rfl), fun j hj => ?_⟩
  obtain ⟨k1, dv, k2, k3, -⟩ := h4 j hj
  have hjx : j < xs.length := by simpa using hj
  refine ⟨k1, dv, k2, k3, fun q o n c2 e5 => ?_⟩
  rw [e2] at e
  subst e
  have hcell := h.row
  obtain ⟨off0, hh⟩ : off = 0 ∧ True := by
    rcases h.row.2 with ⟨e6, -⟩ | ⟨g, cap, cur, e6, -⟩
    · simp at e6
    · simp only [Value.slice.injEq, Option.some.injEq, Addr.mk.injEq] at e6
      exact ⟨e6.1.2.1, trivial⟩
  subst off0
  have hc1 := hcell.cellAt (j * 2 + 1) (by omega)
  rw [(flatF_at xs j hjx).2] at hc1
  rw [Nat.zero_add, hc1] at k2
  cases k2
  refine .inr ⟨xs[j], List.getElem_mem hjx, ?_⟩
  rw [e5]
  rfl
end
/-- while they are spoilt: the names of the first are words, the others' data stand -/
structure FW (w : World) (a : Value) (xs : List FX) (s : ByteArray) (k : Nat) : Prop where
  row : ∃ ys, w.ownsRow 0 65 2 a xs.length ys ∧ (∀ j, j < k → kF.ok (.string s) ((ys.drop (j * 2)).take 2)) ∧ ∀ (j : Nat) (x : FX), xs[j]? = some x → ys[j * 2 + 1]? = some x.2.1
  own : ∀ (j : Nat) (x : FX), k ≤ j → xs[j]? = some x → Own 0 w x.2.1 x.2.2
/-- the blocks that are left -/
def Fz (a : Value) (xs : List FX) (k q : Nat) : Prop := a.ownBlock = some q ∨ ∃ (j : Nat) (x : FX), k ≤ j ∧ xs[j]? = some x ∧ x.2.1.ownBlock = some q
section
variable {w w' : World} {a : Value} {xs : List FX} {s : ByteArray} {k : Nat}
theorem FA.fw (h : FA w a xs) (s : ByteArray) : FW w a xs s 0 := ⟨⟨_, h.row, fun j hj => by omega, fun j x hx => by
  have hj := (List.getElem?_eq_some_iff.1 hx)
  rw [(flatF_at xs j hj.1).2, hj.2]⟩, fun j x _ hx => h.own x (List.mem_of_getElem? hx)⟩
theorem Fz.fq {q : Nat} (h : Fz a xs k q) : Fq a xs q := by
  rcases h with e | ⟨j, x, -, h2, e⟩
  · exact .inl e
  · exact .inr ⟨x, List.mem_of_getElem? h2, e⟩
theorem Fz.up {q : Nat} (h : Fz a xs (k + 1) q) : Fz a xs k q := h.imp id fun ⟨j, x, h1, h2⟩ => ⟨j, x, by omega, h2⟩
theorem FW.blk (h : FW w a xs s k) (hb : ∀ q, Fz a xs k q → w'.heap[q]? = w.heap[q]?) : FW w' a xs s k := by
  obtain ⟨ys, h1, h2⟩ := h.row
  exact ⟨⟨ys, Mg.row_block h1 fun q e => hb q (.inl e), h2⟩, fun j x hj hx => ⟨Mg.row_block (h.own j x hj hx).row fun q e => hb q (.inr ⟨j, x, hj, hx, e⟩), (h.own j x hj hx).good⟩⟩
/-- the next one's data are gone -/
theorem FW.tail (h : FW w a xs s k) (hb : ∀ q, Fz a xs (k + 1) q → w'.heap[q]? = w.heap[q]?) : ∃ ys, w'.ownsRow 0 65 2 a xs.length ys ∧ (∀ j, j < k → kF.ok (.string s) ((ys.drop (j * 2)).take 2)) ∧ (∀ (j : Nat) (x : FX), xs[j]? = some x → ys[j * 2 + 1]? = some x.2.1) ∧ ∀ (j : Nat) (x : FX), k + 1 ≤ j → xs[j]? = some x → Own 0 w' x.2.1 x.2.2 := by
  obtain ⟨ys, h1, h2, h3⟩ := h.row
  exact ⟨ys, Mg.row_block h1 fun q e => hb q (.inl e), h2, h3, fun j x hj hx => ⟨Mg.row_block (h.own j x (by omega) hx).row fun q e => hb q (.inr ⟨j, x, hj, hx, e⟩), (h.own j x (by omega) hx).good⟩⟩
theorem FW.put {ab : Option Addr} {cb : Nat} {ys : List Value} (hr : w.ownsRow 0 65 2 (.slice ab xs.length cb) xs.length ys) (h2 : ∀ j, j < k → kF.ok (.string s) ((ys.drop (j * 2)).take 2)) (h3 : ∀ (j : Nat) (x : FX), xs[j]? = some x → ys[j * 2 + 1]? = some x.2.1) (h4 : ∀ (j : Nat) (x : FX), k + 1 ≤ j → xs[j]? = some x → Own 0 w x.2.1 x.2.2) (hk : k < xs.length) : ∃ b, ab = some ⟨b, 0, none⟩ ∧ (∃ y, w.cell? ⟨b, k * 2, none⟩ = some y) ∧ w.frozen? ⟨b, k * 2, none⟩ = false ∧ FW (w.setCell ⟨b, k * 2, none⟩ (.string s)) (.slice ab xs.length cb) xs s (k + 1) ∧ Fr w (w.setCell ⟨b, k * 2, none⟩ (.string s)) (· = b) := by
  have hl := hr.1
  rcases hr.2 with ⟨e1, h0⟩ | ⟨b, cap', cur, e1, -⟩
  · omega
  · simp only [Value.slice.injEq] at e1
    obtain ⟨rfl, -, rfl⟩ := e1
    have hcell : w.cell? ⟨b, k * 2, none⟩ = ys[k * 2]? := hr.cellAt (k * 2) (by omega)
    refine ⟨b, rfl, ⟨ys[k * 2]'(by omega), by rw [hcell]; exact List.getElem?_eq_getElem _⟩, World.ownsRow.frozenAt hr (k * 2), ⟨⟨_, (World.ownsRow.stored hr (k * 2) (.string s)).1, fd_elem ys 2 xs.length k 0 (.string s) (kF.ok (.string s)) hl hk (by omega) (fun x hx => by
      show (x.set 0 (Value.string s))[0]? = some _
      rw [List.getElem?_set_self (by omega)]) h2, fun j x hx => ?_⟩, fun j x hj hx => ⟨Mg.row_block (h4 j x hj hx).row fun q e => set_other _ _ _ _ fun e2 => ?_, (h4 j x hj hx).good⟩⟩, fr_set _ _ _ _⟩
    · rw [List.getElem?_set_ne (by omega)]
      exact h3 j x hx
    · refine Mg.kinds_apart hr (h4 j x hj hx).row (by decide) q ?_ e
      rw [show q = b from e2]
      rfl
end
set_option maxRecDepth 100000 in
set_option maxHeartbeats 8000000 in
theorem dlspoils_any (B g : Nat) (C : Nat → Option Cl) (V : List Value) (l f n : List En) (lh fh nh : List (Value × Nat)) (b : Value) (xs : List FX) (w : World) (h : Bk B w C g V l f n lh fh nh) (hr : FA w b xs) (hm : xs.length ≤ 5000) (hm2 : ∀ x ∈ xs, x.2.2.length ≤ 5000000) (hl : l.length + xs.length ≤ 1000000) (hl2 : f.length ≤ 1000000) (ho : Out w C g V (Fq b xs)) (hb : ∀ q, Fq b xs q → B ≤ q) (hB : B ≤ w.heap.size) :
    Calls Try.prog 41 #[.pointer (some ⟨g, 0, none⟩), b] w fun e w' => e = .returned (.tuple #[]) ∧ ∃ C' V' l' mk, Bk B w' C' g V' (l ++ l') (f ++ [(b, xs.length, mk)]) n lh fh nh ∧ l'.length = xs.length ∧ St w w' C C' g V V' (Fq b xs) := by
  obtain ⟨v0, v1, v2, v3, v4, v5, v6, v7, v8, hV⟩ := h.nine
  have hr2 := h.bm.cell 2 v2 (by rw [hV]; rfl)
  obtain ⟨a2, c2, e2, -, -, -⟩ := h.bm.at_ 2 v2 35 (f.map (·.1)) (by rw [hV]; rfl) rfl
  rw [List.length_map] at e2
  subst e2
  obtain ⟨ab, cb, eb, hb1, hb2⟩ := Mg.row_shape hr.row
  subst eb
  obtain ⟨m, hmx⟩ : ∃ m, m = xs.length := ⟨_, rfl⟩
  obtain ⟨k0, hk0⟩ : ∃ k, k = f.length := ⟨_, rfl⟩
  rw [← hk0] at hr2 hl2
  unfold maxLen at hb2
  have HWD : Hid (Calls Try.prog 60 #[.int .i64 (k0 : Int)] w fun e w' => ∃ s : ByteArray, e = .returned (.string s) ∧ s.size ≤ 13 ∧ Below w.heap.size w w') := dlword_any k0 w (by omega)
  have HH : Hid (Bk B w C g V l f n lh fh nh ∧ FA w (.slice ab xs.length cb) xs ∧ Out w C g V (Fq (.slice ab xs.length cb) xs) ∧ (∀ q, Fq (.slice ab xs.length cb) xs q → B ≤ q)) := ⟨h, hr, ho, hb⟩
  have HX : Hid (m = xs.length ∧ (∀ x ∈ xs, x.2.2.length ≤ 5000000) ∧ l.length + xs.length ≤ 1000000 ∧ k0 = f.length) := ⟨hmx, hm2, hl, hk0⟩
  rw [← hmx] at hb1 hm ⊢
  clear h hr ho hb hV hk0 hm2 hl hmx
  go_enter Try.func41, Try.ntmps41
  go_wp2_with fail
  refine HWD.out.mono ?_
  rintro e W0 ⟨s, rfl, -, bw⟩
  have H0 : Hid (Bk B W0 C g V l f n lh fh nh ∧ FA W0 (.slice ab xs.length cb) xs ∧ Out W0 C g V (Fq (.slice ab xs.length cb) xs) ∧ Below w.heap.size w W0) := ⟨HH.out.1.kept bw, HH.out.2.1.kept bw, fun q hq => ⟨Nat.lt_of_lt_of_le (HH.out.2.2.1 q hq).1 bw.size, (HH.out.2.2.1 q hq).2⟩, bw⟩
  clear bw HWD hr2
  go_wp2_with fail
  go_loopw [5] (fun i wr => ∃ (k : Nat) (C1 : Nat → Option Cl) (V1 : List Value) (l1 : List En), k ≤ m ∧ i = .int .i64 (k : Int) ∧ l1.length = k ∧ Bk B wr C1 g V1 (l ++ l1) f n lh fh nh ∧ St W0 wr C C1 g V V1 (Fq (.slice ab xs.length cb) xs) ∧ FW wr (.slice ab xs.length cb) xs s k ∧ Out wr C1 g V1 (Fz (.slice ab xs.length cb) xs k)) (fun i _ => m - (intOf i).toNat)
  case atStart => exact ⟨0, C, V, [], Nat.zero_le _, rfl, rfl, by rw [List.append_nil]; exact H0.out.1, St.refl _ _ _ _ _, H0.out.2.1.fw s, fun q hq => H0.out.2.2.1 q hq.fq⟩
  case round =>
    obtain ⟨k, C1, V1, l1, hk, rfl, hl1, hbk, hst, hfw, hou⟩ := hrel
    have HF : Hid (l1.length = k ∧ Bk B wr C1 g V1 (l ++ l1) f n lh fh nh ∧ St W0 wr C C1 g V V1 (Fq (.slice ab xs.length cb) xs) ∧ FW wr (.slice ab xs.length cb) xs s k ∧ Out wr C1 g V1 (Fz (.slice ab xs.length cb) xs k)) := ⟨hl1, hbk, hst, hfw, hou⟩
    clear hl1 hbk hst hfw hou
    by_cases hlt : k < m
    · have hkx : k < xs.length := by rw [← HX.out.1]; exact hlt
      obtain ⟨x, hx⟩ : ∃ x, xs[k]? = some x := ⟨xs[k], List.getElem?_eq_getElem hkx⟩
      have hxm := List.mem_of_getElem? hx
      obtain ⟨ys, y1, -, y3⟩ := HF.out.2.2.2.1.row
      have hcd := y3 k x hx
      obtain ⟨bq, hbq, hc1⟩ : ∃ bq, ab = some ⟨bq, 0, none⟩ ∧ wr.cell? ⟨bq, k * 2 + 1, none⟩ = some x.2.1 := by
        rcases y1.2 with ⟨e1, h0⟩ | ⟨q, cap', cur, e1, -⟩
        · omega
        · simp only [Value.slice.injEq] at e1
          obtain ⟨rfl, -, rfl⟩ := e1
          exact ⟨q, rfl, by rw [y1.cellAt (k * 2 + 1) (by omega)]; exact hcd⟩
      subst hbq
      have hox := HF.out.2.2.2.1.own k x (Nat.le_refl _) hx
      obtain ⟨a9, c9, e9, -⟩ := Mg.row_shape hox.row
      have hsz := HF.out.2.2.1.fr.size
      have hsz0 := H0.out.2.2.2.size
      have HKP : Hid (Calls Try.prog 42 #[.pointer (some ⟨g, 0, none⟩), x.2.1] wr fun e w' => e = .returned (.tuple #[]) ∧ ∃ C' V' mk, Bk B w' C' g V' ((l ++ l1) ++ [(x.2.1, x.2.2.length, mk)]) f n lh fh nh ∧ St wr w' C1 C' g V1 V' fun q => x.2.1.ownBlock = some q) := dlkeep_any B g C1 V1 (l ++ l1) f n lh fh nh x.2.1 _ _ wr HF.out.2.1 (row_low hox.row (Nat.zero_le _)) (HX.out.2.1 x hxm) (by rw [List.length_append, HF.out.1]; have := HX.out.2.2.1; omega) (fun q e => HF.out.2.2.2.2 q (.inr ⟨k, x, Nat.le_refl _, hx, e⟩)) (fun q e => HH.out.2.2.2 q (.inr ⟨x, hxm, e⟩)) (by omega)
      have HE9 : Hid (x.2.1 = .slice a9 x.2.2.length c9) := e9
      rw [e9] at hc1 HKP
      clear y1 y3 hcd hox e9 hsz hsz0
      go_wp2_with fail
      refine HKP.out.mono ?_
      rintro e Wk ⟨rfl, C2, V2, mk, bk2, st2⟩
      rw [← HE9.out] at bk2 st2
      obtain ⟨q1, q2⟩ := st2.same (fun q hq => HF.out.2.2.2.2 q hq.up : Out wr C1 g V1 (Fz (.slice (some ⟨bq, 0, none⟩) xs.length cb) xs (k + 1))) fun q hq e => by
        rcases hq with e2 | ⟨j, y, h1, h2, e2⟩
        · exact H0.out.2.1.kinds hxm e2 e
        · exact H0.out.2.1.ap j k y x h2 hx (by omega) q e2 e
      obtain ⟨ys2, t1, t2, t3, t4⟩ := HF.out.2.2.2.1.tail q1
      obtain ⟨b8, e8, ⟨y8, h8⟩, z8, f8, r8⟩ := FW.put t1 t2 t3 t4 hkx
      simp only [Option.some.injEq, Addr.mk.injEq, and_true] at e8
      subst e8
      have hbo := q2 bq (.inl rfl)
      have HN : Hid (Bk B (Wk.setCell ⟨bq, k * 2, none⟩ (.string s)) C2 g V2 (l ++ (l1 ++ [(x.2.1, x.2.2.length, mk)])) f n lh fh nh ∧ St W0 (Wk.setCell ⟨bq, k * 2, none⟩ (.string s)) C C2 g V V2 (Fq (.slice (some ⟨bq, 0, none⟩) xs.length cb) xs) ∧ FW (Wk.setCell ⟨bq, k * 2, none⟩ (.string s)) (.slice (some ⟨bq, 0, none⟩) xs.length cb) xs s (k + 1) ∧ Out (Wk.setCell ⟨bq, k * 2, none⟩ (.string s)) C2 g V2 (Fz (.slice (some ⟨bq, 0, none⟩) xs.length cb) xs (k + 1))) := by
        refine ⟨?_, ?_, f8, fun q hq => ⟨Nat.lt_of_lt_of_le (q2 q hq).1 r8.size, (q2 q hq).2⟩⟩
        · rw [← List.append_assoc]
          refine bk2.blk fun q hq => r8.block q (bk2.lt hq).2 fun e => ?_
          rw [show q = bq from e] at hq
          rcases hq with e2 | e2
          · exact hbo.2.2 e2
          · exact e2 hbo.2.1
        · refine ((HF.out.2.2.1.trans st2).trans (⟨r8.mono fun q e => .inr (.inr e), fun q hq => .inl hq, fun q hq => .inl hq⟩ : St Wk (Wk.setCell ⟨bq, k * 2, none⟩ (.string s)) C2 C2 g V2 V2 (· = bq))).mono fun q hq => ?_
          rcases hq with (e | e) | e
          · exact e
          · exact .inr ⟨x, hxm, e⟩
          · rw [e]
            exact .inl rfl
      clear bk2 st2 q1 q2 t1 t2 t3 t4 f8 r8 hbo HKP hc1
      go_wp2_with fail
      go_roundw
      case rel => exact ⟨k + 1, C2, V2, _, by omega, by go_num, by rw [List.length_append, HF.out.1]; rfl, HN.out⟩
      case measure => simp [intOf]; omega
    · obtain rfl : k = m := by omega
      obtain ⟨v0, v1, v2, v3, v4, v5, v6, v7, v8, hV⟩ := HF.out.2.1.nine
      obtain ⟨a0, c0, e0, -, -, -⟩ := HF.out.2.1.bm.at_ 2 v2 35 (f.map (·.1)) (by rw [hV]; rfl) rfl
      rw [List.length_map] at e0
      subst e0
      obtain ⟨a1, c1, e1, -, -, -⟩ := HF.out.2.1.bm.at_ 4 v4 9 (f.map (·.2.2)) (by rw [hV]; rfl) rfl
      rw [List.length_map] at e1
      subst e1
      have hbk := HF.out.2.1
      have hsz0 := H0.out.2.2.2.size
      have hsz := HF.out.2.2.1.fr.size
      have HV : Hid (V1 = [v0, v1, .slice a0 f.length c0, v3, .slice a1 f.length c1, v5, v6, v7, v8]) := hV
      clear hV
      obtain ⟨w5, W5, hr5, s5, m5, f5, o5, a5, d5, e5⟩ := Bm.lit hbk.bm 2 (.slice a0 f.length c0) 35 (f.map (·.1)) (by rw [HV.out]; rfl) rfl 30 30 _ 24 infFS rfl Try.underlying30 (.slice ab xs.length cb) rfl (by rw [List.length_map, ← HX.out.2.2.2]; omega) (by omega) (by omega)
      have hsz5 := f5.size
      obtain ⟨w6, W6, hr6, s6, m6, f6, o6, a6, d6, e6⟩ := Bm.lit m5 4 (.slice a1 f.length c1) 9 (f.map (·.2.2)) (by rw [HV.out]; rfl) rfl 32 32 _ 16 infS rfl Try.underlying32 (.string s) rfl (by rw [List.length_map, ← HX.out.2.2.2]; omega) (by omega) (by omega)
      have t0 := s5.cell 2 (.slice a0 f.length c0) (by rw [HV.out]; rfl)
      have t1 := s5.cell 4 (.slice a1 f.length c1) (by rw [HV.out]; rfl)
      have z0 := s5.free 2
      have t2 := s6.cell 4 (.slice a1 f.length c1) (by rw [HV.out]; rfl)
      have z1 := s6.free 4
      have r0 := hbk.bm.cell 2 (.slice a0 f.length c0) (by rw [HV.out]; rfl)
      have HE : Hid (∃ C' V' l' mk, Bk B (W6.setCell ⟨g, 4, none⟩ w6) C' g V' (l ++ l') (f ++ [(.slice ab xs.length cb, xs.length, mk)]) n lh fh nh ∧ l'.length = xs.length ∧ St w (W6.setCell ⟨g, 4, none⟩ w6) C C' g V V' (Fq (.slice ab xs.length cb) xs)) := by
        have hD : ((bkD (l ++ l1) f n lh fh nh).set 2 (35, f.map (·.1) ++ [Value.slice ab xs.length cb])).set 4 (9, f.map (·.2.2) ++ [Value.string s]) = bkD (l ++ l1) (f ++ [(Value.slice ab xs.length cb, xs.length, Value.string s)]) n lh fh nh := by
          generalize l ++ l1 = l9
          unfold bkD
          rw [List.map_append, List.map_append]
          rfl
        have hf2 : Fr wr (W6.setCell ⟨g, 4, none⟩ w6) (Bo g V1) := f5.trans f6 fun q hq e => by
          rcases o5 q e with e2 | e2
          · exact e2
          · omega
        have hfd : Fd wr 65 2 (.slice ab xs.length cb) xs.length (kF.ok (.string s)) xs.length := by
          obtain ⟨ys, h1, h2, -⟩ := HF.out.2.2.2.1.row
          exact ⟨ys, h1, by rw [← HX.out.1]; exact h2⟩
        have hou : Out wr C1 g V1 fun q => (Value.slice ab xs.length cb).ownBlock = some q := fun q e => HF.out.2.2.2.2 q (.inl e)
        obtain ⟨C', k1, k2⟩ := hbk.keepF (P0 := fun q => (Value.slice ab xs.length cb).ownBlock = some q) hou (b := .slice ab xs.length cb) (mk := .string s) (m := xs.length) (fun q e => e) (fun q e => HH.out.2.2.2 q (.inl e)) (by rw [← HX.out.1]; omega) (V' := (V1.set 2 w5).set 4 w6) (w' := W6.setCell ⟨g, 4, none⟩ w6) (by rw [← hD]; exact m6) (hf2.mono fun q e => .inl e) (fun q hq => by
          rcases o6 q hq with e | e
          · exact o5 q e
          · exact .inr (by omega)) (hfd.blk fun q e => hf2.block q (hou q e).1 fun e2 => (hou q e).2.2 e2) ⟨s, rfl⟩
        refine ⟨C', _, l1, _, k1, by rw [HF.out.1]; exact HX.out.1, (((St.kept (P := fun _ => False) H0.out.2.2.2).trans HF.out.2.2.1).trans k2).mono fun q hq => ?_⟩
        rcases hq with (e | e) | e
        · exact e.elim
        · exact e
        · exact .inl e
      have hz5 : (W5.setCell ⟨g, 2, none⟩ w5).heap.size = W5.heap.size := by simp
      rw [hz5] at hr6
      rw [List.length_map] at e5 e6
      have HMX : Hid (k = xs.length) := HX.out.1
      rw [← HMX.out] at hr5
      clear hz5 m5 m6 s5 s6 f5 f6 o5 o6 hbk hsz5
      subst e5 e6
      go_wp2_with (at_builtin; first | refine wpList_appRun rfl (.tmp 34) (.tmp 36) 30 rfl rfl rfl hr5 ?_ | refine wpList_appRun rfl (.tmp 44) (.tmp 46) 32 rfl rfl rfl hr6 ?_)
      go_end0
      exact ⟨rfl, by rw [HMX.out]; exact HE.out⟩
end Go.Proofs.Ytjepeeopjjnglab

/-
  Package disk: Files and Crash hand out rows that are apart from one another.
-/
namespace Go.Proofs.Ytjepeeopjjnglab
open Go Go.RowKit Go.ChangeShapes
open Wb
/-- files whose rows are apart -/
structure FOA (B : Nat) (w : World) (o : Value) (xs : List FX) : Prop where
  fo : FO B w o xs
  ap : ∀ (i j : Nat) (x y : FX), xs[i]? = some x → xs[j]? = some y → i ≠ j → ∀ q, x.2.1.ownBlock = some q → y.2.1.ownBlock ≠ some q
section
variable {B B2 : Nat} {w w' : World} {o v : Value} {xs : List FX} {l : List Nat}
theorem FOA.kept (h : FOA B w o xs) (hb : Below w.heap.size w w') : FOA B w' o xs := ⟨h.fo.kept hb, h.ap⟩
theorem FOA.nil (B : Nat) (w : World) : FOA B w (.slice none 0 0) [] := ⟨FO.nil B w, fun i j x y h => by simp at h⟩
theorem FOA.low (h : FOA B w o xs) (hB : B2 ≤ B) : FOA B2 w o xs := ⟨⟨row_low h.fo.row hB, fun x hx => (h.fo.own x hx).mono hB⟩, h.ap⟩
theorem FOA.fresh (h : FOA B w o xs) (hv : Own w.heap.size w' v l) : ∀ y ∈ xs, ∀ q, y.2.1.ownBlock = some q → v.ownBlock ≠ some q := fun y hy q e e2 => by
  have h1 := (World.ownsRow.lt (h.fo.own y hy).row q e).2
  have h2 := (World.ownsRow.lt hv.row q e2).1
  omega
theorem FOA.app (h : FOA B w o xs) (ty : TypeId) {v : Value} (hne : ∀ y ∈ xs, ∀ q, y.2.1.ownBlock = some q → v.ownBlock ≠ some q) (x : List UInt8 × Value × List Nat) (hx : Own B w x.2.1 x.2.2) (g c : Nat) (hc : LB w g 65 (enF x)) (hmax : xs.length ≤ 1000000000) (hB : B ≤ w.heap.size) (hxv : x.2.1 = v := by rfl) : ∃ o' w', (Builtin.append_ #[35, 35] ty #[o, .slice (some ⟨g, 0, none⟩) 1 c]).run Try.prog w = .ok o' w' ∧ FOA B w' o' (xs ++ [x]) ∧ Below B w w' := by
  obtain ⟨o', w', h1, h2, h3⟩ := h.fo.app ty x hx g c hc hmax hB
  subst hxv
  refine ⟨o', w', h1, ⟨h2, fun i j y z hy hz hij q e e2 => ?_⟩, h3⟩
  have key : ∀ (k : Nat) (u : FX), (xs ++ [x])[k]? = some u → (k < xs.length ∧ xs[k]? = some u) ∨ (k = xs.length ∧ u = x) := fun k u hk => by
    by_cases hlt : k < xs.length
    · rw [List.getElem?_append_left hlt] at hk
      exact .inl ⟨hlt, hk⟩
    · have hl := (List.getElem?_eq_some_iff.1 hk).1
      rw [List.length_append, List.length_singleton] at hl
      obtain rfl : k = xs.length := by omega
      rw [List.getElem?_append_right (Nat.le_refl _), Nat.sub_self] at hk
      simp at hk
      exact .inr ⟨rfl, hk.symm⟩
  rcases key i y hy with ⟨i1, i2⟩ | ⟨i1, rfl⟩
  · rcases key j z hz with ⟨j1, j2⟩ | ⟨j1, rfl⟩
    · exact h.ap i j y z i2 j2 hij q e e2
    · exact hne y (List.mem_of_getElem? i2) q e e2
  · rcases key j z hz with ⟨j1, j2⟩ | ⟨j1, rfl⟩
    · exact hne z (List.mem_of_getElem? j2) q e2 e
    · omega
theorem FOA.fa (h : FOA B w o xs) : FA w o xs := ⟨row_low h.fo.row (Nat.zero_le _), fun x hx => (h.fo.own x hx).mono (Nat.zero_le _), h.ap⟩
theorem FOA.ge (h : FOA B w o xs) {q : Nat} (hq : Fq o xs q) : B ≤ q := by
  rcases hq with e | ⟨x, hx, e⟩
  · exact (World.ownsRow.lt h.fo.row q e).1
  · exact (World.ownsRow.lt (h.fo.own x hx).row q e).1
end
set_option maxRecDepth 100000 in
set_option maxHeartbeats 8000000 in
theorem dkfilesA_any (B g : Nat) (S : Dk.DS) (M : Mm) (w : World) (h : DM B w g S M) (hid : ∀ p ∈ S.nm, p.2 ∈ S.ids ∧ p.1.length ≤ 1000) (hln : ∀ f ∈ S.ids, (S.fo f).data.length ≤ 1000000000) (hn : S.nm.length ≤ 1000000000) :
    Calls Try.prog 16 #[.pointer (some ⟨g, 0, none⟩)] w fun e w' => ∃ v xs, e = .returned v ∧ FOA w.heap.size w' v xs ∧ (xs.map fun x => (x.1, x.2.2)) = Dk.files S ∧ Below w.heap.size w w' := by
  have H0 : Hid (∀ W, Below w.heap.size w W → DM B W g S M) := fun W hW => h.kept hW
  have x2 := h.box.cell 2 _ rfl
  have HR : Hid (Calls Try.prog 37 #[.map M.mn] w fun e w' => ∃ v, e = .returned v ∧ w'.ownsRow w.heap.size 9 1 v S.nm.length (S.nm.map fun p => enS p.1) ∧ Below w.heap.size w w') := dkrising_any M.mn S.nm w h.nm hn
  have HI : Hid ((∀ p ∈ S.nm, p.2 ∈ S.ids ∧ p.1.length ≤ 1000) ∧ (∀ f ∈ S.ids, (S.fo f).data.length ≤ 1000000000) ∧ Dk.rising S.nm) := ⟨hid, hln, h.nm.1⟩
  clear h hid hln
  go_enter Try.func16, Try.ntmps16
  go_wp2_with fail
  refine HR.out.mono ?_
  rintro e W1 ⟨nv, rfl, r1, b1⟩
  obtain ⟨na, nc, hnv, hn1, hn2⟩ := Mg.row_shape r1
  subst hnv
  have H1 : Hid (W1.ownsRow w.heap.size 9 1 (.slice na S.nm.length nc) S.nm.length (S.nm.map fun p => enS p.1) ∧ Below w.heap.size w W1) := ⟨r1, b1⟩
  unfold maxLen at hn2
  clear r1 b1 HR x2
  go_wp2_with fail
  go_loopw [3, 12] (fun o i wr => ∃ (k : Nat) (xs : List (List UInt8 × Value × List Nat)), k ≤ S.nm.length ∧ i = .int .i64 (k : Int) ∧ FOA W1.heap.size wr o xs ∧ (xs.map fun x => (x.1, x.2.2)) = (Dk.files S).take k ∧ Below W1.heap.size W1 wr) (fun _ i _ => S.nm.length - (intOf i).toNat)
  case atStart => exact ⟨0, [], Nat.zero_le _, rfl, FOA.nil _ _, rfl, Below.refl _ _⟩
  case round =>
    obtain ⟨k, xs, hk, rfl, hfo, hxs, hb⟩ := hrel
    have HF : Hid (FOA W1.heap.size wr u3 xs ∧ (xs.map fun x => (x.1, x.2.2)) = (Dk.files S).take k ∧ Below W1.heap.size W1 wr) := ⟨hfo, hxs, hb⟩
    have HBW : Hid (Below w.heap.size w wr) := andThen H1.out.2 hb
    clear hfo hxs hb
    by_cases hlt : k < S.nm.length
    · obtain ⟨p, hp⟩ : ∃ p, p = S.nm[k] := ⟨_, rfl⟩
      have HPM : Hid (p ∈ S.nm ∧ (Dk.files S).take (k + 1) = (Dk.files S).take k ++ [(p.1, (S.fo p.2).data)] ∧ S.nm[k]? = some p) := by
        refine ⟨by rw [hp]; exact List.getElem_mem hlt, ?_, by rw [hp]; exact List.getElem?_eq_getElem hlt⟩
        unfold Dk.files
        rw [List.take_succ_eq_append_getElem (by rw [List.length_map]; exact hlt), List.getElem_map, hp]
      clear hp
      obtain ⟨nm, f⟩ := p
      have HFI : Hid (f ∈ S.ids ∧ nm.length ≤ 1000) := HI.out.1 _ HPM.out.1
      obtain ⟨gn, hgn⟩ : ∃ gn, na = some ⟨gn, 0, none⟩ := by
        rcases H1.out.1.2 with ⟨e, e0⟩ | ⟨gn, c7, cur7, e, -⟩
        · omega
        · simp only [Value.slice.injEq] at e
          exact ⟨gn, e.1⟩
      subst hgn
      have y0 : wr.cell? ⟨gn, k, none⟩ = some (.string ⟨nm.toArray⟩) := by
        have e := World.ownsRow.cellAt (Mg.row_kept H1.out.1 HF.out.2.2) k (by omega)
        rw [e, List.getElem?_map, HPM.out.2.2]
        rfl
      have dW := H0.out wr HBW.out
      have y2 := dW.box.cell 2 _ rfl
      have yl := dW.nm.look ⟨nm.toArray⟩ (show nm.toArray.size ≤ maxLen by have := HFI.out.2; simp [maxLen]; omega)
      have egt : Dk.get S.nm (⟨nm.toArray⟩ : ByteArray).data.toList = some f := by
        have e : (⟨nm.toArray⟩ : ByteArray).data.toList = nm := by simp
        rw [e]
        exact Dk.mem_get HI.out.2.2 HPM.out.1
      rw [egt] at yl
      unfold fpo fp at yl
      obtain ⟨a1, c1, hdv, -⟩ := Mg.row_shape (dW.fd f HFI.out.1).row
      have fb := dW.fb f HFI.out.1
      have ow := dW.fd f HFI.out.1
      rw [hdv] at fb ow
      have x0 := fb.cell 0 _ rfl
      have HCL : Hid (Calls Try.prog 38 #[.slice a1 (S.fo f).data.length c1] wr fun e w' => ∃ v', e = .returned v' ∧ Own wr.heap.size w' v' (S.fo f).data ∧ Below wr.heap.size wr w') := bclone_any _ _ wr ow.bs (by have := HI.out.2.1 f HFI.out.1; omega)
      clear dW egt fb ow hdv
      go_wp2_with fail
      refine HCL.out.mono ?_
      rintro e W2 ⟨v2, rfl, o2, b2⟩
      obtain ⟨a2, k2, c2, hv2⟩ : ∃ (x : Option Addr) (y z : Nat), v2 = .slice x y z := by
        obtain ⟨x, z, e, -⟩ := Mg.row_shape o2.row
        exact ⟨x, _, z, e⟩
      subst hv2
      have b3 := up0 W2 (.cells #[.string ⟨nm.toArray⟩, .slice a2 k2 c2] 65)
      have L3 : LB (W2.alloc (.cells #[.string ⟨nm.toArray⟩, .slice a2 k2 c2] 65)) W2.heap.size 65 (enF (nm, .slice a2 k2 c2, (S.fo f).data)) := lb_new W2 [.string ⟨nm.toArray⟩, .slice a2 k2 c2] 65
      have f3 := (HF.out.1.kept b2).kept b3
      have xl : xs.length ≤ 1000000000 := by
        have h9 := congrArg List.length HF.out.2.1
        rw [List.length_map, List.length_take] at h9
        omega
      obtain ⟨o4, W4, hr4, f4, b4⟩ := f3.app 35 (HF.out.1.fresh (o2)) (nm, .slice a2 k2 c2, (S.fo f).data) ((o2.mono HF.out.2.2.size).kept b3) W2.heap.size 1 L3 xl (Nat.le_trans HF.out.2.2.size (Nat.le_trans b2.size b3.size))
      have H4 : Hid (FOA W1.heap.size W4 o4 (xs ++ [(nm, .slice a2 k2 c2, (S.fo f).data)]) ∧ (xs ++ [(nm, Value.slice a2 k2 c2, (S.fo f).data)]).map (fun x => (x.1, x.2.2)) = (Dk.files S).take (k + 1) ∧ Below W1.heap.size W1 W4) := by
        refine ⟨f4, ?_, ?_⟩
        · rw [List.map_append, HF.out.2.1, HPM.out.2.1]
          rfl
        · exact (andThen (andThen HF.out.2.2 b2) b3).trans b4
      clear L3 f3 xl f4 b4 b3 o2 b2 HCL x0 yl y2 y0
      go_wp2_with (at_builtin; refine wpList_appRun rfl (.tmp 16) (.tmp 29) 35 rfl rfl rfl hr4 ?_)
      clear hr4
      go_wp2_with fail
      go_roundw
      case rel => exact ⟨k + 1, _, by omega, by go_num, H4.out.1, H4.out.2.1, H4.out.2.2⟩
      case measure => simp [intOf]; omega
    · have HE : Hid ((xs.map fun x => (x.1, x.2.2)) = Dk.files S) := by
        have h9 := HF.out.2.1
        rw [List.take_of_length_le (by unfold Dk.files; rw [List.length_map]; omega)] at h9
        exact h9
      go_wp2_with fail
      go_returns
      exact ⟨_, xs, rfl, HF.out.1.low (H1.out.2.size), HE.out, HBW.out⟩
set_option maxRecDepth 100000 in
set_option maxHeartbeats 8000000 in
theorem dkcrashA_any (B g : Nat) (S : Dk.DS) (M : Mm) (keep : Int) (cv : Value) (cs : List (Int × Int)) (w : World) (h : DM B w g S M) (hcs : CtS w cv cs) (hch : ∀ c ∈ S.ch, c.frm.length ≤ 1000 ∧ c.tow.length ≤ 1000 ∧ (c.tow ≠ [] → ∃ f, c.f = some f)) (hn : S.la.length + S.ch.length ≤ 1000000000) (hlv : ∀ p ∈ Dk.lvN S keep, p.2 ∈ S.ids ∧ p.1.length ≤ 1000) (hln : ∀ f ∈ S.ids, (S.fo f).syn ≤ (S.fo f).data.length ∧ (S.fo f).data.length ≤ 1000000000) :
    Calls Try.prog 25 #[.pointer (some ⟨g, 0, none⟩), .int .i64 keep, cv] w fun e w' => ∃ v xs, e = .returned v ∧ FOA w.heap.size w' v xs ∧ (xs.map fun x => (x.1, x.2.2)) = Dk.crash S keep cs ∧ Below w.heap.size w w' := by
  have H0 : Hid (∀ W, Below w.heap.size w W → DM B W g S M) := fun W hW => h.kept hW
  have HLE : Hid (Calls Try.prog 50 #[.pointer (some ⟨g, 0, none⟩), .int .i64 keep] w fun e w' => ∃ b, e = .returned (.map (some b)) ∧ MpA w' (some b) (Dk.lvN S keep) ∧ w.heap.size ≤ b ∧ Below w.heap.size w w') := dkleave_any B g S M keep w h hch ⟨by omega, by omega⟩
  have hLl : (Dk.lvN S keep).length ≤ 1000000000 := by
    have h9 := Dk.lvF_len (S.ch.take (Dk.lvK S keep)) S.la
    rw [List.length_take] at h9
    show (Dk.lvF _ _).length ≤ _
    omega
  have HLV : Hid ((∀ p ∈ Dk.lvN S keep, p.2 ∈ S.ids ∧ p.1.length ≤ 1000) ∧ ∀ f ∈ S.ids, (S.fo f).syn ≤ (S.fo f).data.length ∧ (S.fo f).data.length ≤ 1000000000) := ⟨hlv, hln⟩
  have HCS : Hid (CtS w cv cs) := hcs
  obtain ⟨ca, cc, hce, hc1, hc2, -⟩ := hcs
  subst hce
  unfold Dk.crash
  generalize Dk.lvN S keep = L at HLE hLl HLV ⊢
  unfold maxLen at hc2
  clear h hch hn hlv hln
  go_enter Try.func25, Try.ntmps25
  go_wp2_with fail
  refine HLE.out.mono ?_
  rintro e W0 ⟨mb, rfl, m0, hmb, b0⟩
  have HRS : Hid (Calls Try.prog 37 #[.map (some mb)] W0 fun e w' => ∃ v, e = .returned v ∧ w'.ownsRow W0.heap.size 9 1 v L.length (L.map fun p => enS p.1) ∧ Below W0.heap.size W0 w') := dkrising_any (some mb) L W0 m0 hLl
  have HM0 : Hid (MpA W0 (some mb) L ∧ Below w.heap.size w W0) := ⟨m0, b0⟩
  clear m0 hmb b0 HLE
  go_wp2_with fail
  refine HRS.out.mono ?_
  rintro e W1 ⟨nv, rfl, r1, b1⟩
  obtain ⟨na, nc, hnv, hn1, hn2⟩ := Mg.row_shape r1
  subst hnv
  have H1 : Hid (W1.ownsRow W0.heap.size 9 1 (.slice na L.length nc) L.length (L.map fun p => enS p.1) ∧ Below w.heap.size w W1 ∧ MpA W1 (some mb) L) := ⟨r1, andThen HM0.out.2 b1, HM0.out.1.kept b1⟩
  unfold maxLen at hn2
  clear r1 b1 HRS
  go_wp2_with fail
  go_loopw [8, 18] (fun o i wr => ∃ (k : Nat) (xs : List (List UInt8 × Value × List Nat)), k ≤ L.length ∧ i = .int .i64 (k : Int) ∧ FOA W1.heap.size wr o xs ∧ (xs.map fun x => (x.1, x.2.2)) = (Dk.crL L S.fo cs).take k ∧ MpA wr (some mb) L ∧ Below W1.heap.size W1 wr) (fun _ i _ => L.length - (intOf i).toNat)
  case atStart => exact ⟨0, [], Nat.zero_le _, rfl, FOA.nil _ _, rfl, H1.out.2.2, Below.refl _ _⟩
  case round =>
    obtain ⟨k, xs, hk, rfl, hfo, hxs, hmp, hb⟩ := hrel
    have HF : Hid (FOA W1.heap.size wr u8 xs ∧ (xs.map fun x => (x.1, x.2.2)) = (Dk.crL L S.fo cs).take k ∧ MpA wr (some mb) L ∧ Below W1.heap.size W1 wr) := ⟨hfo, hxs, hmp, hb⟩
    have HBW : Hid (Below w.heap.size w wr) := andThen H1.out.2.1 hb
    clear hfo hxs hb hmp
    by_cases hlt : k < L.length
    · obtain ⟨p, hp⟩ : ∃ p, p = L[k] := ⟨_, rfl⟩
      have HPM : Hid (p ∈ L ∧ (Dk.crL L S.fo cs).take (k + 1) = (Dk.crL L S.fo cs).take k ++ [(p.1, Dk.lv (S.fo p.2) (cs.getD k (0, 0)))] ∧ L[k]? = some p) := by
        refine ⟨by rw [hp]; exact List.getElem_mem hlt, ?_, by rw [hp]; exact List.getElem?_eq_getElem hlt⟩
        unfold Dk.crL
        rw [List.take_succ_eq_append_getElem (by rw [List.length_mapIdx]; exact hlt), List.getElem_mapIdx, hp]
      clear hp
      obtain ⟨nm, f⟩ := p
      have HFI : Hid (f ∈ S.ids ∧ nm.length ≤ 1000 ∧ (S.fo f).syn ≤ (S.fo f).data.length ∧ (S.fo f).data.length ≤ 1000000000) := ⟨(HLV.out.1 _ HPM.out.1).1, (HLV.out.1 _ HPM.out.1).2, HLV.out.2 f (HLV.out.1 _ HPM.out.1).1⟩
      obtain ⟨gn, hgn⟩ : ∃ gn, na = some ⟨gn, 0, none⟩ := by
        rcases H1.out.1.2 with ⟨e, e0⟩ | ⟨gn, c7, cur7, e, -⟩
        · omega
        · simp only [Value.slice.injEq] at e
          exact ⟨gn, e.1⟩
      subst hgn
      have y0 : wr.cell? ⟨gn, k, none⟩ = some (.string ⟨nm.toArray⟩) := by
        have e := World.ownsRow.cellAt (Mg.row_kept H1.out.1 HF.out.2.2.2) k (by omega)
        rw [e, List.getElem?_map, HPM.out.2.2]
        rfl
      have egt : Dk.get L (⟨nm.toArray⟩ : ByteArray).data.toList = some f := by
        have e : (⟨nm.toArray⟩ : ByteArray).data.toList = nm := by simp
        rw [e]
        exact Dk.mem_get HF.out.2.2.1.1 HPM.out.1
      by_cases hkc : k < cs.length
      · obtain ⟨cb, co, hca, hcell⟩ := (HCS.out.kept (andThen HBW.out (up0 wr (.cells #[.int .i64 0, .int .i64 0] 104))))
        obtain ⟨-, -, hcell⟩ := hcell
        obtain ⟨gb, go, e9, hcc⟩ := hcell (List.ne_nil_of_length_pos (by omega))
        simp only [Value.slice.injEq] at hca
        obtain ⟨rfl, -, -⟩ := hca
        subst e9
        obtain ⟨r0, r1⟩ := hcc k hkc
        obtain ⟨cp, hcp⟩ : ∃ cp, cp = cs[k] := ⟨_, rfl⟩
        rw [← hcp] at r0 r1
        obtain ⟨ck, cz⟩ := cp
        have HCT : Hid (cs.getD k (0, 0) = (ck, cz)) := by
          show cs.getD k (0, 0) = _
          rw [hcp]
          simp [List.getD, List.getElem?_eq_getElem hkc]
        simp only at r0 r1
        clear hcp hcc hcell
        have bq := up0 wr (.cells #[.int .i64 ck, .int .i64 cz] 104)
        obtain ⟨Wq, hWq⟩ : ∃ W, W = wr.alloc (.cells #[.int .i64 ck, .int .i64 cz] 104) := ⟨_, rfl⟩
        have Lq := lb_new wr [.int .i64 ck, .int .i64 cz] 104
        have hLq : LB Wq wr.heap.size 104 [.int .i64 ck, .int .i64 cz] := by rw [hWq]; exact Lq
        rw [← hWq] at bq
        have HBQ : Hid (Below w.heap.size w Wq) := andThen HBW.out bq
        have yl := (HF.out.2.2.1.kept bq).look ⟨nm.toArray⟩ (sz_of HFI.out.2.1)
        rw [egt] at yl
        unfold fpo fp at yl
        have q0 := hLq.cell 0 _ rfl
        have q1 := hLq.cell 1 _ rfl
        have dW := H0.out Wq HBQ.out
        have HCL : Hid (Calls Try.prog 51 #[.pointer (some ⟨f, 0, none⟩), .agg #[.int .i64 ck, .int .i64 cz]] Wq fun e w' => ∃ v, e = .returned v ∧ Own Wq.heap.size w' v (Dk.lv (S.fo f) (ck, cz)) ∧ Below Wq.heap.size Wq w') := dkfleave_any B f (M.dv f) (S.fo f) _ _ Wq (dW.fb f HFI.out.1) (dW.fd f HFI.out.1) HFI.out.2.2.1 HFI.out.2.2.2
        have HBX : Hid (Below wr.heap.size wr Wq) := bq
        clear dW Lq hLq bq egt
        go_upto_region 9 with fail
        rw [← hWq]
        clear hWq
        go_wp2_with fail
        refine HCL.out.mono ?_
        rintro e W2 ⟨v2, rfl, o2, b2⟩
        obtain ⟨a2, k2, c2, hv2⟩ : ∃ (x : Option Addr) (y z : Nat), v2 = .slice x y z := by
          obtain ⟨x, z, e, -⟩ := Mg.row_shape o2.row
          exact ⟨x, _, z, e⟩
        subst hv2
        have b3 := up0 W2 (.cells #[.string ⟨nm.toArray⟩, .slice a2 k2 c2] 65)
        have L3 : LB (W2.alloc (.cells #[.string ⟨nm.toArray⟩, .slice a2 k2 c2] 65)) W2.heap.size 65 (enF (nm, .slice a2 k2 c2, Dk.lv (S.fo f) (ck, cz))) := lb_new W2 [.string ⟨nm.toArray⟩, .slice a2 k2 c2] 65
        have f3 := ((HF.out.1.kept HBX.out).kept b2).kept b3
        have xl : xs.length ≤ 1000000000 := by
          have h9 := congrArg List.length HF.out.2.1
          rw [List.length_map, List.length_take] at h9
          omega
        have bs3 : Below wr.heap.size wr (W2.alloc (.cells #[.string ⟨nm.toArray⟩, .slice a2 k2 c2] 65)) := andThen (andThen HBX.out b2) b3
        obtain ⟨o4, W4, hr4, f4, b4⟩ := f3.app 35 (HF.out.1.fresh (o2.mono HBX.out.size)) (nm, .slice a2 k2 c2, Dk.lv (S.fo f) (ck, cz)) ((o2.mono (Nat.le_trans HF.out.2.2.2.size HBX.out.size)).kept b3) W2.heap.size 1 L3 xl (Nat.le_trans HF.out.2.2.2.size bs3.size)
        have H4 : Hid (FOA W1.heap.size W4 o4 (xs ++ [(nm, .slice a2 k2 c2, Dk.lv (S.fo f) (ck, cz))]) ∧ (xs ++ [(nm, Value.slice a2 k2 c2, Dk.lv (S.fo f) (ck, cz))]).map (fun x => (x.1, x.2.2)) = (Dk.crL L S.fo cs).take (k + 1) ∧ MpA W4 (some mb) L ∧ Below W1.heap.size W1 W4) := by
          have b14 : Below W1.heap.size W1 W4 := (andThen HF.out.2.2.2 bs3).trans b4
          refine ⟨f4, ?_, H1.out.2.2.kept b14, b14⟩
          rw [List.map_append, HF.out.2.1, HPM.out.2.1, HCT.out]
          rfl
        clear L3 f3 xl f4 b4 b3 o2 b2 HCL yl y0 q0 q1 bs3
        go_wp2_with (at_builtin; refine wpList_appRun rfl (.tmp 31) (.tmp 39) 35 rfl rfl rfl hr4 ?_)
        clear hr4
        go_wp2_with fail
        go_roundw
        case rel => exact ⟨k + 1, _, by omega, by go_num, H4.out.1, H4.out.2.1, H4.out.2.2.1, H4.out.2.2.2⟩
        case measure => simp [intOf]; omega
      · have HCT : Hid (cs.getD k (0, 0) = (0, 0)) := by
          show cs.getD k (0, 0) = _
          simp [List.getD, List.getElem?_eq_none (show cs.length ≤ k by omega)]
        have bq := up0 wr (.cells #[.int .i64 0, .int .i64 0] 104)
        obtain ⟨Wq, hWq⟩ : ∃ W, W = wr.alloc (.cells #[.int .i64 0, .int .i64 0] 104) := ⟨_, rfl⟩
        have Lq := lb_new wr [.int .i64 0, .int .i64 0] 104
        have hLq : LB Wq wr.heap.size 104 [.int .i64 0, .int .i64 0] := by rw [hWq]; exact Lq
        rw [← hWq] at bq
        have HBQ : Hid (Below w.heap.size w Wq) := andThen HBW.out bq
        have yl := (HF.out.2.2.1.kept bq).look ⟨nm.toArray⟩ (sz_of HFI.out.2.1)
        rw [egt] at yl
        unfold fpo fp at yl
        have q0 := hLq.cell 0 _ rfl
        have q1 := hLq.cell 1 _ rfl
        have dW := H0.out Wq HBQ.out
        have HCL : Hid (Calls Try.prog 51 #[.pointer (some ⟨f, 0, none⟩), .agg #[.int .i64 0, .int .i64 0]] Wq fun e w' => ∃ v, e = .returned v ∧ Own Wq.heap.size w' v (Dk.lv (S.fo f) (0, 0)) ∧ Below Wq.heap.size Wq w') := dkfleave_any B f (M.dv f) (S.fo f) _ _ Wq (dW.fb f HFI.out.1) (dW.fd f HFI.out.1) HFI.out.2.2.1 HFI.out.2.2.2
        have HBX : Hid (Below wr.heap.size wr Wq) := bq
        clear dW Lq hLq bq egt
        go_upto_region 9 with fail
        rw [← hWq]
        clear hWq
        go_wp2_with fail
        refine HCL.out.mono ?_
        rintro e W2 ⟨v2, rfl, o2, b2⟩
        obtain ⟨a2, k2, c2, hv2⟩ : ∃ (x : Option Addr) (y z : Nat), v2 = .slice x y z := by
          obtain ⟨x, z, e, -⟩ := Mg.row_shape o2.row
          exact ⟨x, _, z, e⟩
        subst hv2
        have b3 := up0 W2 (.cells #[.string ⟨nm.toArray⟩, .slice a2 k2 c2] 65)
        have L3 : LB (W2.alloc (.cells #[.string ⟨nm.toArray⟩, .slice a2 k2 c2] 65)) W2.heap.size 65 (enF (nm, .slice a2 k2 c2, Dk.lv (S.fo f) (0, 0))) := lb_new W2 [.string ⟨nm.toArray⟩, .slice a2 k2 c2] 65
        have f3 := ((HF.out.1.kept HBX.out).kept b2).kept b3
        have xl : xs.length ≤ 1000000000 := by
          have h9 := congrArg List.length HF.out.2.1
          rw [List.length_map, List.length_take] at h9
          omega
        have bs3 : Below wr.heap.size wr (W2.alloc (.cells #[.string ⟨nm.toArray⟩, .slice a2 k2 c2] 65)) := andThen (andThen HBX.out b2) b3
        obtain ⟨o4, W4, hr4, f4, b4⟩ := f3.app 35 (HF.out.1.fresh (o2.mono HBX.out.size)) (nm, .slice a2 k2 c2, Dk.lv (S.fo f) (0, 0)) ((o2.mono (Nat.le_trans HF.out.2.2.2.size HBX.out.size)).kept b3) W2.heap.size 1 L3 xl (Nat.le_trans HF.out.2.2.2.size bs3.size)
        have H4 : Hid (FOA W1.heap.size W4 o4 (xs ++ [(nm, .slice a2 k2 c2, Dk.lv (S.fo f) (0, 0))]) ∧ (xs ++ [(nm, Value.slice a2 k2 c2, Dk.lv (S.fo f) (0, 0))]).map (fun x => (x.1, x.2.2)) = (Dk.crL L S.fo cs).take (k + 1) ∧ MpA W4 (some mb) L ∧ Below W1.heap.size W1 W4) := by
          have b14 : Below W1.heap.size W1 W4 := (andThen HF.out.2.2.2 bs3).trans b4
          refine ⟨f4, ?_, H1.out.2.2.kept b14, b14⟩
          rw [List.map_append, HF.out.2.1, HPM.out.2.1, HCT.out]
          rfl
        clear L3 f3 xl f4 b4 b3 o2 b2 HCL yl y0 q0 q1 bs3
        go_wp2_with (at_builtin; refine wpList_appRun rfl (.tmp 31) (.tmp 39) 35 rfl rfl rfl hr4 ?_)
        clear hr4
        go_wp2_with fail
        go_roundw
        case rel => exact ⟨k + 1, _, by omega, by go_num, H4.out.1, H4.out.2.1, H4.out.2.2.1, H4.out.2.2.2⟩
        case measure => simp [intOf]; omega
    · have HE : Hid ((xs.map fun x => (x.1, x.2.2)) = Dk.crL L S.fo cs) := by
        have h9 := HF.out.2.1
        rw [List.take_of_length_le (by unfold Dk.crL; rw [List.length_mapIdx]; omega)] at h9
        exact h9
      go_wp2_with fail
      go_returns
      exact ⟨_, xs, rfl, HF.out.1.low (H1.out.2.1.size), HE.out, HBW.out⟩
theorem dkfilesA_wf (B g : Nat) (S : Dk.DS) (M : Mm) (N : Nat) (w : World) (h : DM B w g S M) (hW : Dk.WF S N) (hN : N ≤ 400000000) :
    Calls Try.prog 16 #[.pointer (some ⟨g, 0, none⟩)] w fun e w' => ∃ v xs, e = .returned v ∧ FOA w.heap.size w' v xs ∧ (xs.map fun x => (x.1, x.2.2)) = Dk.files S ∧ Below w.heap.size w w' :=
  dkfilesA_any B g S M w h (fun p hp => ⟨hW.ids p hp, by have := (Dk.isNm_len (hW.nm p hp)).2; omega⟩) (fun f hf => by have := (hW.fl f hf).2; omega) (by have := hW.n1; omega)
theorem dkcrashA_wf (B g : Nat) (S : Dk.DS) (M : Mm) (N : Nat) (keep : Int) (cv : Value) (cs : List (Int × Int)) (w : World) (h : DM B w g S M) (hcs : CtS w cv cs) (hW : Dk.WF S N) (hN : N ≤ 400000000) :
    Calls Try.prog 25 #[.pointer (some ⟨g, 0, none⟩), .int .i64 keep, cv] w fun e w' => ∃ v xs, e = .returned v ∧ FOA w.heap.size w' v xs ∧ (xs.map fun x => (x.1, x.2.2)) = Dk.crash S keep cs ∧ Below w.heap.size w w' :=
  dkcrashA_any B g S M keep cv cs w h hcs (fun c hc => by
    obtain ⟨h1, h2⟩ := hW.ch c hc
    refine ⟨by omega, ?_, fun e => ?_⟩
    · by_cases e : c.tow = []
      · rw [e]; simp
      · have := (Dk.isNm_len (h2 e).1).2
        omega
    · obtain ⟨-, f, h3, -⟩ := h2 e
      exact ⟨f, h3⟩) (by have := hW.n2; have := hW.n3; omega) (fun p hp => ⟨(hW.left keep p hp).1, by have := (Dk.isNm_len (hW.left keep p hp).2).2; omega⟩) (fun f hf => ⟨(hW.fl f hf).1, by have := (hW.fl f hf).2; omega⟩)
end Go.Proofs.Ytjepeeopjjnglab
