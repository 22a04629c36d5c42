/-
  The Marks: put.
-/
import Derived.Test.YtggenlnknnhjgaaRz4
namespace Go.Proofs.Ytggenlnknnhjgaa
open Go Go.RowKit Go.ChangeShapes
open Wb
open Cb
/-- while they are marked: the sagas of the first are the mark, the others' data stand -/
structure FW (w : World) (a : Value) (ps : List (Rec × Value)) (s : Int) (k : Nat) : Prop where
  row : ∃ ys, w.ownsRow 0 25 12 a ps.length ys ∧ (∀ j, j < k → kR.ok (.int .i64 s) ((ys.drop (j * 12)).take 12)) ∧ ∀ (j : Nat) (p : Rec × Value), ps[j]? = some p → ys[j * 12 + 11]? = some p.2
  own : ∀ (j : Nat) (p : Rec × Value), k ≤ j → ps[j]? = some p → Own 0 w p.2 p.1.l
/-- the blocks that are left -/
def Fz (a : Value) (ps : List (Rec × Value)) (k q : Nat) : Prop := a.ownBlock = some q ∨ ∃ (j : Nat) (p : Rec × Value), k ≤ j ∧ ps[j]? = some p ∧ p.2.ownBlock = some q
section
variable {B : Nat} {w w' : World} {a : Value} {ps : List (Rec × Value)} {s : Int} {k : Nat}
theorem Rws.kinds (h : Rws B w a ps) {p : Rec × Value} (hp : p ∈ ps) {q : Nat} (e : a.ownBlock = some q) : p.2.ownBlock ≠ some q := h.row p hp q e
theorem Rws.fw (h : Rws B w a ps) (s : Int) : FW w a ps s 0 := ⟨⟨_, row_low h.recs.1 (Nat.zero_le _), fun j hj => by omega, fun j p hp => by
  have hj := (List.getElem?_eq_some_iff.1 hp)
  rw [rcls_get ps j hj.1 11 (by decide), hj.2]
  rfl⟩, fun j p _ hp => (h.own p (List.mem_of_getElem? hp)).mono (Nat.zero_le _)⟩
theorem Fz.fq {q : Nat} (h : Fz a ps k q) : Rq a ps q := by
  rcases h with e | ⟨j, p, -, h2, e⟩
  · exact .inl e
  · exact .inr ⟨p, List.mem_of_getElem? h2, e⟩
theorem Fz.up {q : Nat} (h : Fz a ps (k + 1) q) : Fz a ps k q := h.imp id fun ⟨j, p, h1, h2⟩ => ⟨j, p, by omega, h2⟩
/-- the next one's data are gone -/
theorem FW.tail (h : FW w a ps s k) (hb : ∀ q, Fz a ps (k + 1) q → w'.heap[q]? = w.heap[q]?) : ∃ ys, w'.ownsRow 0 25 12 a ps.length ys ∧ (∀ j, j < k → kR.ok (.int .i64 s) ((ys.drop (j * 12)).take 12)) ∧ (∀ (j : Nat) (p : Rec × Value), ps[j]? = some p → ys[j * 12 + 11]? = some p.2) ∧ ∀ (j : Nat) (p : Rec × Value), k + 1 ≤ j → ps[j]? = some p → Own 0 w' p.2 p.1.l := by
  obtain ⟨ys, h1, h2, h3⟩ := h.row
  exact ⟨ys, Mg.row_block h1 fun q e => hb q (.inl e), h2, h3, fun j p hj hp => own_kept2 (h.own j p (by omega) hp) fun q e => hb q (.inr ⟨j, p, hj, hp, e⟩)⟩
theorem FW.put {ab : Option Addr} {cb : Nat} {ys : List Value} (hr : w.ownsRow 0 25 12 (.slice ab ps.length cb) ps.length ys) (h2 : ∀ j, j < k → kR.ok (.int .i64 s) ((ys.drop (j * 12)).take 12)) (h3 : ∀ (j : Nat) (p : Rec × Value), ps[j]? = some p → ys[j * 12 + 11]? = some p.2) (h4 : ∀ (j : Nat) (p : Rec × Value), k + 1 ≤ j → ps[j]? = some p → Own 0 w p.2 p.1.l) (hn : ∀ p ∈ ps, ∀ q, (Value.slice ab ps.length cb).ownBlock = some q → p.2.ownBlock ≠ some q) (hk : k < ps.length) : ∃ b, ab = some ⟨b, 0, none⟩ ∧ (∃ y, w.cell? ⟨b, k * 12 + 2, none⟩ = some y) ∧ w.frozen? ⟨b, k * 12 + 2, none⟩ = false ∧ FW (w.setCell ⟨b, k * 12 + 2, none⟩ (.int .i64 s)) (.slice ab ps.length cb) ps s (k + 1) ∧ Fr w (w.setCell ⟨b, k * 12 + 2, none⟩ (.int .i64 s)) (· = b) := by
  have hl := hr.1
  rcases hr.2 with ⟨e1, h0⟩ | ⟨b, cap', cur, e1, -⟩
  · omega
  · simp only [Value.slice.injEq] at e1
    obtain ⟨rfl, -, rfl⟩ := e1
    have hcell : w.cell? ⟨b, k * 12 + 2, none⟩ = ys[k * 12 + 2]? := hr.cellAt (k * 12 + 2) (by omega)
    refine ⟨b, rfl, ⟨ys[k * 12 + 2]'(by omega), by rw [hcell]; exact List.getElem?_eq_getElem _⟩, World.ownsRow.frozenAt hr (k * 12 + 2), ⟨⟨_, (World.ownsRow.stored hr (k * 12 + 2) (.int .i64 s)).1, fd_elem ys 12 ps.length k 2 (.int .i64 s) (kR.ok (.int .i64 s)) hl hk (by omega) (fun x hx => by
      show (x.set 2 (Value.int .i64 s))[2]? = some _
      rw [List.getElem?_set_self (by omega)]) h2, fun j p hp => ?_⟩, fun j p hj hp => own_kept2 (h4 j p hj hp) fun q e => set_other _ _ _ _ fun e2 => ?_⟩, fr_set _ _ _ _⟩
    · rw [List.getElem?_set_ne (by omega)]
      exact h3 j p hp
    · refine hn p (List.mem_of_getElem? hp) q ?_ e
      rw [show q = b from e2]
      rfl
end
set_option maxRecDepth 100000 in
set_option maxHeartbeats 16000000 in
theorem mkput_any (B g : Nat) (C : Nat → Option Cl) (V : List Value) (l f : List En) (lh fh : List (Value × Nat)) (v : Value) (ps : List (Rec × Value)) (s : Int) (w : World) (h : Bk B w C g V l f lh fh) (hr : Rws B w v ps) (hm : ps.length ≤ 5000000) (hm2 : ∀ p ∈ ps, p.1.l.length ≤ 5000000) (hl : l.length + ps.length ≤ 10000000) (hl2 : f.length ≤ 10000000) (ho : Out w C g V (Rq v ps)) (hB : B ≤ w.heap.size) :
    Calls Try.prog 9 #[.pointer (some ⟨g, 0, none⟩), v, .int .i64 s] w fun e w' => e = .returned (.tuple #[]) ∧ ∃ C' V' l', Bk B w' C' g V' (l ++ l') (f ++ [(v, ps.length, .int .i64 s)]) lh fh ∧ l'.length = ps.length ∧ St w w' C C' g V V' (Rq v ps) := by
  obtain ⟨ab, cb, eb, hb1, hb2⟩ := Mg.row_shape hr.recs.1
  subst eb
  obtain ⟨m, hmx⟩ : ∃ m, m = ps.length := ⟨_, rfl⟩
  unfold maxLen at hb2
  have HH : Hid (Bk B w C g V l f lh fh ∧ Rws B w (.slice ab ps.length cb) ps ∧ Out w C g V (Rq (.slice ab ps.length cb) ps)) := ⟨h, hr, ho⟩
  have HX : Hid (m = ps.length ∧ (∀ p ∈ ps, p.1.l.length ≤ 5000000) ∧ l.length + ps.length ≤ 10000000 ∧ f.length ≤ 10000000) := ⟨hmx, hm2, hl, hl2⟩
  rw [← hmx] at hb1 hm ⊢
  clear h hr ho hm2 hl hmx hl2
  go_enter Try.func9, Try.ntmps9
  go_wp2_with fail
  go_loopw [6] (fun i wr => ∃ (k : Nat) (C1 : Nat → Option Cl) (V1 : List Value) (l1 : List En), k ≤ m ∧ i = .int .i64 (k : Int) ∧ l1.length = k ∧ Bk B wr C1 g V1 (l ++ l1) f lh fh ∧ St w wr C C1 g V V1 (Rq (.slice ab ps.length cb) ps) ∧ FW wr (.slice ab ps.length cb) ps s k ∧ Out wr C1 g V1 (Fz (.slice ab ps.length cb) ps k)) (fun i _ => m - (intOf i).toNat)
  case atStart => exact ⟨0, C, V, [], Nat.zero_le _, rfl, rfl, by rw [List.append_nil]; exact HH.out.1, St.refl _ _ _ _ _, HH.out.2.1.fw s, fun q hq => HH.out.2.2 q hq.fq⟩
  case round =>
    obtain ⟨k, C1, V1, l1, hk, rfl, hl1, hbk, hst, hfw, hou⟩ := hrel
    have HF : Hid (l1.length = k ∧ Bk B wr C1 g V1 (l ++ l1) f lh fh ∧ St w wr C C1 g V V1 (Rq (.slice ab ps.length cb) ps) ∧ FW wr (.slice ab ps.length cb) ps s k ∧ Out wr C1 g V1 (Fz (.slice ab ps.length cb) ps k)) := ⟨hl1, hbk, hst, hfw, hou⟩
    clear hl1 hbk hst hfw hou
    by_cases hlt : k < m
    · have hkx : k < ps.length := by rw [← HX.out.1]; exact hlt
      obtain ⟨p, hp⟩ : ∃ p, ps[k]? = some p := ⟨ps[k], List.getElem?_eq_getElem hkx⟩
      have hpm := List.mem_of_getElem? hp
      obtain ⟨ys, y1, -, y3⟩ := HF.out.2.2.2.1.row
      have hcd := y3 k p hp
      obtain ⟨bq, hbq, hc1⟩ : ∃ bq, ab = some ⟨bq, 0, none⟩ ∧ wr.cell? ⟨bq, k * 12 + 11, none⟩ = some p.2 := by
        rcases y1.2 with ⟨e1, h0⟩ | ⟨q, cap', cur, e1, -⟩
        · omega
        · simp only [Value.slice.injEq] at e1
          obtain ⟨rfl, -, rfl⟩ := e1
          have h9 := y1.1
          exact ⟨q, rfl, by rw [y1.cellAt (k * 12 + 11) (by omega)]; exact hcd⟩
      subst hbq
      have hox := HF.out.2.2.2.1.own k p (Nat.le_refl _) hp
      obtain ⟨a9, c9, e9, h91, h92⟩ := Mg.row_shape hox.row
      obtain ⟨n9, hn9⟩ : ∃ n9, n9 = p.1.l.length := ⟨_, rfl⟩
      have hn5 : n9 ≤ 5000000 := by rw [hn9]; exact HX.out.2.1 p hpm
      obtain ⟨v0, v1, v2, v3, v4, v5, hV⟩ := HF.out.2.1.six
      obtain ⟨a0, c0, e0, -, -, -⟩ := HF.out.2.1.bm.at_ 0 v0 23 ((l ++ l1).map (·.1)) (by rw [hV]; rfl) rfl
      rw [List.length_map] at e0
      subst e0
      obtain ⟨a1, c1, e1, -, -, -⟩ := HF.out.2.1.bm.at_ 1 v1 5 ((l ++ l1).map (·.2.2)) (by rw [hV]; rfl) rfl
      rw [List.length_map] at e1
      subst e1
      obtain ⟨k0, hk0⟩ : ∃ k, k = (l ++ l1).length := ⟨_, rfl⟩
      have hk0b : k0 ≤ 10000000 := by
        rw [hk0, List.length_append, HF.out.1]
        have := HX.out.2.2.1
        omega
      have r0 : wr.cell? ⟨g, 0, none⟩ = some (.slice a0 k0 c0) := by
        rw [hk0]
        exact HF.out.2.1.bm.cell 0 _ (by rw [hV]; rfl)
      rw [← hn9] at e9 h91
      unfold maxLen at h92
      have HV : Hid (V1 = [.slice a0 k0 c0, .slice a1 k0 c1, v2, v3, v4, v5] ∧ k0 = (l ++ l1).length ∧ n9 = p.1.l.length ∧ p.2 = .slice a9 n9 c9 ∧ ps[k]? = some p) := ⟨by rw [hk0]; exact hV, hk0, hn9, e9, hp⟩
      have HO : Hid (Own 0 wr (.slice a9 n9 c9) p.1.l) := by
        have h8 := hox
        rw [e9] at h8
        exact h8
      rw [e9] at hc1
      clear y1 y3 hcd hox e9 hV hk0 hn9 hp
      go_upto_region 5 with fail
      generalize (1 + (k0 : Int) % 250) = z
      generalize ((k0 : Int) % 250) = z2
      go_wp2_with fail
      clear r0 hc1
      obtain ⟨wo, hwo⟩ : ∃ x, x = wr := ⟨_, rfl⟩
      subst hwo
      go_loopw [9] (fun i w2 => ∃ j : Nat, j ≤ n9 ∧ i = .int .i64 (j : Int) ∧ Fd w2 5 1 (.slice a9 n9 c9) n9 (kB.ok (.int .u8 z)) j ∧ Fr wo w2 (fun q => (Value.slice a9 n9 c9).ownBlock = some q)) (fun i _ => n9 - (intOf i).toNat)
      case atStart => exact ⟨0, Nat.zero_le _, rfl, Fd.zero _ (by have h8 := HO.out.row; rw [← HV.out.2.2.1] at h8; exact h8), Fr.refl _ _⟩
      case round =>
        obtain ⟨j, hj, rfl, hfd, hfr⟩ := hrel
        have HF2 : Hid (Fd wr 5 1 (.slice a9 n9 c9) n9 (kB.ok (.int .u8 z)) j ∧ Fr wo wr (fun q => (Value.slice a9 n9 c9).ownBlock = some q)) := ⟨hfd, hfr⟩
        clear hfd hfr
        by_cases hjl : j < n9
        · obtain ⟨q, rfl, ⟨y, hy⟩, hfz, h1, h2⟩ := HF2.out.1.put hjl 0 (by omega) (.int .u8 z) (fun x hx => by
            show (x.set 0 (Value.int .u8 z))[0]? = some _
            rw [List.getElem?_set_self (by omega)])
          simp only [Nat.mul_one, Nat.add_zero] at hy hfz h1 h2
          have HN : Hid (Fd (wr.setCell ⟨q, j, none⟩ (.int .u8 z)) 5 1 (.slice (some ⟨q, 0, none⟩) n9 c9) n9 (kB.ok (.int .u8 z)) (j + 1) ∧ Fr wo (wr.setCell ⟨q, j, none⟩ (.int .u8 z)) (fun p => (Value.slice (some ⟨q, 0, none⟩) n9 c9).ownBlock = some p)) := ⟨h1, HF2.out.2.trans h2 fun p _ e => by rw [e]; rfl⟩
          clear h1 h2
          go_wp2_with fail
          go_roundw
          case rel => exact ⟨j + 1, by omega, by go_num, HN.out⟩
          case measure => simp [intOf]; omega
        · obtain rfl : j = n9 := by omega
          have hsz0 := HF.out.2.2.1.fr.size
          have hB9 : B ≤ wo.heap.size := by omega
          have HOu : Hid (Out wo C1 g V1 fun q => p.2.ownBlock = some q) := fun q e => HF.out.2.2.2.2 q (.inr ⟨k, p, Nat.le_refl _, HV.out.2.2.2.2, e⟩)
          have hbk : Bk B wr C1 g V1 (l ++ l1) f lh fh := by
            refine HF.out.2.1.blk fun q hq => HF2.out.2.block q (HF.out.2.1.lt hq).2 fun e => ?_
            rw [← HV.out.2.2.2.1] at e
            rcases hq with e2 | e2
            · exact (HOu.out q e).2.2 e2
            · exact e2 (HOu.out q e).2.1
          have hsz := HF2.out.2.size
          obtain ⟨w5, W5, hr5, s5, m5, f5, o5, a5, d5, e5⟩ := Bm.lit hbk.bm 0 (.slice a0 k0 c0) 23 ((l ++ l1).map (·.1)) (by rw [HV.out.1]; rfl) rfl 28 28 _ 24 infBS rfl Try.underlying28 (.slice a9 j c9) rfl (by rw [List.length_map, ← HV.out.2.1]; omega) (by omega) (by omega)
          have hsz5 := f5.size
          obtain ⟨w6, W6, hr6, s6, m6, f6, o6, a6, d6, e6⟩ := Bm.lit m5 1 (.slice a1 k0 c1) 5 ((l ++ l1).map (·.2.2)) (by rw [HV.out.1]; rfl) rfl 23 23 _ 1 infB rfl Try.underlying23 (.int .u8 z) rfl (by rw [List.length_map, ← HV.out.2.1]; omega) (by omega) (by omega)
          have t0 := s5.cell 0 (.slice a0 k0 c0) (by rw [HV.out.1]; rfl)
          have t1 := s5.cell 1 (.slice a1 k0 c1) (by rw [HV.out.1]; rfl)
          have z0 := s5.free 0
          have t2 := s6.cell 1 (.slice a1 k0 c1) (by rw [HV.out.1]; rfl)
          have z1 := s6.free 1
          have r0 := hbk.bm.cell 0 (.slice a0 k0 c0) (by rw [HV.out.1]; rfl)
          have hf2 : Fr wr (W6.setCell ⟨g, 1, none⟩ w6) (Bo g V1) := f5.trans f6 fun q hq e => by
            rcases o5 q e with e2 | e2
            · exact e2
            · omega
          obtain ⟨C2, V2, k1, k2⟩ : ∃ C' V', Bk B (W6.setCell ⟨g, 1, none⟩ w6) C' g V' ((l ++ l1) ++ [(p.2, p.1.l.length, .int .u8 z)]) f lh fh ∧ St wo (W6.setCell ⟨g, 1, none⟩ w6) C1 C' g V1 V' fun q => p.2.ownBlock = some q := by
            have hD : ((mkD (l ++ l1) f lh fh).set 0 (23, (l ++ l1).map (·.1) ++ [Value.slice a9 j c9])).set 1 (5, (l ++ l1).map (·.2.2) ++ [Value.int .u8 z]) = mkD ((l ++ l1) ++ [(Value.slice a9 j c9, j, Value.int .u8 z)]) f lh fh := by
              generalize l ++ l1 = l9
              unfold mkD
              rw [List.map_append, List.map_append]
              rfl
            rw [HV.out.2.2.2.1, ← HV.out.2.2.1]
            have hOu := HOu.out
            rw [HV.out.2.2.2.1] at hOu
            obtain ⟨C', k1, k2⟩ := HF.out.2.1.keep (P0 := fun q => (Value.slice a9 j c9).ownBlock = some q) hOu (b := .slice a9 j c9) (mk := .int .u8 z) (m := j) (fun q e => e) (fun q e => (HH.out.2.1.lt (.inr ⟨p, List.mem_of_getElem? HV.out.2.2.2.2, by rw [HV.out.2.2.2.1]; exact e⟩)).1) hn5 (V' := (V1.set 0 w5).set 1 w6) (w' := W6.setCell ⟨g, 1, none⟩ w6) (by rw [← hD]; exact m6) ((HF2.out.2.mono fun q e => .inr e).trans hf2 fun q _ e => .inl e) (fun q hq => by
              rcases o6 q hq with e | e
              · rcases o5 q e with e2 | e2
                · exact .inl e2
                · exact .inr (by omega)
              · exact .inr (by omega)) (HF2.out.1.blk fun q e => hf2.block q (by have := (hOu q e).1; omega) fun e2 => (hOu q e).2.2 e2) ⟨z, rfl⟩
            exact ⟨C', _, k1, k2⟩
          obtain ⟨q1, q2⟩ := k2.same (fun q hq => HF.out.2.2.2.2 q hq.up : Out wo C1 g V1 (Fz (.slice (some ⟨bq, 0, none⟩) ps.length cb) ps (k + 1))) fun q hq e => by
            rcases hq with e2 | ⟨i, y, h1, h2, e2⟩
            · exact HH.out.2.1.kinds (List.mem_of_getElem? HV.out.2.2.2.2) e2 e
            · exact HH.out.2.1.apart i k y p h2 HV.out.2.2.2.2 (by omega) q e2 e
          obtain ⟨ys2, u1, u2, u3, u4⟩ := HF.out.2.2.2.1.tail q1
          obtain ⟨b8, e8, ⟨y8, h8⟩, z8, f8, r8⟩ := FW.put u1 u2 u3 u4 HH.out.2.1.row hkx
          simp only [Option.some.injEq, Addr.mk.injEq, and_true] at e8
          subst e8
          have hbo := q2 bq (.inl rfl)
          have HN : Hid (Bk B ((W6.setCell ⟨g, 1, none⟩ w6).setCell ⟨bq, k * 12 + 2, none⟩ (.int .i64 s)) C2 g V2 (l ++ (l1 ++ [(p.2, p.1.l.length, .int .u8 z)])) f lh fh ∧ St w ((W6.setCell ⟨g, 1, none⟩ w6).setCell ⟨bq, k * 12 + 2, none⟩ (.int .i64 s)) C C2 g V V2 (Rq (.slice (some ⟨bq, 0, none⟩) ps.length cb) ps) ∧ FW ((W6.setCell ⟨g, 1, none⟩ w6).setCell ⟨bq, k * 12 + 2, none⟩ (.int .i64 s)) (.slice (some ⟨bq, 0, none⟩) ps.length cb) ps s (k + 1) ∧ Out ((W6.setCell ⟨g, 1, none⟩ w6).setCell ⟨bq, k * 12 + 2, none⟩ (.int .i64 s)) C2 g V2 (Fz (.slice (some ⟨bq, 0, none⟩) ps.length cb) ps (k + 1))) := by
            refine ⟨?_, ?_, f8, fun q hq => ⟨Nat.lt_of_lt_of_le (q2 q hq).1 r8.size, (q2 q hq).2⟩⟩
            · rw [← List.append_assoc]
              refine k1.blk fun q hq => r8.block q (k1.lt hq).2 fun e => ?_
              rw [show q = bq from e] at hq
              rcases hq with e2 | e2
              · exact hbo.2.2 e2
              · exact e2 hbo.2.1
            · refine ((HF.out.2.2.1.trans k2).trans (⟨r8.mono fun q e => .inr (.inr e), fun q hq => .inl hq, fun q hq => .inl hq⟩ : St (W6.setCell ⟨g, 1, none⟩ w6) ((W6.setCell ⟨g, 1, none⟩ w6).setCell ⟨bq, k * 12 + 2, none⟩ (.int .i64 s)) C2 C2 g V2 V2 (· = bq))).mono fun q hq => ?_
              rcases hq with (e | e) | e
              · exact e
              · exact .inr ⟨p, List.mem_of_getElem? HV.out.2.2.2.2, e⟩
              · rw [e]
                exact .inl rfl
          have HLL : Hid ((l1 ++ [(p.2, p.1.l.length, Value.int .u8 z)]).length = k + 1) := by show _ = _; rw [List.length_append, HF.out.1]; rfl
          clear s5 s6 m5 m6 f5 f6 o5 o6 hbk hB9 hsz5 hf2 k1 k2 q1 q2 u1 u2 u3 u4 f8 r8 hbo hsz0 hsz
          have hz5 : (W5.setCell ⟨g, 0, none⟩ w5).heap.size = W5.heap.size := by simp
          rw [hz5] at hr6
          clear hz5
          rw [List.length_map, ← HV.out.2.1] at e5 e6
          subst e5 e6
          go_wp2_with (at_builtin; first | refine wpList_appRun rfl (.tmp 43) (.tmp 45) 28 rfl rfl rfl hr5 ?_ | refine wpList_appRun rfl (.tmp 53) (.tmp 55) 23 rfl rfl rfl hr6 ?_)
          go_roundw
          case rel => exact ⟨k + 1, C2, V2, _, by omega, by go_num, HLL.out, HN.out⟩
          case measure => simp [intOf]; omega
    · obtain rfl : k = m := by omega
      obtain ⟨v0, v1, v2, v3, v4, v5, hV⟩ := HF.out.2.1.six
      obtain ⟨a0, c0, e0, -, -, -⟩ := HF.out.2.1.bm.at_ 2 v2 22 (f.map (·.1)) (by rw [hV]; rfl) rfl
      rw [List.length_map] at e0
      subst e0
      obtain ⟨a1, c1, e1, -, -, -⟩ := HF.out.2.1.bm.at_ 3 v3 3 (f.map (·.2.2)) (by rw [hV]; rfl) rfl
      rw [List.length_map] at e1
      subst e1
      have hbk := HF.out.2.1
      have hsz := HF.out.2.2.1.fr.size
      have HV : Hid (V1 = [v0, v1, .slice a0 f.length c0, .slice a1 f.length c1, v4, v5]) := hV
      clear hV
      have hfl := HX.out.2.2.2
      obtain ⟨w5, W5, hr5, s5, m5, f5, o5, a5, d5, e5⟩ := Bm.lit hbk.bm 2 (.slice a0 f.length c0) 22 (f.map (·.1)) (by rw [HV.out]; rfl) rfl 34 34 _ 24 infRS rfl Try.underlying34 (.slice ab ps.length cb) rfl (by rw [List.length_map]; omega) (by omega) (by omega)
      have hsz5 := f5.size
      obtain ⟨w6, W6, hr6, s6, m6, f6, o6, a6, d6, e6⟩ := Bm.lit m5 3 (.slice a1 f.length c1) 3 (f.map (·.2.2)) (by rw [HV.out]; rfl) rfl 35 35 _ 8 infI rfl Try.underlying35 (.int .i64 s) rfl (by rw [List.length_map]; omega) (by omega) (by omega)
      have t0 := s5.cell 2 (.slice a0 f.length c0) (by rw [HV.out]; rfl)
      have t1 := s5.cell 3 (.slice a1 f.length c1) (by rw [HV.out]; rfl)
      have z0 := s5.free 2
      have t2 := s6.cell 3 (.slice a1 f.length c1) (by rw [HV.out]; rfl)
      have z1 := s6.free 3
      have r0 := hbk.bm.cell 2 (.slice a0 f.length c0) (by rw [HV.out]; rfl)
      have HE : Hid (∃ C' V' l', Bk B (W6.setCell ⟨g, 3, none⟩ w6) C' g V' (l ++ l') (f ++ [(.slice ab ps.length cb, ps.length, .int .i64 s)]) lh fh ∧ l'.length = ps.length ∧ St w (W6.setCell ⟨g, 3, none⟩ w6) C C' g V V' (Rq (.slice ab ps.length cb) ps)) := by
        have hD : ((mkD (l ++ l1) f lh fh).set 2 (22, f.map (·.1) ++ [Value.slice ab ps.length cb])).set 3 (3, f.map (·.2.2) ++ [Value.int .i64 s]) = mkD (l ++ l1) (f ++ [(Value.slice ab ps.length cb, ps.length, Value.int .i64 s)]) lh fh := by
          generalize l ++ l1 = l9
          unfold mkD
          rw [List.map_append, List.map_append]
          rfl
        have hf2 : Fr wr (W6.setCell ⟨g, 3, none⟩ w6) (Bo g V1) := f5.trans f6 fun q hq e => by
          rcases o5 q e with e2 | e2
          · exact e2
          · omega
        have hfd : Fd wr 25 12 (.slice ab ps.length cb) ps.length (kR.ok (.int .i64 s)) ps.length := by
          obtain ⟨ys, h1, h2, -⟩ := HF.out.2.2.2.1.row
          exact ⟨ys, h1, by rw [← HX.out.1]; exact h2⟩
        have hou : Out wr C1 g V1 fun q => (Value.slice ab ps.length cb).ownBlock = some q := fun q e => HF.out.2.2.2.2 q (.inl e)
        obtain ⟨C', k1, k2⟩ := hbk.keepF (P0 := fun q => (Value.slice ab ps.length cb).ownBlock = some q) hou (b := .slice ab ps.length cb) (mk := .int .i64 s) (m := ps.length) (fun q e => e) (fun q e => (HH.out.2.1.lt (.inl e)).1) (by rw [← HX.out.1]; omega) (V' := (V1.set 2 w5).set 3 w6) (w' := W6.setCell ⟨g, 3, none⟩ w6) (by rw [← hD]; exact m6) (hf2.mono fun q e => .inl e) (fun q hq => by
          rcases o6 q hq with e | e
          · exact o5 q e
          · exact .inr (by omega)) (hfd.blk fun q e => hf2.block q (hou q e).1 fun e2 => (hou q e).2.2 e2) ⟨s, rfl⟩
        refine ⟨C', _, l1, k1, by rw [HF.out.1]; exact HX.out.1, (HF.out.2.2.1.trans k2).mono fun q hq => ?_⟩
        rcases hq with e | e
        · exact e
        · exact .inl e
      have hz5 : (W5.setCell ⟨g, 2, none⟩ w5).heap.size = W5.heap.size := by simp
      rw [hz5] at hr6
      rw [List.length_map] at e5 e6
      have HMX : Hid (k = ps.length) := HX.out.1
      rw [← HMX.out] at hr5
      clear hz5 m5 m6 s5 s6 f5 f6 o5 o6 hbk hsz5
      subst e5 e6
      go_wp2_with (at_builtin; first | refine wpList_appRun rfl (.tmp 68) (.tmp 70) 34 rfl rfl rfl hr5 ?_ | refine wpList_appRun rfl (.tmp 78) (.tmp 80) 35 rfl rfl rfl hr6 ?_)
      go_end0
      exact ⟨rfl, by rw [HMX.out]; exact HE.out⟩
end Go.Proofs.Ytggenlnknnhjgaa
