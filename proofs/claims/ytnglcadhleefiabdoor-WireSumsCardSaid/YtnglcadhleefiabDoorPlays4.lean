/-
  A store into a block of another type; the law package's 'plays' at a Sum.
-/
import Derived.Test.YtnglcadhleefiabDoorPlays3
import Derived.Test.YtnglcadhleefiabDoorSameAll
import Derived.Maps.AppendAt
import Derived.Laws.Rows
namespace Go.Proofs.YtnglcadhleefiabDoor
open Go Go.RowKit
open Wb

theorem own_set {B : Nat} {w : World} {v x : Value} {l : List Nat} {p : Addr} (h : Own B w v l) (hp : p.block < B) : Own B (w.setCell p x) v l := by
  refine ⟨⟨h.row.1, ?_⟩, h.good⟩
  rcases h.row.2 with h1 | ⟨g, cap, cur, rfl, h1, hg, rest⟩
  · exact .inl h1
  · exact .inr ⟨g, cap, cur, rfl, h1, (Below.heap_setCell w p x g (by omega)).trans hg, rest⟩
theorem row_set {B : Nat} {w : World} {v x : Value} {vs : List Value} {p : Addr} (h : Row B w v vs) (hp : p.block < B) : Row B (w.setCell p x) v vs := by
  refine ⟨h.1, ?_⟩
  rcases h.2 with h1 | ⟨g, cap, cur, rfl, h1, hg, rest⟩
  · exact .inl h1
  · exact .inr ⟨g, cap, cur, rfl, h1, (Below.heap_setCell w p x g (by omega)).trans hg, rest⟩
theorem ownP_set {B : Nat} {w : World} {v x : Value} {ls : List (List Nat)} {p : Addr} (h : OwnP B w v ls) (hp : p.block < B) : OwnP B (w.setCell p x) v ls := by
  obtain ⟨vs, h1, h2, h3⟩ := h
  exact ⟨vs, row_set h1 hp, h2, fun j a b => own_set (h3 j a b) hp⟩
theorem bk_set {w : World} {v x : Value} {l : List Nat} {p : Addr} (h : Bk w v l) (cs : Array Value) (t : TypeId) (z : Nat × Nat) (hp : w.heap[p.block]? = some (.cells cs t z)) (ht : t ≠ 5) : Bk (w.setCell p x) v l := by
  obtain ⟨hb, hty⟩ := h
  obtain ⟨ao, cap, rfl, hl, hm, hn, hc⟩ := hb.shape
  by_cases e : l = []
  · subst e
    exact ⟨⟨⟨ao, cap, rfl, hl, hm, hn, fun h => absurd rfl h⟩, ok_nil⟩, fun _ _ _ _ _ h => absurd rfl h⟩
  · obtain ⟨b, off, rfl, hcell⟩ := hc e
    obtain ⟨cs', z', h1⟩ := hty b off _ _ rfl e
    have hne : b ≠ p.block := by
      intro e2
      rw [e2, hp] at h1
      simp at h1
      exact ht h1.2.1
    have hblk := Below.heap_setCell w p x b hne
    refine ⟨⟨⟨_, cap, rfl, hl, hm, hn, fun _ => ⟨b, off, rfl, fun j hj => ?_⟩⟩, hb.good⟩, fun b' off' n' cap' e3 _ => ?_⟩
    · rw [World.cell?_of_block (w := w) (a := ⟨b, off + j, none⟩) hblk]
      exact hcell j hj
    · simp only [Value.slice.injEq, Option.some.injEq, Addr.mk.injEq] at e3
      obtain ⟨⟨rfl, _⟩, _⟩ := e3
      exact ⟨cs', z', hblk.trans h1⟩
theorem rowB_set {B : Nat} {w : World} {v x : Value} {ls : List (List Nat)} {p : Addr} (h : RowB B w v ls) (hb : p.block < B) (cs : Array Value) (t : TypeId) (z : Nat × Nat) (hp : w.heap[p.block]? = some (.cells cs t z)) (ht : t ≠ 5) : RowB B (w.setCell p x) v ls := by
  obtain ⟨vs, h1, h2, h3⟩ := h
  exact ⟨vs, row_set h1 hb, h2, fun j a b => bk_set (h3 j a b) cs t z hp ht⟩

theorem row_mono {B B' : Nat} {w : World} {v : Value} {vs : List Value} (h : Row B w v vs) (hB : B' ≤ B) : Row B' w v vs := by
  refine ⟨h.1, ?_⟩
  rcases h.2 with h1 | ⟨g, cap, cur, rfl, h1, rest⟩
  · exact .inl h1
  · exact .inr ⟨g, cap, cur, rfl, by omega, rest⟩
/-- a byte string of anyone's calls stays, while a row is written -/
theorem own_grown {B B' : Nat} {w w' : World} {v x : Value} {vs : List Value} {l : List Nat} (hr : Row B' w v vs) (hx : Own B w x l) (hg : w.grownBy w' v.ownBlock) : Own B w' x l := by
  refine ⟨⟨hx.row.1, ?_⟩, hx.good⟩
  rcases hx.row.2 with h1 | ⟨g, cap, cur, rfl, h1, hgg, rest⟩
  · exact .inl h1
  · refine .inr ⟨g, cap, cur, rfl, h1, ?_, rest⟩
    rw [hg.block g (Array.getElem?_eq_some_iff.1 hgg).1 ?_]
    · exact hgg
    · intro e
      rcases hr.2 with ⟨rfl, _⟩ | ⟨g', cap', cur', rfl, _, hg', _⟩
      · simp [Value.ownBlock] at e
      · simp [Value.ownBlock] at e
        subst e
        rw [hgg] at hg'
        simp at hg'
theorem ownP_grown {B : Nat} {w w' : World} {v : Value} {ls : List (List Nat)} {g0 : Option Nat} (h : OwnP B w v ls) (hg : w.grownBy w' g0) (h0 : ∀ k, g0 = some k → k < B) : OwnP B w' v ls := by
  have key : ∀ g, B ≤ g → g < w.heap.size → w'.heap[g]? = w.heap[g]? := fun g h1 h2 => hg.block g h2 (fun e => by have := h0 g e.symm; omega)
  obtain ⟨vs, h1, h2, h3⟩ := h
  refine ⟨vs, ⟨h1.1, ?_⟩, h2, fun j a b => ⟨⟨(h3 j a b).row.1, ?_⟩, (h3 j a b).good⟩⟩
  · rcases h1.2 with e | ⟨g, cap, cur, rfl, hB, hgg, rest⟩
    · exact .inl e
    · exact .inr ⟨g, cap, cur, rfl, hB, (key g hB (Array.getElem?_eq_some_iff.1 hgg).1).trans hgg, rest⟩
  · rcases (h3 j a b).row.2 with e | ⟨g, cap, cur, e, hB, hgg, rest⟩
    · exact .inl e
    · exact .inr ⟨g, cap, cur, e, hB, (key g hB (Array.getElem?_eq_some_iff.1 hgg).1).trans hgg, rest⟩

/-- append(v, x) of one value to a row, and where the new row lies -/
theorem wpList_push_at {P : Program} (w : World) {ops : Array Oper} {rest : List Oper} {o : Oper} {a : Act} {Q : Exit → Act → World → Prop} (hgd : o.guard = none) (s x : Operand) (t : TypeId)
    (ho : o.op = .call { callee := .builtin .append, args := #[s, x], argTypes := #[t, t] })
    (B : Nat) (hinfo : (P.info? 25).map (fun i => (i.zero, i.size, i.bytes)) = some (some (.slice none 0 0), 1, 24)) (ht : P.underlying t = some (.slice 25))
    (v : Value) (vs : List Value) (hv : a.eval s = v) (h : Row B w v vs) (g : Nat) (u : Value) (hx : a.eval x = .slice (some ⟨g, 0, none⟩) 1 1) (hu : w.cell? ⟨g, 0, none⟩ = some u) (h1 : u.oneCell' = true)
    (hmax : vs.length ≤ 5000000000) (hB : B ≤ w.heap.size)
    (hK : ∀ v' w', Row B w' v' (vs ++ [u]) → w.grownBy w' v.ownBlock → (v'.ownBlock = v.ownBlock ∨ v'.ownBlock = some w.heap.size) → wpList P ops Q rest (a.put o.dst v') w') : wpList P ops Q (o :: rest) a w := by
  obtain ⟨i0, hi, hz0, hz1, hz2⟩ := info_parts hinfo
  refine wpList_append_own_at w hgd s x t ho B 25 i0 (.slice none 0 0) 1 24 ht hi hz0 hz1 hz2 rfl (by decide) v vs.length vs hv h ⟨g, 0, none⟩ 1 1 [u] hx rfl ?_ (by intro y hy; simp at hy; subst hy; exact h1) (by unfold maxLen; omega) (by omega) hB ?_
  · intro j y hj
    match j, hj with
    | 0, hj => simp at hj; subst hj; simpa [Addr.add] using hu
  · intro v' w' h2 h3 _ h5
    refine hK v' w' ?_ h3 h5
    show w'.ownsRow B 25 1 v' (vs ++ [u]).length (vs ++ [u])
    rw [List.length_append]
    exact h2

theorem cell_two (w : World) (o : Obj) (c : Value) (t : TypeId) : ((w.alloc o).alloc (.cells #[c] t)).cell? ⟨w.heap.size + 1, 0, none⟩ = some c := by
  rw [show w.heap.size + 1 = (w.alloc o).heap.size from (by show w.heap.size + 1 = (w.heap.push o).size; simp)]
  exact World.cell?_alloc_new (w.alloc o) _ _ 0
theorem grown_trans {w6 wr wB w' : World} {g0 ob : Option Nat} (h : w6.grownBy wr g0) (hb : Below wr.heap.size wr wB) (hg : wB.grownBy w' ob) (ho : ob = g0 ∨ ∃ g, ob = some g ∧ w6.heap.size ≤ g) : w6.grownBy w' g0 := by
  refine ⟨hg.os.trans (hb.os.trans h.os), hg.tape.trans (hb.tape.trans h.tape), hg.output.trans (hb.output.trans h.output), Nat.le_trans h.size (Nat.le_trans hb.size hg.size), fun k hk hne => ?_⟩
  have h1 := h.size
  have h2 := hb.size
  rw [hg.block k (by omega) ?_, hb.block k (by omega), h.block k hk hne]
  rcases ho with rfl | ⟨g, rfl, hge⟩
  · exact hne
  · intro e
    have := Option.some.inj e
    omega
theorem bk_207 (w : World) (o : Obj) : Bk ((w.alloc (.cells #[.int .u8 207] 5)).alloc o) (.slice (some ⟨w.heap.size, 0, none⟩) 1 1) [207] :=
  (own_bk (Own.lit (B := 0) w [207] (ok_one (by decide)) (Nat.zero_le _) (by simp [maxLen]) #[.int .u8 207] rfl)).kept (up0 _ _)
theorem row_list {B : Nat} {w : World} {v : Value} {ls : List (List Nat)} (h : RowB B w v ls) (hp : 0 < ls.length) : ∃ g cap, v = .slice (some ⟨g, 0, none⟩) ls.length cap ∧ ls.length ≤ cap ∧ cap ≤ maxLen ∧ ∀ j (h : j < ls.length), ∃ vj, w.cell? ⟨g, j, none⟩ = some vj ∧ Bs w vj ls[j] := by
  obtain ⟨vs, h1, h2, h3⟩ := h
  rcases h1.shape with ⟨rfl, rfl⟩ | ⟨g, cap, rfl, hl, hm, hc⟩
  · simp at h2
    omega
  · exact ⟨g, cap, by rw [h2], by omega, hm, fun j hj => ⟨vs[j]'(by omega), hc j (by omega), (h3 j (by omega) hj).1⟩⟩
theorem list_ps {B : Nat} {w : World} {g cap n : Nat} {ls ex : List (List Nat)} (h : RowB B w (.slice (some ⟨g, 0, none⟩) n cap) (ls ++ ex)) : Ps w (.slice (some ⟨g, 0, none⟩) ls.length cap) ls := by
  obtain ⟨ao, cap', e, hm, hc⟩ := h.ps.shape
  simp only [Value.slice.injEq] at e
  obtain ⟨rfl, _, rfl⟩ := e
  rw [List.length_append] at hm
  refine ⟨_, _, rfl, by omega, fun hne => ?_⟩
  obtain ⟨b, off, e2, hcell⟩ := hc (by simp [hne])
  refine ⟨b, off, e2, fun j hj => ?_⟩
  obtain ⟨vj, h1, h2⟩ := hcell j (by rw [List.length_append]; omega)
  rw [List.getElem_append_left hj] at h2
  exact ⟨vj, h1, h2⟩
theorem list_more {B : Nat} {w : World} {g cap n : Nat} {ls ex : List (List Nat)} (h : RowB B w (.slice (some ⟨g, 0, none⟩) n cap) (ls ++ ex)) (k : Nat) (hk : k < ex.length) : ∃ vj, w.cell? ⟨g, ls.length + k, none⟩ = some vj ∧ Bs w vj ex[k] := by
  obtain ⟨ao, cap', e, hm, hc⟩ := h.ps.shape
  simp only [Value.slice.injEq] at e
  obtain ⟨rfl, _, rfl⟩ := e
  obtain ⟨b, off, e2, hcell⟩ := hc (List.ne_nil_of_length_pos (by rw [List.length_append]; omega))
  obtain ⟨vj, h1, h2⟩ := hcell (ls.length + k) (by rw [List.length_append]; omega)
  simp only [Option.some.injEq, Addr.mk.injEq, and_true] at e2
  obtain ⟨rfl, rfl⟩ := e2
  rw [List.getElem_append_right (by omega)] at h2
  simp only [Nat.add_sub_cancel_left] at h2
  rw [Nat.zero_add] at h1
  exact ⟨vj, h1, h2⟩
theorem box_new (w : World) (o : Obj) : (w.alloc o).heap[w.heap.size]? = some o := by
  show (w.heap.push o)[w.heap.size]? = some o
  simp
theorem box_size (w : World) (o : Obj) : (w.alloc o).heap.size = w.heap.size + 1 := by
  show (w.heap.push o).size = w.heap.size + 1
  simp

set_option maxRecDepth 100000 in
set_option maxHeartbeats 4000000 in
theorem plays_sum (u i a m : Int) (bv pv : Value) (l : List Nat) (ls : List (List Nat)) (w : World) (hT : Tab w) (hb : Bs w bv l) (hp : Ps w pv ls) (hlen : l.length ≤ 140737488355000) (hel : ∀ j (h : j < ls.length), ls[j].length ≤ 140737488355328) :
    Calls Tryd.prog 53 #[.agg #[.int .i64 7, .int .u64 u, .int .i64 i, .int .i64 a, .int .i64 m, bv, pv]] w fun e w' => e = .returned (.bool true) ∧ Below w.heap.size w w' := by
  have hin := info22
  have HB : Hid (∀ w', Below w.heap.size w w' → Bs w' bv l) := fun w' h => hb.kept h
  have HP : Hid (∀ w', Below w.heap.size w w' → Ps w' pv ls) := fun w' h => hp.kept h
  have HT : Hid (∀ w', Below w.heap.size w w' → Tab w') := fun w' h => hT.kept h
  have HEL : Hid (∀ j (h : j < ls.length), ls[j].length ≤ 140737488355328) := hel
  obtain ⟨aob, capb, rfl, hlb, hmb, _, _⟩ := hb.shape
  obtain ⟨aop, capp, rfl, hmp, _⟩ := hp.shape
  clear hb hp hT hel
  go_enter Tryd.func53, Tryd.ntmps53
  have B0 := up0 w (.cells #[.int .i64 7, .int .u64 u, .int .i64 i, .int .i64 a, .int .i64 m, .slice aob l.length capb, .slice aop ls.length capp] 43)
  go_wp2_with fail
  refine (few_any _ ls _ (HP.out _ B0) HEL.out).mono ?_
  rintro e w1 ⟨⟨fb, rfl, hfew⟩, rfl⟩
  have HFW : Hid (fb = true → ls.flatten.length + ls.length ≤ 4194304) := hfew
  clear hfew HEL
  cases fb with
  | false =>
    go_wp2
    go_ret
    exact ⟨rfl, B0⟩
  | true =>
    have HS : Hid (ls.flatten.length + ls.length ≤ 4194304) := HFW.out rfl
    clear HFW
    have hX : ∀ w', Below (w.heap.size + 1) (w.alloc (.cells #[.int .i64 7, .int .u64 u, .int .i64 i, .int .i64 a, .int .i64 m, .slice aob l.length capb, .slice aop ls.length capp] 43)) w' → w'.heap[w.heap.size]? = some (.cells #[.int .i64 7, .int .u64 u, .int .i64 i, .int .i64 a, .int .i64 m, .slice aob l.length capb, .slice aop ls.length capp] 43) := fun w' hb => by
      rw [hb.block w.heap.size (Nat.lt_succ_self _)]
      exact box_new w _
    have hs1 : (w.alloc (.cells #[.int .i64 7, .int .u64 u, .int .i64 i, .int .i64 a, .int .i64 m, .slice aob l.length capb, .slice aop ls.length capp] 43)).heap.size = w.heap.size + 1 := box_size w _
    generalize (w.alloc (.cells #[.int .i64 7, .int .u64 u, .int .i64 i, .int .i64 a, .int .i64 m, .slice aob l.length capb, .slice aop ls.length capp] 43)) = wb at *
    have HX : Hid (∀ w', Below (w.heap.size + 1) wb w' → w'.heap[w.heap.size]? = some (.cells #[.int .i64 7, .int .u64 u, .int .i64 i, .int .i64 a, .int .i64 m, .slice aob l.length capb, .slice aop ls.length capp] 43)) := hX
    clear hX
    have HC : Hid (∀ w', Below (w.heap.size + 1) wb w' → w'.cell? ⟨w.heap.size, 5, none⟩ = some (.slice aob l.length capb) ∧ w'.cell? ⟨w.heap.size, 6, none⟩ = some (.slice aop ls.length capp)) := fun w' hb => by
      have := HX.out w' hb
      simp [World.cell?, this]
    obtain ⟨R, hR⟩ : ∃ R, R = l ++ pad 75 := ⟨_, rfl⟩
    have HR : Hid (R = l ++ pad 75) := hR
    have hRl : R.length = l.length + 75 := by rw [hR, List.length_append, pad_len]
    clear hR
    obtain ⟨c5, c6⟩ := HC.out wb (Below.refl _ _)
    go_wp2_with fail
    refine (roomy_any _ l _ (HB.out _ B0) hlen).mono ?_
    rw [← HR.out]
    rintro e w2 ⟨v2, rfl, ho2, b2⟩
    rw [hs1] at ho2 b2
    obtain ⟨ao2, cap2, rfl, hl2, hm2, _, hc2⟩ := ho2.bs.shape
    obtain ⟨b2', off2, rfl, _⟩ := hc2 (List.ne_nil_of_length_pos (by omega))
    have hq2 : l.length ≤ cap2 := by omega
    clear hc2 hRl hl2
    have B2 : Below w.heap.size w w2 := B0.trans (b2.mono (Nat.le_succ _))
    have C2 := b2
    clear b2 c5 c6
    obtain ⟨c5, c6⟩ := HC.out w2 C2
    go_wp2_with fail
    refine (roomy_any _ l _ (HB.out _ B2) hlen).mono ?_
    rw [← HR.out]
    rintro e w3 ⟨v3, rfl, ho3, b3⟩
    obtain ⟨ao3, cap3, rfl, hl3, hm3, _, _⟩ := ho3.bs.shape
    have s2 := C2.size
    rw [hs1] at s2
    have B3 : Below w.heap.size w w3 := andThen B2 b3
    have C3 : Below (w.heap.size + 1) wb w3 := C2.trans (b3.mono s2)
    have ho2' := ho2.kept b3
    have s3 := b3.size
    clear b3 c5 c6 ho2 HB
    obtain ⟨c5, c6⟩ := HC.out w3 C3
    go_wp2_with fail
    refine (laid_any _ ls _ (HP.out _ B3) HS.out).mono ?_
    rintro e w4 ⟨v4, v5, rfl, ho4, hr5, b4⟩
    obtain ⟨ao4, cap4, rfl, hl4, hm4, _, _⟩ := ho4.bs.shape
    obtain ⟨ao5, cap5, rfl, hm5, _⟩ := hr5.ps.shape
    have B4 : Below w.heap.size w w4 := andThen B3 b4
    have C4 : Below (w.heap.size + 1) wb w4 := C3.trans (b4.mono (by omega))
    have ho2 := ho2'.kept b4
    have ho3' := ho3.kept b4
    have s4 := b4.size
    clear b4 c5 c6 ho2' ho3
    go_wp2_with fail
    have hll : (lay ls).length ≤ 400000000 := by
      have h1 := lay_len ls
      have h2 := HS.out
      omega
    refine (rwhole_any _ (lay ls) _ ho4.bs (by omega)).mono ?_
    rintro e w5 ⟨v6, rfl, ho6, b5⟩
    obtain ⟨ao6, cap6, rfl, _⟩ := ho6.bs.shape
    have B5 : Below w.heap.size w w5 := andThen B4 b5
    have C5 : Below (w.heap.size + 1) wb w5 := C4.trans (b5.mono (by omega))
    have ho2' := ho2.kept b5
    have ho3 := ho3'.kept b5
    have ho4' := ho4.kept b5
    have hr5' := hr5.kept b5
    have s5 := b5.size
    have hg5 : ∀ k, (Value.slice ao5 ls.length cap5).ownBlock = some k → w3.heap.size ≤ k ∧ k < w4.heap.size := by
      obtain ⟨vs, h1, _⟩ := hr5
      exact fun k hk => h1.lt k hk
    have HG : Hid (∀ k, (Value.slice ao5 ls.length cap5).ownBlock = some k → w3.heap.size ≤ k ∧ k < w4.heap.size) := hg5
    clear hg5
    clear b5 ho2 ho3' ho4 hr5
    obtain ⟨c5, c6⟩ := HC.out w5 C5
    go_wp2_with fail
    refine (kept_any _ ls _ (HP.out _ B5) HS.out).mono ?_
    rintro e w6 ⟨v7, rfl, ho7, b6⟩
    obtain ⟨ao7, cap7, rfl, hm7, _⟩ := ho7.ps.shape
    have B6 : Below w.heap.size w w6 := andThen B5 b6
    have C6 : Below (w.heap.size + 1) wb w6 := C5.trans (b6.mono (by omega))
    have ho2 := ho2'.kept b6
    have ho3' := ho3.kept b6
    have ho4 := ho4'.kept b6
    have ho6' := ho6.kept b6
    have hr5 := hr5'.kept b6
    have s6 := b6.size
    clear b6 ho2' ho3 ho4' ho6 hr5' c5 c6 HP
    go_wp2
    go_loopw [9, 10] (fun o i wr => ∃ k : Nat, k ≤ 20 ∧ i = .int .i64 (k : Int) ∧ RowB w3.heap.size wr o (ls ++ List.replicate k [207]) ∧ w6.grownBy wr (Value.slice ao5 ls.length cap5).ownBlock ∧ (o.ownBlock = (Value.slice ao5 ls.length cap5).ownBlock ∨ ∃ g, o.ownBlock = some g ∧ w6.heap.size ≤ g)) (fun _ i _ => 20 - (intOf i).toNat)
    case atStart => exact ⟨0, by omega, rfl, by simpa using hr5, World.grownBy.refl _ _, .inl rfl⟩
    case round =>
      obtain ⟨k, hk, rfl, hrow, hgr, hob⟩ := hrel
      by_cases hlt : k < 20
      · obtain ⟨vs, hr, hvl, he⟩ := hrow
        have hNL : ls.length ≤ 4194304 := by have := HS.out; omega
        have hvs : vs.length ≤ 5000000000 := by
          rw [hvl, List.length_append, List.length_replicate]
          omega
        have HRR : Hid (∀ o o', Row w3.heap.size ((wr.alloc o).alloc o') u9 vs) := fun o o' => hr.kept (up (up0 _ _) _)
        have HE : Hid (∀ o o', ∀ j (h : j < vs.length) (h2 : j < (ls ++ List.replicate k [207]).length), Bk ((wr.alloc o).alloc o') vs[j] (ls ++ List.replicate k [207])[j]) := fun o o' j x y => (he j x y).kept (up (up0 _ _) _)
        have HV : Hid (vs.length = (ls ++ List.replicate k [207]).length) := hvl
        have s7 := hgr.size
        clear hr he hvl
        go_wp2_with (at_builtin; refine wpList_push_at _ rfl (.tmp 51) (.tmp 53) 23 rfl w3.heap.size hin Tryd.underlying23 _ vs rfl (HRR.out _ _) _ (.slice (some ⟨wr.heap.size, 0, none⟩) 1 1) rfl (by first | exact cell_two wr _ _ _ | exact World.cell?_alloc_new (wr.alloc _) _ _ 0) rfl hvs (by first | omega | (simp; omega)) ?_)
        intro v8 w8 hr8 hg8 hob8
        have RR : Hid (RowB w3.heap.size w8 v8 (ls ++ List.replicate (k + 1) [207]) ∧ w6.grownBy w8 (Value.slice ao5 ls.length cap5).ownBlock ∧ (v8.ownBlock = (Value.slice ao5 ls.length cap5).ownBlock ∨ ∃ g, v8.ownBlock = some g ∧ w6.heap.size ≤ g)) := by
          refine ⟨?_, grown_trans hgr (up (up0 _ _) _) hg8 hob, ?_⟩
          · rw [List.replicate_succ', ← List.append_assoc]
            exact RowB.push (HRR.out _ _) HV.out (HE.out _ _) (bk_207 wr _) hr8 hg8
          · rcases hob8 with e | e
            · rw [e]
              exact hob
            · exact .inr ⟨_, e, by omega⟩
        clear hr8 hg8 hob8 HRR HE HV hgr hob
        go_wp2
        go_roundw
        case rel => exact ⟨k + 1, by omega, by go_num, RR.out.1, RR.out.2.1, RR.out.2.2⟩
        case measure => simp [intOf]; omega
      · obtain rfl : k = 20 := by omega
        obtain ⟨vs5, hrw5, _⟩ := hr5
        have o2 := own_grown hrw5 ho2 hgr
        have o3 := own_grown hrw5 ho3' hgr
        have o4 := own_grown hrw5 ho4 hgr
        have o6 := own_grown hrw5 ho6' hgr
        have o7 := ownP_grown ho7 hgr (fun k hk => Nat.lt_of_lt_of_le (HG.out k hk).2 s5)
        have s7 := hgr.size
        have BW : Below w.heap.size w wr := B6.grown hgr (by omega) (fun k hk => by have := (HG.out k hk).1; omega)
        have hbx : wr.heap[w.heap.size]? = some (.cells #[.int .i64 7, .int .u64 u, .int .i64 i, .int .i64 a, .int .i64 m, .slice aob l.length capb, .slice aop ls.length capp] 43) := (hgr.block w.heap.size (by omega) (fun e => by have := (HG.out _ e.symm).1; omega)).trans (HX.out w6 C6)
        clear ho2 ho3' ho4 ho6' ho7 hrw5 hgr HG hob
        have hLL : (ls ++ List.replicate 20 [207]).length = ls.length + 20 := by rw [List.length_append, List.length_replicate]
        obtain ⟨g9, cap9, e9, hl9, hm9, _⟩ := row_list hrow (by omega)
        rw [hLL] at e9 hl9
        clear hLL
        subst e9
        have W1 : ∀ x5 x6, RowB w3.heap.size ((wr.setCell ⟨w.heap.size, 5, none⟩ x5).setCell ⟨w.heap.size, 6, none⟩ x6) (.slice (some ⟨g9, 0, none⟩) (ls.length + 20) cap9) (ls ++ List.replicate 20 [207]) := fun x5 x6 =>
          rowB_set (rowB_set hrow (by show w.heap.size < w3.heap.size; omega) _ _ _ hbx (by decide)) (by show w.heap.size < w3.heap.size; omega) _ _ _ (Go.heap_setCell_same wr w.heap.size 5 _ _ x5 hbx) (by decide)
        have W2 : ∀ x5 x6, Own (w.heap.size + 1) ((wr.setCell ⟨w.heap.size, 5, none⟩ x5).setCell ⟨w.heap.size, 6, none⟩ x6) (.slice (some ⟨b2', off2, none⟩) R.length cap2) R := fun x5 x6 => own_set (own_set o2 (Nat.lt_succ_self _)) (Nat.lt_succ_self _)
        have W3 : ∀ x5 x6, Own w2.heap.size ((wr.setCell ⟨w.heap.size, 5, none⟩ x5).setCell ⟨w.heap.size, 6, none⟩ x6) (.slice ao3 R.length cap3) R := fun x5 x6 => own_set (own_set o3 (by show w.heap.size < w2.heap.size; omega)) (by show w.heap.size < w2.heap.size; omega)
        have W4 : ∀ x5 x6, Own w3.heap.size ((wr.setCell ⟨w.heap.size, 5, none⟩ x5).setCell ⟨w.heap.size, 6, none⟩ x6) (.slice ao4 (lay ls).length cap4) (lay ls) := fun x5 x6 => own_set (own_set o4 (by show w.heap.size < w3.heap.size; omega)) (by show w.heap.size < w3.heap.size; omega)
        have W6 : ∀ x5 x6, Own w4.heap.size ((wr.setCell ⟨w.heap.size, 5, none⟩ x5).setCell ⟨w.heap.size, 6, none⟩ x6) (.slice ao6 (lay ls).length cap6) (lay ls) := fun x5 x6 => own_set (own_set o6 (by show w.heap.size < w4.heap.size; omega)) (by show w.heap.size < w4.heap.size; omega)
        have W7 : ∀ x5 x6, OwnP w5.heap.size ((wr.setCell ⟨w.heap.size, 5, none⟩ x5).setCell ⟨w.heap.size, 6, none⟩ x6) (.slice ao7 ls.length cap7) ls := fun x5 x6 => ownP_set (ownP_set o7 (by show w.heap.size < w5.heap.size; omega)) (by show w.heap.size < w5.heap.size; omega)
        have W8 : ∀ x5 x6, Below w.heap.size w ((wr.setCell ⟨w.heap.size, 5, none⟩ x5).setCell ⟨w.heap.size, 6, none⟩ x6) := fun x5 x6 => (BW.setCell (Nat.le_refl _) _).setCell (Nat.le_refl _) _
        have WW : Hid ((∀ x5 x6, RowB w3.heap.size ((wr.setCell ⟨w.heap.size, 5, none⟩ x5).setCell ⟨w.heap.size, 6, none⟩ x6) (.slice (some ⟨g9, 0, none⟩) (ls.length + 20) cap9) (ls ++ List.replicate 20 [207]) ∧ Own (w.heap.size + 1) ((wr.setCell ⟨w.heap.size, 5, none⟩ x5).setCell ⟨w.heap.size, 6, none⟩ x6) (.slice (some ⟨b2', off2, none⟩) R.length cap2) R ∧ Own w2.heap.size ((wr.setCell ⟨w.heap.size, 5, none⟩ x5).setCell ⟨w.heap.size, 6, none⟩ x6) (.slice ao3 R.length cap3) R ∧ Own w3.heap.size ((wr.setCell ⟨w.heap.size, 5, none⟩ x5).setCell ⟨w.heap.size, 6, none⟩ x6) (.slice ao4 (lay ls).length cap4) (lay ls) ∧ Own w4.heap.size ((wr.setCell ⟨w.heap.size, 5, none⟩ x5).setCell ⟨w.heap.size, 6, none⟩ x6) (.slice ao6 (lay ls).length cap6) (lay ls) ∧ OwnP w5.heap.size ((wr.setCell ⟨w.heap.size, 5, none⟩ x5).setCell ⟨w.heap.size, 6, none⟩ x6) (.slice ao7 ls.length cap7) ls ∧ Below w.heap.size w ((wr.setCell ⟨w.heap.size, 5, none⟩ x5).setCell ⟨w.heap.size, 6, none⟩ x6))) := fun x5 x6 => ⟨W1 x5 x6, W2 x5 x6, W3 x5 x6, W4 x5 x6, W6 x5 x6, W7 x5 x6, W8 x5 x6⟩
        clear W1 W2 W3 W4 W6 W7 W8 o2 o3 o4 o6 o7 hrow BW HX HC
        have k0 : wr.cell? ⟨w.heap.size, 0, none⟩ = some (.int .i64 7) := by unfold World.cell?; rw [hbx]; rfl
        have k1 : wr.cell? ⟨w.heap.size, 1, none⟩ = some (.int .u64 u) := by unfold World.cell?; rw [hbx]; rfl
        have k2 : wr.cell? ⟨w.heap.size, 2, none⟩ = some (.int .i64 i) := by unfold World.cell?; rw [hbx]; rfl
        have k3 : wr.cell? ⟨w.heap.size, 3, none⟩ = some (.int .i64 a) := by unfold World.cell?; rw [hbx]; rfl
        have k4 : wr.cell? ⟨w.heap.size, 4, none⟩ = some (.int .i64 m) := by unfold World.cell?; rw [hbx]; rfl
        have k5 : wr.cell? ⟨w.heap.size, 5, none⟩ = some (.slice aob l.length capb) := by unfold World.cell?; rw [hbx]; rfl
        have k6 : wr.cell? ⟨w.heap.size, 6, none⟩ = some (.slice aop ls.length capp) := by unfold World.cell?; rw [hbx]; rfl
        have f5 : wr.frozen? ⟨w.heap.size, 5, none⟩ = false := by unfold World.frozen?; rw [hbx]; rfl
        have f6 : wr.frozen? ⟨w.heap.size, 6, none⟩ = false := by unfold World.frozen?; rw [hbx]; rfl
        clear hbx
        go_wp2_with fail
        have HFL : Hid (ls.flatten.length ≤ 140737488355328) := by
          have := HS.out
          show _ ≤ _
          omega
        obtain ⟨hrow, o2, o3, o4, o6, o7, bw⟩ := WW.out (.slice (some ⟨b2', off2, none⟩) l.length cap2) (.slice (some ⟨g9, 0, none⟩) ls.length cap9)
        clear WW k0 k1 k2 k3 k4 k5 k6 f5 f6
        generalize (wr.setCell ⟨w.heap.size, 5, none⟩ (.slice (some ⟨b2', off2, none⟩) l.length cap2)).setCell ⟨w.heap.size, 6, none⟩ (.slice (some ⟨g9, 0, none⟩) ls.length cap9) = W9 at *
        refine (stretches_sum _ _ _ _ _ _ ls _ (HT.out _ bw) (list_ps hrow) HFL.out).mono ?_
        rintro e w10 ⟨rfl, b10⟩
        have HA : Hid (∀ w', Below W9.heap.size W9 w' → Bs w' (.slice (some ⟨b2', off2, none⟩) R.length cap2) R ∧ Bs w' (.slice ao3 R.length cap3) R ∧ Bs w' (.slice ao4 (lay ls).length cap4) (lay ls) ∧ Bs w' (.slice ao6 (lay ls).length cap6) (lay ls) ∧ Ps w' (.slice ao7 ls.length cap7) ls ∧ Ps w' (.slice (some ⟨g9, 0, none⟩) ls.length cap9) ls) := fun w' hb => ⟨o2.bs.kept hb, o3.bs.kept hb, o4.bs.kept hb, o6.bs.kept hb, o7.ps.kept hb, (list_ps hrow).kept hb⟩
        have HM : Hid (∀ w', Below W9.heap.size W9 w' → ∀ k, k < 20 → ∃ vj, w'.cell? ⟨g9, ls.length + k, none⟩ = some vj ∧ Bs w' vj [207]) := fun w' hb k hk => by
          obtain ⟨vj, h1, h2⟩ := list_more (hrow.kept hb) k (by rw [List.length_replicate]; exact hk)
          rw [List.getElem_replicate] at h2
          exact ⟨vj, h1, h2⟩
        have BW : Hid (Below w.heap.size w W9) := bw
        clear hrow o2 o3 o4 o6 o7 bw HFL HT
        go_wp2
        go_loopw [11, 22] (fun ok i wr' => ∃ k : Nat, k ≤ 20 ∧ i = .int .i64 (k : Int) ∧ ok = .bool true ∧ Below W9.heap.size W9 wr') (fun _ i _ => 20 - (intOf i).toNat)
        case atStart => exact ⟨0, by omega, rfl, rfl, b10⟩
        case round =>
          clear b10
          obtain ⟨k, hk, rfl, rfl, hbel⟩ := hrel
          by_cases hk20 : k < 20
          · obtain ⟨vj, hcj, hbj⟩ := HM.out wr hbel k hk20
            have HBJ : Hid (∀ o, Bs (wr.alloc o) vj [207]) := fun o => hbj.alloc o
            obtain ⟨aoj, capj, rfl, _⟩ := hbj.shape
            have HBJ2 : Hid (∀ o, Bs (wr.alloc o) (.slice aoj 1 capj) [207]) := HBJ.out
            have hcj2 : wr.cell? ⟨g9, ls.length + k, none⟩ = some (.slice aoj 1 capj) := hcj
            clear hcj HBJ hbj HA HM
            have hNL : ls.length ≤ 4194304 := by have := HS.out; omega
            go_wp2_with fail
            refine (same_ok _ _ [207] _ (HBJ2.out _) (Bs.one _ 207 (by decide) _ rfl)).mono ?_
            rintro e w11 ⟨rfl, b11⟩
            have hb11 := andThen (up hbel _) b11
            clear b11 hbel hcj2 HBJ2
            go_wp2
            go_roundw
            case rel => exact ⟨k + 1, by omega, by go_num, rfl, hb11⟩
            case measure => simp [intOf]; omega
          · obtain rfl : k = 20 := by omega
            obtain ⟨h2, h3, _, _, _, _⟩ := HA.out wr hbel
            clear HM
            generalize lay ls = L at *
            go_wp2_with fail
            refine (same_ok _ _ R _ h2 h3).mono ?_
            rintro e w11 ⟨rfl, b11⟩
            have hb11 := andThen hbel b11
            clear h2 h3 b11 hbel
            obtain ⟨_, _, h4, h6, _, _⟩ := HA.out w11 hb11
            go_wp2_with fail
            refine (same_ok _ _ L _ h4 h6).mono ?_
            rintro e w12 ⟨rfl, b12⟩
            have hb12 := andThen hb11 b12
            clear h4 h6 b12 hb11
            obtain ⟨_, _, _, _, h7, h9⟩ := HA.out w12 hb12
            go_wp2_with fail
            refine (sameAll_ok _ _ ls _ h7 h9).mono ?_
            rintro e w13 ⟨rfl, b13⟩
            have hb13 := andThen hb12 b13
            clear h7 h9 b13 hb12 HA
            have s9 := BW.out.size
            have HB13 : Hid (Below w.heap.size w w13) := BW.out.trans (hb13.mono s9)
            go_wp2
            go_ret
            exact ⟨rfl, HB13.out⟩
end Go.Proofs.YtnglcadhleefiabDoor
