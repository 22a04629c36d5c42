/-
  RewriteLent: turned.
-/
import Derived.Test.YtggenlnknnhjgaaRy3
import Derived.Test.YtggenlnknnhjgaaCc
import Derived.Deep.Cut
namespace Go.Proofs.Ytggenlnknnhjgaa
open Go Go.RowKit Go.ChangeShapes
open Wb
/-- what the second law asks of its records -/
structure LS2 (rs : List Rec) : Prop where
  each : ∀ r ∈ rs, r.x.fit ∧ r.l.length ≤ 2000
  few : rs.length ≤ 100
/-- what turned leaves -/
def TPo (B : Nat) (w : World) (v : Value) (ps ms : List (Rec × Value)) (e : Ending) (w' : World) : Prop := ∃ ps', e = .returned (.tuple #[]) ∧ Rws B w' v (ps' ++ ms) ∧ ps'.length = ps.length ∧ LS2 (ps'.map Prod.fst) ∧ Cb.Fr w w' (Rq v (ps ++ ms)) ∧ ∀ q, Rq v (ps' ++ ms) q → Rq v (ps ++ ms) q
theorem fit_iff (x : Nums) : x.fit ↔ ((-9223372036854775808 ≤ x.k ∧ x.k ≤ 9223372036854775807) ∧ (-9223372036854775808 ≤ x.s ∧ x.s ≤ 9223372036854775807) ∧ (-9223372036854775808 ≤ x.p ∧ x.p ≤ 9223372036854775807) ∧ (-9223372036854775808 ≤ x.t ∧ x.t ≤ 9223372036854775807) ∧ (-9223372036854775808 ≤ x.a ∧ x.a ≤ 9223372036854775807) ∧ (-9223372036854775808 ≤ x.l ∧ x.l ≤ 9223372036854775807) ∧ (-9223372036854775808 ≤ x.c ∧ x.c ≤ 9223372036854775807) ∧ (-9223372036854775808 ≤ x.n ∧ x.n ≤ 9223372036854775807) ∧ (-9223372036854775808 ≤ x.i ∧ x.i ≤ 9223372036854775807)) := by
  constructor
  · intro h
    exact ⟨h 1 (by omega) (by omega), h 2 (by omega) (by omega), h 3 (by omega) (by omega), h 4 (by omega) (by omega), h 5 (by omega) (by omega), h 6 (by omega) (by omega), h 7 (by omega) (by omega), h 8 (by omega) (by omega), h 9 (by omega) (by omega)⟩
  · rintro ⟨h1, h2, h3, h4, h5, h6, h7, h8, h9⟩ t a b
    obtain rfl | rfl | rfl | rfl | rfl | rfl | rfl | rfl | rfl : t = 1 ∨ t = 2 ∨ t = 3 ∨ t = 4 ∨ t = 5 ∨ t = 6 ∨ t = 7 ∨ t = 8 ∨ t = 9 := by omega
    · exact h1
    · exact h2
    · exact h3
    · exact h4
    · exact h5
    · exact h6
    · exact h7
    · exact h8
    · exact h9
theorem numT_fit (j : Nat) (z : Int) (r : Rec) (h : r.x.fit) (h1 : -9223372036854775808 ≤ z) (h2 : z ≤ 9223372036854775807) : (numT j z r).x.fit := by
  rw [fit_iff] at h
  unfold numT
  split
  · rw [fit_iff]; exact h
  · split
    · rw [fit_iff]; exact ⟨⟨h1, h2⟩, h.2⟩
    · split
      · rw [fit_iff]; exact ⟨h.1, ⟨h1, h2⟩, h.2.2⟩
      · rw [fit_iff]; exact ⟨h.1, h.2.1, ⟨h1, h2⟩, h.2.2.2⟩
theorem numT_nm (j : Nat) (z : Int) (r : Rec) : (numT j z r).nm = r.nm ∧ (numT j z r).l = r.l := by unfold numT; split; exact ⟨rfl, rfl⟩; split; exact ⟨rfl, rfl⟩; split <;> exact ⟨rfl, rfl⟩
theorem tmod_place (a : Int) (n : Nat) (hn : 0 < n) : ∃ I : Nat, I < n ∧ (Int.tmod a (n : Int) = (I : Int) ∨ ∃ z, Int.tmod a (n : Int) = z ∧ z < 0 ∧ z + (n : Int) = (I : Int)) := by
  have h1 := Int.tmod_lt_of_pos a (show (0 : Int) < (n : Int) by omega)
  have h2 : -(n : Int) < Int.tmod a (n : Int) := by
    have := Int.lt_tmod_of_pos a (show (0 : Int) < (n : Int) by omega)
    omega
  by_cases h : 0 ≤ Int.tmod a (n : Int)
  · exact ⟨(Int.tmod a (n : Int)).toNat, by omega, .inl (by omega)⟩
  · exact ⟨(Int.tmod a (n : Int) + n).toNat, by omega, .inr ⟨_, rfl, by omega, by omega⟩⟩
theorem good_set2 {ps : List (Rec × Value)} (h : LS2 (ps.map Prod.fst)) (i : Nat) (q : Rec × Value) (hq : q.1.x.fit ∧ q.1.l.length ≤ 2000) : LS2 ((ps.set i q).map Prod.fst) := by
  refine ⟨fun r hr => ?_, by rw [List.length_map, List.length_set]; have := h.few; rw [List.length_map] at this; exact this⟩
  obtain ⟨p, hp, rfl⟩ := List.mem_map.1 hr
  rcases List.mem_or_eq_of_mem_set hp with hp | rfl
  · exact h.each _ (List.mem_map.2 ⟨p, hp, rfl⟩)
  · exact hq
theorem rq_set {v : Value} {ps ms : List (Rec × Value)} {i : Nat} {p q0 : Rec × Value} (hp : ps[i]? = some p) (e : q0.2 = p.2) : ∀ q, Rq v (ps.set i q0 ++ ms) q → Rq v (ps ++ ms) q := fun q hq => by
  rcases hq with h | ⟨x, hx, h⟩
  · exact .inl h
  · rcases List.mem_append.1 hx with hx | hx
    · rcases List.mem_or_eq_of_mem_set hx with hx | hx
      · exact .inr ⟨x, List.mem_append_left _ hx, h⟩
      · rw [hx, e] at h
        exact .inr ⟨p, List.mem_append_left _ (List.mem_of_getElem? hp), h⟩
    · exact .inr ⟨x, List.mem_append_right _ hx, h⟩
theorem TPo.kept {B : Nat} {w w' w2 : World} {v : Value} {ps ms : List (Rec × Value)} {e : Ending} (h : TPo B w v ps ms e w') (hb : Below w'.heap.size w' w2) : TPo B w v ps ms e w2 := by
  obtain ⟨ps', h1, h2, h3, h4, h5, h6⟩ := h
  exact ⟨ps', h1, h2.kept hb, h3, h4, h5.trans (Cb.Fr.kept hb) fun _ _ e => e, h6⟩
theorem wrapB (z : Int) : ∃ b : Nat, b < 256 ∧ IntKind.wrap .u8 z = (b : Int) := by
  refine ⟨(z % 256).toNat, by omega, ?_⟩
  unfold IntKind.wrap
  simp [IntKind.bits, IntKind.signed]
  omega
section
variable {B : Nat} {w : World} {g N cap : Nat} {ps ms : List (Rec × Value)}
/-- a number of one of the first is written -/
theorem tp_num (h : Rws B w (.slice (some ⟨g, 0, none⟩) N cap) (ps ++ ms)) (hN : N = (ps ++ ms).length) (hG : LS2 (ps.map Prod.fst)) (I j : Nat) (hI : I < ps.length) (hj : j ≤ 3) (z : Int) (h1 : -9223372036854775808 ≤ z) (h2 : z ≤ 9223372036854775807) : (∃ y, w.cell? ⟨g, I * 12 + j, none⟩ = some y) ∧ w.frozen? ⟨g, I * 12 + j, none⟩ = false ∧ TPo B w (.slice (some ⟨g, 0, none⟩) N cap) ps ms (.returned (.tuple #[])) (w.setCell ⟨g, I * 12 + j, none⟩ (.int .i64 z)) := by
  subst hN
  have hI2 : I < (ps ++ ms).length := by rw [List.length_append]; omega
  have hpi : ps[I]? = some ps[I] := List.getElem?_eq_getElem hI
  have he : (ps ++ ms)[I] = ps[I] := List.getElem_append_left hI
  have hr := hG.each ps[I].1 (List.mem_map.2 ⟨_, List.getElem_mem hI, rfl⟩)
  refine ⟨?_, World.ownsRow.frozenAt h.recs.1 _, ps.set I (numT j z ps[I].1, ps[I].2), rfl, ?_, by rw [List.length_set], good_set2 hG I _ ⟨numT_fit j z _ hr.1 h1 h2, ?_⟩, ?_, rq_set hpi rfl⟩
  · refine ⟨_, (World.ownsRow.cellAt h.recs.1 (I * 12 + j) (by omega)).trans ((rcls_get (ps ++ ms) I hI2 j (by omega)).trans (List.getElem?_eq_getElem (show j < (rcl (ps ++ ms)[I]).length from ?_)))⟩
    show j < 12
    omega
  · have := h.num I j hI2 hj z
    rw [he] at this
    rw [← List.set_append_left _ _ hI]
    exact this
  · rw [(numT_nm _ _ _).2]
    exact hr.2
  · exact (Cb.fr_set _ _ _ _).mono fun q e => .inl (by rw [e]; rfl)
/-- the first byte of one of the first is written -/
theorem tp_byte (h : Rws B w (.slice (some ⟨g, 0, none⟩) N cap) (ps ++ ms)) (hN : N = (ps ++ ms).length) (hG : LS2 (ps.map Prod.fst)) (I : Nat) (r : Rec) (d : Value) (hp : ps[I]? = some (r, d)) (hl : 0 < r.l.length) (b : Nat) (hb : b < 256) : ∃ gd cd, d = .slice (some ⟨gd, 0, none⟩) r.l.length cd ∧ r.l.length ≤ cd ∧ cd ≤ maxLen ∧ (∃ y, w.cell? ⟨gd, 0, none⟩ = some y) ∧ w.frozen? ⟨gd, 0, none⟩ = false ∧ w.cell? ⟨g, I * 12 + 11, none⟩ = some (.slice (some ⟨gd, 0, none⟩) r.l.length cd) ∧ TPo B w (.slice (some ⟨g, 0, none⟩) N cap) ps ms (.returned (.tuple #[])) (w.setCell ⟨gd, 0, none⟩ (.int .u8 (b : Int))) := by
  subst hN
  obtain ⟨hI, hpe⟩ := List.getElem?_eq_some_iff.1 hp
  have hI2 : I < (ps ++ ms).length := by rw [List.length_append]; omega
  have hp2 : (ps ++ ms)[I]? = some (r, d) := by rw [List.getElem?_append_left hI]; exact hp
  have ho := h.own (r, d) (List.mem_of_getElem? hp2)
  have hr := hG.each r (List.mem_map.2 ⟨(r, d), List.mem_of_getElem? hp, rfl⟩)
  rcases ho.row.2 with ⟨e, h0⟩ | ⟨gd, cd, cur, e, h1, h2, h3, h4, h5, h6⟩
  · exact absurd h0 (show r.l.length ≠ 0 by omega)
  · simp only at e h3
    subst e
    refine ⟨gd, cd, rfl, h3, h4, ⟨_, (World.ownsRow.cellAt ho.row 0 (by omega)).trans (List.getElem?_eq_getElem (show 0 < (bv r.l).length by rw [bv_length]; exact hl))⟩, World.ownsRow.frozenAt ho.row 0, ?_, ps.set I (⟨r.x, r.nm, r.l.set 0 b⟩, .slice (some ⟨gd, 0, none⟩) r.l.length cd), rfl, ?_, by rw [List.length_set], good_set2 hG I _ ⟨hr.1, by rw [List.length_set]; exact hr.2⟩, ?_, rq_set hp rfl⟩
    · have h9 := (World.ownsRow.cellAt h.recs.1 (I * 12 + 11) (by omega)).trans (rcls_get (ps ++ ms) I hI2 11 (by decide))
      rw [(List.getElem?_eq_some_iff.1 hp2).2] at h9
      exact h9
    · rw [← List.set_append_left _ _ hI]
      exact h.byte I 0 b r hp2 hl hb
    · exact (Cb.fr_set _ _ _ _).mono fun q e => .inr ⟨(r, _), List.mem_of_getElem? hp2, by rw [e]; rfl⟩
end
set_option maxRecDepth 100000 in
set_option maxHeartbeats 4000000 in
theorem turned_sp (at1 by1 : Int) (B : Nat) (w : World) (g N cap : Nat) (ps ms : List (Rec × Value)) (h : Rws B w (.slice (some ⟨g, 0, none⟩) N cap) (ps ++ ms)) (hN : N = (ps ++ ms).length) (hG : LS2 (ps.map Prod.fst)) (h1 : -9223372036854775808 ≤ by1) (h2 : by1 ≤ 9223372036854775807) (I : Nat) (hI : I < ps.length) (hz : Int.tmod at1 (ps.length : Int) = (I : Int)) :
    Calls Try.prog 13 #[.slice (some ⟨g, 0, none⟩) ps.length cap, .agg #[.int .i64 at1, .int .i64 1, .int .i64 by1]] w (TPo B w (.slice (some ⟨g, 0, none⟩) N cap) ps ms) := by
  have hfew : ps.length ≤ 100 := by have := hG.few; rwa [List.length_map] at this
  have hn0 : ((ps.length : Int) == 0) = false := by rw [beq_eq_false_iff_ne]; omega
  have hn1 : (ps.length : Int) ≠ 0 := by omega
  have HB : Hid (LB (w.alloc (.cells #[.int .i64 at1, .int .i64 1, .int .i64 by1] 45)) w.heap.size 45 [.int .i64 at1, .int .i64 1, .int .i64 by1]) := lb_new w [.int .i64 at1, .int .i64 1, .int .i64 by1] 45
  have hrw : Rws B (w.alloc (.cells #[.int .i64 at1, .int .i64 1, .int .i64 by1] 45)) (.slice (some ⟨g, 0, none⟩) N cap) (ps ++ ms) := h.kept (up0 _ _)
  have HFR : Hid (∀ e W', TPo B (w.alloc (.cells #[.int .i64 at1, .int .i64 1, .int .i64 by1] 45)) (.slice (some ⟨g, 0, none⟩) N cap) ps ms e W' → TPo B w (.slice (some ⟨g, 0, none⟩) N cap) ps ms e W') := fun e W' ⟨ps', q1, q2, q3, q4, q5, q6⟩ => ⟨ps', q1, q2, q3, q4, (Cb.Fr.kept (up0 _ _)).trans q5 fun _ _ e => e, q6⟩
  have hTP := tp_num hrw hN hG I 2 hI (by decide) by1 h1 h2
  have HT : Hid (TPo B w (.slice (some ⟨g, 0, none⟩) N cap) ps ms (.returned (.tuple #[])) ((w.alloc (.cells #[.int .i64 at1, .int .i64 1, .int .i64 by1] 45)).setCell ⟨g, I * 12 + 2, none⟩ (.int .i64 by1))) := HFR.out _ _ hTP.2.2
  obtain ⟨⟨y, hy⟩, hfz, -⟩ := hTP
  have t0 := HB.out.cell 0 _ rfl
  have t1 := HB.out.cell 1 _ rfl
  have t2 := HB.out.cell 2 _ rfl
  clear h hrw hG HFR
  go_enter Try.func13, Try.ntmps13
  go_upto_region 1 with fail
  clear HB
  generalize (w.alloc (.cells #[.int .i64 at1, .int .i64 1, .int .i64 by1] 45)) = W at *
  generalize w.heap.size = gt at *
  go_wp2_with fail
  go_end0
  exact HT.out
set_option maxRecDepth 100000 in
set_option maxHeartbeats 4000000 in
theorem turned_kp (at1 by1 : Int) (B : Nat) (w : World) (g N cap : Nat) (ps ms : List (Rec × Value)) (h : Rws B w (.slice (some ⟨g, 0, none⟩) N cap) (ps ++ ms)) (hN : N = (ps ++ ms).length) (hG : LS2 (ps.map Prod.fst)) (h1 : -9223372036854775808 ≤ by1) (h2 : by1 ≤ 9223372036854775807) (I : Nat) (hI : I < ps.length) (hz : Int.tmod at1 (ps.length : Int) = (I : Int)) :
    Calls Try.prog 13 #[.slice (some ⟨g, 0, none⟩) ps.length cap, .agg #[.int .i64 at1, .int .i64 2, .int .i64 by1]] w (TPo B w (.slice (some ⟨g, 0, none⟩) N cap) ps ms) := by
  have hfew : ps.length ≤ 100 := by have := hG.few; rwa [List.length_map] at this
  have hn0 : ((ps.length : Int) == 0) = false := by rw [beq_eq_false_iff_ne]; omega
  have hn1 : (ps.length : Int) ≠ 0 := by omega
  have HB : Hid (LB (w.alloc (.cells #[.int .i64 at1, .int .i64 2, .int .i64 by1] 45)) w.heap.size 45 [.int .i64 at1, .int .i64 2, .int .i64 by1]) := lb_new w [.int .i64 at1, .int .i64 2, .int .i64 by1] 45
  have hrw : Rws B (w.alloc (.cells #[.int .i64 at1, .int .i64 2, .int .i64 by1] 45)) (.slice (some ⟨g, 0, none⟩) N cap) (ps ++ ms) := h.kept (up0 _ _)
  have HFR : Hid (∀ e W', TPo B (w.alloc (.cells #[.int .i64 at1, .int .i64 2, .int .i64 by1] 45)) (.slice (some ⟨g, 0, none⟩) N cap) ps ms e W' → TPo B w (.slice (some ⟨g, 0, none⟩) N cap) ps ms e W') := fun e W' ⟨ps', q1, q2, q3, q4, q5, q6⟩ => ⟨ps', q1, q2, q3, q4, (Cb.Fr.kept (up0 _ _)).trans q5 fun _ _ e => e, q6⟩
  have hTP := tp_num hrw hN hG I 1 hI (by decide) by1 h1 h2
  have HT : Hid (TPo B w (.slice (some ⟨g, 0, none⟩) N cap) ps ms (.returned (.tuple #[])) ((w.alloc (.cells #[.int .i64 at1, .int .i64 2, .int .i64 by1] 45)).setCell ⟨g, I * 12 + 1, none⟩ (.int .i64 by1))) := HFR.out _ _ hTP.2.2
  obtain ⟨⟨y, hy⟩, hfz, -⟩ := hTP
  have t0 := HB.out.cell 0 _ rfl
  have t1 := HB.out.cell 1 _ rfl
  have t2 := HB.out.cell 2 _ rfl
  clear h hrw hG HFR
  go_enter Try.func13, Try.ntmps13
  go_upto_region 1 with fail
  clear HB
  generalize (w.alloc (.cells #[.int .i64 at1, .int .i64 2, .int .i64 by1] 45)) = W at *
  generalize w.heap.size = gt at *
  go_wp2_with fail
  go_end0
  exact HT.out
set_option maxRecDepth 100000 in
set_option maxHeartbeats 4000000 in
theorem turned_vp (at1 kd by1 : Int) (B : Nat) (w : World) (g N cap : Nat) (ps ms : List (Rec × Value)) (h : Rws B w (.slice (some ⟨g, 0, none⟩) N cap) (ps ++ ms)) (hN : N = (ps ++ ms).length) (hG : LS2 (ps.map Prod.fst)) (h1 : -9223372036854775808 ≤ by1) (h2 : by1 ≤ 9223372036854775807) (I : Nat) (hI : I < ps.length) (hz : Int.tmod at1 (ps.length : Int) = (I : Int)) (k1 : kd ≠ 1) (k2 : kd ≠ 2) (k3 : kd ≠ 3) :
    Calls Try.prog 13 #[.slice (some ⟨g, 0, none⟩) ps.length cap, .agg #[.int .i64 at1, .int .i64 kd, .int .i64 by1]] w (TPo B w (.slice (some ⟨g, 0, none⟩) N cap) ps ms) := by
  have hfew : ps.length ≤ 100 := by have := hG.few; rwa [List.length_map] at this
  have hn0 : ((ps.length : Int) == 0) = false := by rw [beq_eq_false_iff_ne]; omega
  have hn1 : (ps.length : Int) ≠ 0 := by omega
  have HB : Hid (LB (w.alloc (.cells #[.int .i64 at1, .int .i64 kd, .int .i64 by1] 45)) w.heap.size 45 [.int .i64 at1, .int .i64 kd, .int .i64 by1]) := lb_new w [.int .i64 at1, .int .i64 kd, .int .i64 by1] 45
  have hrw : Rws B (w.alloc (.cells #[.int .i64 at1, .int .i64 kd, .int .i64 by1] 45)) (.slice (some ⟨g, 0, none⟩) N cap) (ps ++ ms) := h.kept (up0 _ _)
  have HFR : Hid (∀ e W', TPo B (w.alloc (.cells #[.int .i64 at1, .int .i64 kd, .int .i64 by1] 45)) (.slice (some ⟨g, 0, none⟩) N cap) ps ms e W' → TPo B w (.slice (some ⟨g, 0, none⟩) N cap) ps ms e W') := fun e W' ⟨ps', q1, q2, q3, q4, q5, q6⟩ => ⟨ps', q1, q2, q3, q4, (Cb.Fr.kept (up0 _ _)).trans q5 fun _ _ e => e, q6⟩
  have hTP := tp_num hrw hN hG I 0 hI (by decide) by1 h1 h2
  have HT : Hid (TPo B w (.slice (some ⟨g, 0, none⟩) N cap) ps ms (.returned (.tuple #[])) ((w.alloc (.cells #[.int .i64 at1, .int .i64 kd, .int .i64 by1] 45)).setCell ⟨g, I * 12 + 0, none⟩ (.int .i64 by1))) := HFR.out _ _ hTP.2.2
  obtain ⟨⟨y, hy⟩, hfz, -⟩ := hTP
  simp only [Nat.add_zero] at hy hfz HT
  have t0 := HB.out.cell 0 _ rfl
  have t1 := HB.out.cell 1 _ rfl
  have t2 := HB.out.cell 2 _ rfl
  have e1 : (kd == 1) = false := by rw [beq_eq_false_iff_ne]; exact k1
  have e2 : (kd == 2) = false := by rw [beq_eq_false_iff_ne]; exact k2
  have e3 : (kd == 3) = false := by rw [beq_eq_false_iff_ne]; exact k3
  clear k1 k2 k3
  clear h hrw hG HFR
  go_enter Try.func13, Try.ntmps13
  go_upto_region 1 with fail
  clear HB
  generalize (w.alloc (.cells #[.int .i64 at1, .int .i64 kd, .int .i64 by1] 45)) = W at *
  generalize w.heap.size = gt at *
  go_wp2_with fail
  go_end0
  exact HT.out
set_option maxRecDepth 100000 in
set_option maxHeartbeats 4000000 in
theorem turned_bp (at1 by1 : Int) (B : Nat) (w : World) (g N cap : Nat) (ps ms : List (Rec × Value)) (h : Rws B w (.slice (some ⟨g, 0, none⟩) N cap) (ps ++ ms)) (hN : N = (ps ++ ms).length) (hG : LS2 (ps.map Prod.fst)) (_h1 : -9223372036854775808 ≤ by1) (_h2 : by1 ≤ 9223372036854775807) (I : Nat) (hI : I < ps.length) (hz : Int.tmod at1 (ps.length : Int) = (I : Int)) (r : Rec) (d : Value) (hp : ps[I]? = some (r, d)) (hl : 0 < r.l.length) :
    Calls Try.prog 13 #[.slice (some ⟨g, 0, none⟩) ps.length cap, .agg #[.int .i64 at1, .int .i64 3, .int .i64 by1]] w (TPo B w (.slice (some ⟨g, 0, none⟩) N cap) ps ms) := by
  have hfew : ps.length ≤ 100 := by have := hG.few; rwa [List.length_map] at this
  have hn0 : ((ps.length : Int) == 0) = false := by rw [beq_eq_false_iff_ne]; omega
  have hn1 : (ps.length : Int) ≠ 0 := by omega
  have HB : Hid (LB (w.alloc (.cells #[.int .i64 at1, .int .i64 3, .int .i64 by1] 45)) w.heap.size 45 [.int .i64 at1, .int .i64 3, .int .i64 by1]) := lb_new w [.int .i64 at1, .int .i64 3, .int .i64 by1] 45
  have hrw : Rws B (w.alloc (.cells #[.int .i64 at1, .int .i64 3, .int .i64 by1] 45)) (.slice (some ⟨g, 0, none⟩) N cap) (ps ++ ms) := h.kept (up0 _ _)
  have HFR : Hid (∀ e W', TPo B (w.alloc (.cells #[.int .i64 at1, .int .i64 3, .int .i64 by1] 45)) (.slice (some ⟨g, 0, none⟩) N cap) ps ms e W' → TPo B w (.slice (some ⟨g, 0, none⟩) N cap) ps ms e W') := fun e W' ⟨ps', q1, q2, q3, q4, q5, q6⟩ => ⟨ps', q1, q2, q3, q4, (Cb.Fr.kept (up0 _ _)).trans q5 fun _ _ e => e, q6⟩
  obtain ⟨b, hb, hw⟩ := wrapB by1
  obtain ⟨gd, cd, rfl, hc1, hc2, ⟨y, hy⟩, hfz, hcl, hTP⟩ := tp_byte hrw hN hG I r d hp hl b hb
  have HT : Hid (TPo B w (.slice (some ⟨g, 0, none⟩) N cap) ps ms (.returned (.tuple #[])) ((w.alloc (.cells #[.int .i64 at1, .int .i64 3, .int .i64 by1] 45)).setCell ⟨gd, 0, none⟩ (.int .u8 (b : Int)))) := HFR.out _ _ hTP
  have hl2 : ((r.l.length : Int) > 0) = True := eq_true (by omega)
  have hrl : r.l.length ≤ 2000 := (hG.each r (List.mem_map.2 ⟨_, List.mem_of_getElem? hp, rfl⟩)).2
  unfold maxLen at hc2
  clear hTP hp
  have t0 := HB.out.cell 0 _ rfl
  have t1 := HB.out.cell 1 _ rfl
  have t2 := HB.out.cell 2 _ rfl
  clear h hrw hG HFR
  go_enter Try.func13, Try.ntmps13
  go_upto_region 1 with fail
  clear HB
  generalize (w.alloc (.cells #[.int .i64 at1, .int .i64 3, .int .i64 by1] 45)) = W at *
  generalize w.heap.size = gt at *
  go_wp2_with fail
  go_region
  all_goals go_wp2_with fail
  all_goals go_end0
  all_goals exact HT.out.kept (Below.drew (Below.refl _ _))
set_option maxRecDepth 100000 in
set_option maxHeartbeats 4000000 in
theorem turned_ep (at1 by1 : Int) (B : Nat) (w : World) (g N cap : Nat) (ps ms : List (Rec × Value)) (h : Rws B w (.slice (some ⟨g, 0, none⟩) N cap) (ps ++ ms)) (hN : N = (ps ++ ms).length) (hG : LS2 (ps.map Prod.fst)) (_h1 : -9223372036854775808 ≤ by1) (_h2 : by1 ≤ 9223372036854775807) (I : Nat) (hI : I < ps.length) (hz : Int.tmod at1 (ps.length : Int) = (I : Int)) (r : Rec) (d : Value) (hp : ps[I]? = some (r, d)) (hl : r.l.length = 0) :
    Calls Try.prog 13 #[.slice (some ⟨g, 0, none⟩) ps.length cap, .agg #[.int .i64 at1, .int .i64 3, .int .i64 by1]] w (TPo B w (.slice (some ⟨g, 0, none⟩) N cap) ps ms) := by
  have hfew : ps.length ≤ 100 := by have := hG.few; rwa [List.length_map] at this
  have hn0 : ((ps.length : Int) == 0) = false := by rw [beq_eq_false_iff_ne]; omega
  have hn1 : (ps.length : Int) ≠ 0 := by omega
  have HB : Hid (LB (w.alloc (.cells #[.int .i64 at1, .int .i64 3, .int .i64 by1] 45)) w.heap.size 45 [.int .i64 at1, .int .i64 3, .int .i64 by1]) := lb_new w [.int .i64 at1, .int .i64 3, .int .i64 by1] 45
  have hrw : Rws B (w.alloc (.cells #[.int .i64 at1, .int .i64 3, .int .i64 by1] 45)) (.slice (some ⟨g, 0, none⟩) N cap) (ps ++ ms) := h.kept (up0 _ _)
  have HFR : Hid (∀ e W', TPo B (w.alloc (.cells #[.int .i64 at1, .int .i64 3, .int .i64 by1] 45)) (.slice (some ⟨g, 0, none⟩) N cap) ps ms e W' → TPo B w (.slice (some ⟨g, 0, none⟩) N cap) ps ms e W') := fun e W' ⟨ps', q1, q2, q3, q4, q5, q6⟩ => ⟨ps', q1, q2, q3, q4, (Cb.Fr.kept (up0 _ _)).trans q5 fun _ _ e => e, q6⟩
  have hI2 : I < (ps ++ ms).length := by rw [List.length_append]; omega
  have hcl : ∃ ad cd, (w.alloc (.cells #[.int .i64 at1, .int .i64 3, .int .i64 by1] 45)).cell? ⟨g, I * 12 + 11, none⟩ = some (.slice ad 0 cd) := by
    have hp2 : (ps ++ ms)[I] = (r, d) := by
      rw [List.getElem_append_left hI]
      exact (List.getElem?_eq_some_iff.1 hp).2
    have h9 : (w.alloc (.cells #[.int .i64 at1, .int .i64 3, .int .i64 by1] 45)).cell? ⟨g, I * 12 + 11, none⟩ = some d := by
      subst hN
      rw [World.ownsRow.cellAt hrw.recs.1 (I * 12 + 11) (by omega), rcls_get (ps ++ ms) I hI2 11 (by decide), hp2]
      rfl
    have hm : (r, d) ∈ ps ++ ms := hp2 ▸ List.getElem_mem hI2
    obtain ⟨ad, cd, ed, -⟩ := (h.own (r, d) hm).bs.shape
    refine ⟨ad, cd, ?_⟩
    rw [h9]
    show some d = _
    rw [show d = _ from ed]
    simp only [hl]
  obtain ⟨ad, cd, hcl⟩ := hcl
  have HT : Hid (∀ e, e = .returned (.tuple #[]) → TPo B w (.slice (some ⟨g, 0, none⟩) N cap) ps ms e (w.alloc (.cells #[.int .i64 at1, .int .i64 3, .int .i64 by1] 45))) := fun e he => HFR.out _ _ ⟨ps, he, hrw, rfl, hG, Cb.Fr.refl _ _, fun _ h => h⟩
  clear hp hI2
  have t0 := HB.out.cell 0 _ rfl
  have t1 := HB.out.cell 1 _ rfl
  have t2 := HB.out.cell 2 _ rfl
  clear h hrw hG HFR
  go_enter Try.func13, Try.ntmps13
  go_upto_region 1 with fail
  clear HB
  generalize (w.alloc (.cells #[.int .i64 at1, .int .i64 3, .int .i64 by1] 45)) = W at *
  generalize w.heap.size = gt at *
  go_wp2_with fail
  go_end0
  exact HT.out _ rfl
set_option maxRecDepth 100000 in
set_option maxHeartbeats 4000000 in
theorem turned_sn (at1 by1 : Int) (B : Nat) (w : World) (g N cap : Nat) (ps ms : List (Rec × Value)) (h : Rws B w (.slice (some ⟨g, 0, none⟩) N cap) (ps ++ ms)) (hN : N = (ps ++ ms).length) (hG : LS2 (ps.map Prod.fst)) (h1 : -9223372036854775808 ≤ by1) (h2 : by1 ≤ 9223372036854775807) (I : Nat) (hI : I < ps.length) (z0 : Int) (hz : Int.tmod at1 (ps.length : Int) = z0) (hz0 : z0 < 0) (hzI : z0 + (ps.length : Int) = (I : Int)) :
    Calls Try.prog 13 #[.slice (some ⟨g, 0, none⟩) ps.length cap, .agg #[.int .i64 at1, .int .i64 1, .int .i64 by1]] w (TPo B w (.slice (some ⟨g, 0, none⟩) N cap) ps ms) := by
  have hfew : ps.length ≤ 100 := by have := hG.few; rwa [List.length_map] at this
  have hn0 : ((ps.length : Int) == 0) = false := by rw [beq_eq_false_iff_ne]; omega
  have hn1 : (ps.length : Int) ≠ 0 := by omega
  have HB : Hid (LB (w.alloc (.cells #[.int .i64 at1, .int .i64 1, .int .i64 by1] 45)) w.heap.size 45 [.int .i64 at1, .int .i64 1, .int .i64 by1]) := lb_new w [.int .i64 at1, .int .i64 1, .int .i64 by1] 45
  have hrw : Rws B (w.alloc (.cells #[.int .i64 at1, .int .i64 1, .int .i64 by1] 45)) (.slice (some ⟨g, 0, none⟩) N cap) (ps ++ ms) := h.kept (up0 _ _)
  have HFR : Hid (∀ e W', TPo B (w.alloc (.cells #[.int .i64 at1, .int .i64 1, .int .i64 by1] 45)) (.slice (some ⟨g, 0, none⟩) N cap) ps ms e W' → TPo B w (.slice (some ⟨g, 0, none⟩) N cap) ps ms e W') := fun e W' ⟨ps', q1, q2, q3, q4, q5, q6⟩ => ⟨ps', q1, q2, q3, q4, (Cb.Fr.kept (up0 _ _)).trans q5 fun _ _ e => e, q6⟩
  have hTP := tp_num hrw hN hG I 2 hI (by decide) by1 h1 h2
  have HT : Hid (TPo B w (.slice (some ⟨g, 0, none⟩) N cap) ps ms (.returned (.tuple #[])) ((w.alloc (.cells #[.int .i64 at1, .int .i64 1, .int .i64 by1] 45)).setCell ⟨g, I * 12 + 2, none⟩ (.int .i64 by1))) := HFR.out _ _ hTP.2.2
  obtain ⟨⟨y, hy⟩, hfz, -⟩ := hTP
  have t0 := HB.out.cell 0 _ rfl
  have t1 := HB.out.cell 1 _ rfl
  have t2 := HB.out.cell 2 _ rfl
  have hzlt : (z0 < 0) = True := eq_true hz0
  clear h hrw hG HFR
  go_enter Try.func13, Try.ntmps13
  go_upto_region 1 with fail
  clear HB
  generalize (w.alloc (.cells #[.int .i64 at1, .int .i64 1, .int .i64 by1] 45)) = W at *
  generalize w.heap.size = gt at *
  go_wp2_with fail
  go_end0
  exact HT.out
set_option maxRecDepth 100000 in
set_option maxHeartbeats 4000000 in
theorem turned_kn (at1 by1 : Int) (B : Nat) (w : World) (g N cap : Nat) (ps ms : List (Rec × Value)) (h : Rws B w (.slice (some ⟨g, 0, none⟩) N cap) (ps ++ ms)) (hN : N = (ps ++ ms).length) (hG : LS2 (ps.map Prod.fst)) (h1 : -9223372036854775808 ≤ by1) (h2 : by1 ≤ 9223372036854775807) (I : Nat) (hI : I < ps.length) (z0 : Int) (hz : Int.tmod at1 (ps.length : Int) = z0) (hz0 : z0 < 0) (hzI : z0 + (ps.length : Int) = (I : Int)) :
    Calls Try.prog 13 #[.slice (some ⟨g, 0, none⟩) ps.length cap, .agg #[.int .i64 at1, .int .i64 2, .int .i64 by1]] w (TPo B w (.slice (some ⟨g, 0, none⟩) N cap) ps ms) := by
  have hfew : ps.length ≤ 100 := by have := hG.few; rwa [List.length_map] at this
  have hn0 : ((ps.length : Int) == 0) = false := by rw [beq_eq_false_iff_ne]; omega
  have hn1 : (ps.length : Int) ≠ 0 := by omega
  have HB : Hid (LB (w.alloc (.cells #[.int .i64 at1, .int .i64 2, .int .i64 by1] 45)) w.heap.size 45 [.int .i64 at1, .int .i64 2, .int .i64 by1]) := lb_new w [.int .i64 at1, .int .i64 2, .int .i64 by1] 45
  have hrw : Rws B (w.alloc (.cells #[.int .i64 at1, .int .i64 2, .int .i64 by1] 45)) (.slice (some ⟨g, 0, none⟩) N cap) (ps ++ ms) := h.kept (up0 _ _)
  have HFR : Hid (∀ e W', TPo B (w.alloc (.cells #[.int .i64 at1, .int .i64 2, .int .i64 by1] 45)) (.slice (some ⟨g, 0, none⟩) N cap) ps ms e W' → TPo B w (.slice (some ⟨g, 0, none⟩) N cap) ps ms e W') := fun e W' ⟨ps', q1, q2, q3, q4, q5, q6⟩ => ⟨ps', q1, q2, q3, q4, (Cb.Fr.kept (up0 _ _)).trans q5 fun _ _ e => e, q6⟩
  have hTP := tp_num hrw hN hG I 1 hI (by decide) by1 h1 h2
  have HT : Hid (TPo B w (.slice (some ⟨g, 0, none⟩) N cap) ps ms (.returned (.tuple #[])) ((w.alloc (.cells #[.int .i64 at1, .int .i64 2, .int .i64 by1] 45)).setCell ⟨g, I * 12 + 1, none⟩ (.int .i64 by1))) := HFR.out _ _ hTP.2.2
  obtain ⟨⟨y, hy⟩, hfz, -⟩ := hTP
  have t0 := HB.out.cell 0 _ rfl
  have t1 := HB.out.cell 1 _ rfl
  have t2 := HB.out.cell 2 _ rfl
  have hzlt : (z0 < 0) = True := eq_true hz0
  clear h hrw hG HFR
  go_enter Try.func13, Try.ntmps13
  go_upto_region 1 with fail
  clear HB
  generalize (w.alloc (.cells #[.int .i64 at1, .int .i64 2, .int .i64 by1] 45)) = W at *
  generalize w.heap.size = gt at *
  go_wp2_with fail
  go_end0
  exact HT.out
set_option maxRecDepth 100000 in
set_option maxHeartbeats 4000000 in
theorem turned_vn (at1 kd by1 : Int) (B : Nat) (w : World) (g N cap : Nat) (ps ms : List (Rec × Value)) (h : Rws B w (.slice (some ⟨g, 0, none⟩) N cap) (ps ++ ms)) (hN : N = (ps ++ ms).length) (hG : LS2 (ps.map Prod.fst)) (h1 : -9223372036854775808 ≤ by1) (h2 : by1 ≤ 9223372036854775807) (I : Nat) (hI : I < ps.length) (z0 : Int) (hz : Int.tmod at1 (ps.length : Int) = z0) (hz0 : z0 < 0) (hzI : z0 + (ps.length : Int) = (I : Int)) (k1 : kd ≠ 1) (k2 : kd ≠ 2) (k3 : kd ≠ 3) :
    Calls Try.prog 13 #[.slice (some ⟨g, 0, none⟩) ps.length cap, .agg #[.int .i64 at1, .int .i64 kd, .int .i64 by1]] w (TPo B w (.slice (some ⟨g, 0, none⟩) N cap) ps ms) := by
  have hfew : ps.length ≤ 100 := by have := hG.few; rwa [List.length_map] at this
  have hn0 : ((ps.length : Int) == 0) = false := by rw [beq_eq_false_iff_ne]; omega
  have hn1 : (ps.length : Int) ≠ 0 := by omega
  have HB : Hid (LB (w.alloc (.cells #[.int .i64 at1, .int .i64 kd, .int .i64 by1] 45)) w.heap.size 45 [.int .i64 at1, .int .i64 kd, .int .i64 by1]) := lb_new w [.int .i64 at1, .int .i64 kd, .int .i64 by1] 45
  have hrw : Rws B (w.alloc (.cells #[.int .i64 at1, .int .i64 kd, .int .i64 by1] 45)) (.slice (some ⟨g, 0, none⟩) N cap) (ps ++ ms) := h.kept (up0 _ _)
  have HFR : Hid (∀ e W', TPo B (w.alloc (.cells #[.int .i64 at1, .int .i64 kd, .int .i64 by1] 45)) (.slice (some ⟨g, 0, none⟩) N cap) ps ms e W' → TPo B w (.slice (some ⟨g, 0, none⟩) N cap) ps ms e W') := fun e W' ⟨ps', q1, q2, q3, q4, q5, q6⟩ => ⟨ps', q1, q2, q3, q4, (Cb.Fr.kept (up0 _ _)).trans q5 fun _ _ e => e, q6⟩
  have hTP := tp_num hrw hN hG I 0 hI (by decide) by1 h1 h2
  have HT : Hid (TPo B w (.slice (some ⟨g, 0, none⟩) N cap) ps ms (.returned (.tuple #[])) ((w.alloc (.cells #[.int .i64 at1, .int .i64 kd, .int .i64 by1] 45)).setCell ⟨g, I * 12 + 0, none⟩ (.int .i64 by1))) := HFR.out _ _ hTP.2.2
  obtain ⟨⟨y, hy⟩, hfz, -⟩ := hTP
  simp only [Nat.add_zero] at hy hfz HT
  have t0 := HB.out.cell 0 _ rfl
  have t1 := HB.out.cell 1 _ rfl
  have t2 := HB.out.cell 2 _ rfl
  have e1 : (kd == 1) = false := by rw [beq_eq_false_iff_ne]; exact k1
  have e2 : (kd == 2) = false := by rw [beq_eq_false_iff_ne]; exact k2
  have e3 : (kd == 3) = false := by rw [beq_eq_false_iff_ne]; exact k3
  clear k1 k2 k3
  have hzlt : (z0 < 0) = True := eq_true hz0
  clear h hrw hG HFR
  go_enter Try.func13, Try.ntmps13
  go_upto_region 1 with fail
  clear HB
  generalize (w.alloc (.cells #[.int .i64 at1, .int .i64 kd, .int .i64 by1] 45)) = W at *
  generalize w.heap.size = gt at *
  go_wp2_with fail
  go_end0
  exact HT.out
set_option maxRecDepth 100000 in
set_option maxHeartbeats 4000000 in
theorem turned_bn (at1 by1 : Int) (B : Nat) (w : World) (g N cap : Nat) (ps ms : List (Rec × Value)) (h : Rws B w (.slice (some ⟨g, 0, none⟩) N cap) (ps ++ ms)) (hN : N = (ps ++ ms).length) (hG : LS2 (ps.map Prod.fst)) (_h1 : -9223372036854775808 ≤ by1) (_h2 : by1 ≤ 9223372036854775807) (I : Nat) (hI : I < ps.length) (z0 : Int) (hz : Int.tmod at1 (ps.length : Int) = z0) (hz0 : z0 < 0) (hzI : z0 + (ps.length : Int) = (I : Int)) (r : Rec) (d : Value) (hp : ps[I]? = some (r, d)) (hl : 0 < r.l.length) :
    Calls Try.prog 13 #[.slice (some ⟨g, 0, none⟩) ps.length cap, .agg #[.int .i64 at1, .int .i64 3, .int .i64 by1]] w (TPo B w (.slice (some ⟨g, 0, none⟩) N cap) ps ms) := by
  have hfew : ps.length ≤ 100 := by have := hG.few; rwa [List.length_map] at this
  have hn0 : ((ps.length : Int) == 0) = false := by rw [beq_eq_false_iff_ne]; omega
  have hn1 : (ps.length : Int) ≠ 0 := by omega
  have HB : Hid (LB (w.alloc (.cells #[.int .i64 at1, .int .i64 3, .int .i64 by1] 45)) w.heap.size 45 [.int .i64 at1, .int .i64 3, .int .i64 by1]) := lb_new w [.int .i64 at1, .int .i64 3, .int .i64 by1] 45
  have hrw : Rws B (w.alloc (.cells #[.int .i64 at1, .int .i64 3, .int .i64 by1] 45)) (.slice (some ⟨g, 0, none⟩) N cap) (ps ++ ms) := h.kept (up0 _ _)
  have HFR : Hid (∀ e W', TPo B (w.alloc (.cells #[.int .i64 at1, .int .i64 3, .int .i64 by1] 45)) (.slice (some ⟨g, 0, none⟩) N cap) ps ms e W' → TPo B w (.slice (some ⟨g, 0, none⟩) N cap) ps ms e W') := fun e W' ⟨ps', q1, q2, q3, q4, q5, q6⟩ => ⟨ps', q1, q2, q3, q4, (Cb.Fr.kept (up0 _ _)).trans q5 fun _ _ e => e, q6⟩
  obtain ⟨b, hb, hw⟩ := wrapB by1
  obtain ⟨gd, cd, rfl, hc1, hc2, ⟨y, hy⟩, hfz, hcl, hTP⟩ := tp_byte hrw hN hG I r d hp hl b hb
  have HT : Hid (TPo B w (.slice (some ⟨g, 0, none⟩) N cap) ps ms (.returned (.tuple #[])) ((w.alloc (.cells #[.int .i64 at1, .int .i64 3, .int .i64 by1] 45)).setCell ⟨gd, 0, none⟩ (.int .u8 (b : Int)))) := HFR.out _ _ hTP
  have hl2 : ((r.l.length : Int) > 0) = True := eq_true (by omega)
  have hrl : r.l.length ≤ 2000 := (hG.each r (List.mem_map.2 ⟨_, List.mem_of_getElem? hp, rfl⟩)).2
  unfold maxLen at hc2
  clear hTP hp
  have t0 := HB.out.cell 0 _ rfl
  have t1 := HB.out.cell 1 _ rfl
  have t2 := HB.out.cell 2 _ rfl
  have hzlt : (z0 < 0) = True := eq_true hz0
  clear h hrw hG HFR
  go_enter Try.func13, Try.ntmps13
  go_upto_region 1 with fail
  clear HB
  generalize (w.alloc (.cells #[.int .i64 at1, .int .i64 3, .int .i64 by1] 45)) = W at *
  generalize w.heap.size = gt at *
  go_wp2_with fail
  go_region
  all_goals go_wp2_with fail
  all_goals go_end0
  all_goals exact HT.out.kept (Below.drew (Below.refl _ _))
set_option maxRecDepth 100000 in
set_option maxHeartbeats 4000000 in
theorem turned_en (at1 by1 : Int) (B : Nat) (w : World) (g N cap : Nat) (ps ms : List (Rec × Value)) (h : Rws B w (.slice (some ⟨g, 0, none⟩) N cap) (ps ++ ms)) (hN : N = (ps ++ ms).length) (hG : LS2 (ps.map Prod.fst)) (_h1 : -9223372036854775808 ≤ by1) (_h2 : by1 ≤ 9223372036854775807) (I : Nat) (hI : I < ps.length) (z0 : Int) (hz : Int.tmod at1 (ps.length : Int) = z0) (hz0 : z0 < 0) (hzI : z0 + (ps.length : Int) = (I : Int)) (r : Rec) (d : Value) (hp : ps[I]? = some (r, d)) (hl : r.l.length = 0) :
    Calls Try.prog 13 #[.slice (some ⟨g, 0, none⟩) ps.length cap, .agg #[.int .i64 at1, .int .i64 3, .int .i64 by1]] w (TPo B w (.slice (some ⟨g, 0, none⟩) N cap) ps ms) := by
  have hfew : ps.length ≤ 100 := by have := hG.few; rwa [List.length_map] at this
  have hn0 : ((ps.length : Int) == 0) = false := by rw [beq_eq_false_iff_ne]; omega
  have hn1 : (ps.length : Int) ≠ 0 := by omega
  have HB : Hid (LB (w.alloc (.cells #[.int .i64 at1, .int .i64 3, .int .i64 by1] 45)) w.heap.size 45 [.int .i64 at1, .int .i64 3, .int .i64 by1]) := lb_new w [.int .i64 at1, .int .i64 3, .int .i64 by1] 45
  have hrw : Rws B (w.alloc (.cells #[.int .i64 at1, .int .i64 3, .int .i64 by1] 45)) (.slice (some ⟨g, 0, none⟩) N cap) (ps ++ ms) := h.kept (up0 _ _)
  have HFR : Hid (∀ e W', TPo B (w.alloc (.cells #[.int .i64 at1, .int .i64 3, .int .i64 by1] 45)) (.slice (some ⟨g, 0, none⟩) N cap) ps ms e W' → TPo B w (.slice (some ⟨g, 0, none⟩) N cap) ps ms e W') := fun e W' ⟨ps', q1, q2, q3, q4, q5, q6⟩ => ⟨ps', q1, q2, q3, q4, (Cb.Fr.kept (up0 _ _)).trans q5 fun _ _ e => e, q6⟩
  have hI2 : I < (ps ++ ms).length := by rw [List.length_append]; omega
  have hcl : ∃ ad cd, (w.alloc (.cells #[.int .i64 at1, .int .i64 3, .int .i64 by1] 45)).cell? ⟨g, I * 12 + 11, none⟩ = some (.slice ad 0 cd) := by
    have hp2 : (ps ++ ms)[I] = (r, d) := by
      rw [List.getElem_append_left hI]
      exact (List.getElem?_eq_some_iff.1 hp).2
    have h9 : (w.alloc (.cells #[.int .i64 at1, .int .i64 3, .int .i64 by1] 45)).cell? ⟨g, I * 12 + 11, none⟩ = some d := by
      subst hN
      rw [World.ownsRow.cellAt hrw.recs.1 (I * 12 + 11) (by omega), rcls_get (ps ++ ms) I hI2 11 (by decide), hp2]
      rfl
    have hm : (r, d) ∈ ps ++ ms := hp2 ▸ List.getElem_mem hI2
    obtain ⟨ad, cd, ed, -⟩ := (h.own (r, d) hm).bs.shape
    refine ⟨ad, cd, ?_⟩
    rw [h9]
    show some d = _
    rw [show d = _ from ed]
    simp only [hl]
  obtain ⟨ad, cd, hcl⟩ := hcl
  have HT : Hid (∀ e, e = .returned (.tuple #[]) → TPo B w (.slice (some ⟨g, 0, none⟩) N cap) ps ms e (w.alloc (.cells #[.int .i64 at1, .int .i64 3, .int .i64 by1] 45))) := fun e he => HFR.out _ _ ⟨ps, he, hrw, rfl, hG, Cb.Fr.refl _ _, fun _ h => h⟩
  clear hp hI2
  have t0 := HB.out.cell 0 _ rfl
  have t1 := HB.out.cell 1 _ rfl
  have t2 := HB.out.cell 2 _ rfl
  have hzlt : (z0 < 0) = True := eq_true hz0
  clear h hrw hG HFR
  go_enter Try.func13, Try.ntmps13
  go_upto_region 1 with fail
  clear HB
  generalize (w.alloc (.cells #[.int .i64 at1, .int .i64 3, .int .i64 by1] 45)) = W at *
  generalize w.heap.size = gt at *
  go_wp2_with fail
  go_end0
  exact HT.out _ rfl
set_option maxRecDepth 100000 in
theorem turned_nil (at1 kd by1 : Int) (ao : Option Addr) (N cap : Nat) (B : Nat) (w : World) (ms : List (Rec × Value)) (h : Rws B w (.slice ao N cap) ms) :
    Calls Try.prog 13 #[.slice ao 0 cap, .agg #[.int .i64 at1, .int .i64 kd, .int .i64 by1]] w (TPo B w (.slice ao N cap) [] ms) := by
  have HF : Hid (∀ o e, e = .returned (.tuple #[]) → TPo B w (.slice ao N cap) [] ms e (w.alloc o)) := fun o e he => ⟨[], he, h.kept (up0 _ _), rfl, ⟨(fun r hr => nomatch hr), by simp⟩, Cb.Fr.kept (up0 _ _), fun _ h => h⟩
  clear h
  go_enter Try.func13, Try.ntmps13
  go_wp2_with fail
  go_end0
  exact HF.out _ _ rfl
theorem rwturned_any (at1 kd by1 : Int) (B : Nat) (w : World) (g N cap : Nat) (ps ms : List (Rec × Value)) (h : Rws B w (.slice (some ⟨g, 0, none⟩) N cap) (ps ++ ms)) (hN : N = (ps ++ ms).length) (hG : LS2 (ps.map Prod.fst)) (h1 : -9223372036854775808 ≤ by1) (h2 : by1 ≤ 9223372036854775807) :
    Calls Try.prog 13 #[.slice (some ⟨g, 0, none⟩) ps.length cap, .agg #[.int .i64 at1, .int .i64 kd, .int .i64 by1]] w (TPo B w (.slice (some ⟨g, 0, none⟩) N cap) ps ms) := by
  by_cases hn : ps.length = 0
  · obtain rfl : ps = [] := List.eq_nil_of_length_eq_zero hn
    exact turned_nil at1 kd by1 _ N cap B w ms h
  obtain ⟨I, hI, hz⟩ := tmod_place at1 ps.length (by omega)
  obtain ⟨r, d, hpi⟩ : ∃ r d, ps[I]? = some (r, d) := ⟨ps[I].1, ps[I].2, List.getElem?_eq_getElem hI⟩
  rcases hz with hz | ⟨z, hz, hz0, hzI⟩
  · by_cases k1 : kd = 1
    · subst k1; exact turned_sp at1 by1 B w g N cap ps ms h hN hG h1 h2 I hI hz
    by_cases k2 : kd = 2
    · subst k2; exact turned_kp at1 by1 B w g N cap ps ms h hN hG h1 h2 I hI hz
    by_cases k3 : kd = 3
    · subst k3
      by_cases hl : r.l.length = 0
      · exact turned_ep at1 by1 B w g N cap ps ms h hN hG h1 h2 I hI hz r d hpi hl
      · exact turned_bp at1 by1 B w g N cap ps ms h hN hG h1 h2 I hI hz r d hpi (by omega)
    · exact turned_vp at1 kd by1 B w g N cap ps ms h hN hG h1 h2 I hI hz k1 k2 k3
  · by_cases k1 : kd = 1
    · subst k1; exact turned_sn at1 by1 B w g N cap ps ms h hN hG h1 h2 I hI z hz hz0 hzI
    by_cases k2 : kd = 2
    · subst k2; exact turned_kn at1 by1 B w g N cap ps ms h hN hG h1 h2 I hI z hz hz0 hzI
    by_cases k3 : kd = 3
    · subst k3
      by_cases hl : r.l.length = 0
      · exact turned_en at1 by1 B w g N cap ps ms h hN hG h1 h2 I hI z hz hz0 hzI r d hpi hl
      · exact turned_bn at1 by1 B w g N cap ps ms h hN hG h1 h2 I hI z hz hz0 hzI r d hpi (by omega)
    · exact turned_vn at1 kd by1 B w g N cap ps ms h hN hG h1 h2 I hI z hz hz0 hzI k1 k2 k3
end Go.Proofs.Ytggenlnknnhjgaa
