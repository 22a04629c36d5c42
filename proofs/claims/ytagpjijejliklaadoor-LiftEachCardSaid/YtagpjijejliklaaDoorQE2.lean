import Derived.Deep.RegionHeld
import Derived.Test.YtagpjijejliklaaDoorQE1
import Derived.Test.YtagpjijejliklaaDoorQR3
/-
  LiftEach: the law's walk.
-/
namespace Go.Proofs.YtagpjijejliklaaDoor
open Go Go.RowKit
open Wb

theorem range_cells {w : World} {g o : Nat} {p : Rec × Value} (h : w.rangeAt g o (rcl p)) : (w.cell? ⟨g, o, none⟩ = some (.int .i64 p.1.x.v) ∧ w.cell? ⟨g, o + 1, none⟩ = some (.int .i64 p.1.x.k) ∧ w.cell? ⟨g, o + 2, none⟩ = some (.int .i64 p.1.x.s) ∧ w.cell? ⟨g, o + 3, none⟩ = some (.int .i64 p.1.x.p) ∧ w.cell? ⟨g, o + 4, none⟩ = some (.int .i64 p.1.x.t) ∧ w.cell? ⟨g, o + 5, none⟩ = some (.int .i64 p.1.x.a) ∧ w.cell? ⟨g, o + 6, none⟩ = some (.int .i64 p.1.x.l) ∧ w.cell? ⟨g, o + 7, none⟩ = some (.int .i64 p.1.x.c) ∧ w.cell? ⟨g, o + 8, none⟩ = some (.int .i64 p.1.x.n) ∧ w.cell? ⟨g, o + 9, none⟩ = some (.int .i64 p.1.x.i) ∧ w.cell? ⟨g, o + 10, none⟩ = some (.string p.1.nm) ∧ w.cell? ⟨g, o + 11, none⟩ = some (p.2)) := ⟨h 0 _ rfl, h 1 _ rfl, h 2 _ rfl, h 3 _ rfl, h 4 _ rfl, h 5 _ rfl, h 6 _ rfl, h 7 _ rfl, h 8 _ rfl, h 9 _ rfl, h 10 _ rfl, h 11 _ rfl⟩
theorem recEq_self (x : Nums) (nm : ByteArray) (l : List Nat) : recEq x x nm nm l l = true := by simp [recEq]
theorem lnum_any (z : Int) (w : World) : Calls Tryd.prog 5 #[.int .i64 z] w fun e w' => e = .returned (.int .i64 z) ∧ w' = w := by
  go_enter Tryd.func5, Tryd.ntmps5
  go_wp2
  go_ret
  exact ⟨rfl, rfl⟩
def oneR : Rec := ⟨⟨2, 7, 9, 0, 0, 0, 0, 0, 0, 0⟩, ⟨#[]⟩, []⟩
theorem one_up : upP 3 oneR = (0, ⟨⟨3, 7, 9, 0, 0, 0, 0, 0, 0, 0⟩, ⟨#[]⟩, []⟩) := by kernel_rfl
theorem one_fit : oneR.x.fit := fun t h1 h9 => by
  obtain rfl | rfl | rfl | rfl | rfl | rfl | rfl | rfl | rfl : t = 1 ∨ t = 2 ∨ t = 3 ∨ t = 4 ∨ t = 5 ∨ t = 6 ∨ t = 7 ∨ t = 8 ∨ t = 9 := by omega
  all_goals decide
theorem one_any (w : World) (hT : LTabs w) : Calls Tryd.prog 4 #[.int .i64 3, .slice (some ⟨w.heap.size, 0, none⟩) 1 1] (w.alloc (.cells #[.int .i64 2, .int .i64 7, .int .i64 9, .int .i64 0, .int .i64 0, .int .i64 0, .int .i64 0, .int .i64 0, .int .i64 0, .int .i64 0, .string ⟨#[]⟩, .slice none 0 0] 28)) fun e w' => ∃ g, ∃ cap : Nat, e = .returned (.tuple #[.slice (some ⟨g, 0, none⟩) 1 cap, .int .i64 0, .int .i64 0]) ∧ w'.cell? ⟨g, 0, none⟩ = some (.int .i64 3) ∧ w'.cell? ⟨g, 2, none⟩ = some (.int .i64 9) ∧ Below w.heap.size w w' := by
  refine (upall_any 3 (by decide) _ [oneR] _ ⟨_, _, rfl, by simp [maxLen], fun k r hr => ?_⟩ ⟨fun r hr => ?_, by decide⟩ (hT.kept (up0 _ _))).mono ?_
  · cases k with
    | zero =>
      obtain rfl : oneR = r := by simpa using hr
      exact ⟨w.heap.size, 0, .slice none 0 0, rfl, new_range w #[.int .i64 2, .int .i64 7, .int .i64 9, .int .i64 0, .int .i64 0, .int .i64 0, .int .i64 0, .int .i64 0, .int .i64 0, .int .i64 0, .string ⟨#[]⟩, .slice none 0 0], Bs.nil _⟩
    | succ k => simp at hr
  · obtain rfl := List.mem_singleton.1 hr
    exact ⟨by decide, one_fit⟩
  · rintro e w' ⟨hb, ⟨ps, v', _, rfl, ho, hm⟩ | ⟨k, r, hr, _, hz, _⟩⟩
    · rw [List.map_cons, List.map_nil, one_up] at hm
      match ps, hm with
      | [(q, d)], hm =>
        simp only [List.map_cons, List.map_nil, List.cons.injEq, and_true] at hm
        subst hm
        obtain ⟨ao, cap, rfl, _, h1, h2⟩ := ho.shape
        obtain ⟨g, rfl⟩ := h1 0 (by simp)
        have h3 := h2 g rfl 0 (by simp)
        exact ⟨g, cap, rfl, by simpa using h3 0 _ rfl, by simpa using h3 2 _ rfl, andThen (up0 _ _) hb⟩
    · cases k with
      | zero =>
        obtain rfl : oneR = r := by simpa using hr
        exact absurd (by rw [one_up]) hz
      | succ k => simp at hr
set_option maxRecDepth 100000 in
set_option maxHeartbeats 1000000 in
theorem upall_ver (to : Int) (hto : ¬ (1 ≤ to ∧ to ≤ 3)) (v : Value) (n : Nat) (ao : Option Addr) (cap : Nat) (w : World) (hv : v = .slice ao n cap) :
    Calls Tryd.prog 4 #[.int .i64 to, v] w fun e w' => e = .returned (.tuple #[.slice none 0 0, .int .i64 0, .int .i64 3]) ∧ Below w.heap.size w w' := by
  subst hv
  have dv : (decide (1 ≤ to) && decide (to ≤ 3)) = false := by
    rw [Bool.and_eq_false_iff]
    by_cases h : 1 ≤ to
    · right; exact decide_eq_false (fun h2 => hto ⟨h, h2⟩)
    · left; exact decide_eq_false h
  clear hto
  go_enter Tryd.func4, Tryd.ntmps4
  go_wp2_with fail
  refine (Lft.isV_any to _).mono ?_
  rintro e w0 ⟨rfl, rfl⟩
  rw [dv]
  clear dv
  go_wp2
  go_returns
  exact ⟨rfl, Below.refl _ _⟩
set_option maxRecDepth 100000 in
set_option maxHeartbeats 4000000 in
theorem leach_ver (to : Int) (hto : ¬ (1 ≤ to ∧ to ≤ 3)) (v : Value) (rs : List Rec) (w : World) (h : RecsAt w v rs) (hT : LTabs w) :
    Calls Tryd.prog 3 #[.int .i64 to, v] w fun e w' => e = .returned (.bool true) ∧ Below w.heap.size w w' := by
  obtain ⟨ao, cap, rfl, _, _⟩ := h
  have HUA : Hid (∀ w', Calls Tryd.prog 4 #[.int .i64 to, .slice ao rs.length cap] w' fun e w'' => e = .returned (.tuple #[.slice none 0 0, .int .i64 0, .int .i64 3]) ∧ Below w'.heap.size w' w'') := fun w' => upall_ver to hto _ _ _ _ w' rfl
  have HON : Hid (∀ w', Below w.heap.size w w' → Calls Tryd.prog 4 #[.int .i64 3, .slice (some ⟨w'.heap.size, 0, none⟩) 1 1] (w'.alloc (.cells #[.int .i64 2, .int .i64 7, .int .i64 9, .int .i64 0, .int .i64 0, .int .i64 0, .int .i64 0, .int .i64 0, .int .i64 0, .int .i64 0, .string ⟨#[]⟩, .slice none 0 0] 28)) fun e w'' => ∃ g, ∃ cap : Nat, e = .returned (.tuple #[.slice (some ⟨g, 0, none⟩) 1 cap, .int .i64 0, .int .i64 0]) ∧ w''.cell? ⟨g, 0, none⟩ = some (.int .i64 3) ∧ w''.cell? ⟨g, 2, none⟩ = some (.int .i64 9) ∧ Below w'.heap.size w' w'') := fun w' hb => one_any w' (hT.kept hb)
  clear hT
  by_cases h1 : to < 1
  · clear hto
    go_enter Tryd.func3, Tryd.ntmps3
    go_wp2_with fail
    refine (HUA.out _).mono ?_
    rintro e w1 ⟨rfl, b1⟩
    go_wp2_with fail
    refine (HON.out _ b1).mono ?_
    rintro e w2 ⟨g, cp2, rfl, c0, c2, b2⟩
    have B2 := andThen b1 b2
    clear b1 b2 HUA HON
    go_wp2_with fail
    refine (lnum_any 0 _).mono ?_
    rintro e w3 ⟨rfl, rfl⟩
    go_wp2_with fail
    refine (lnum_any 3 _).mono ?_
    rintro e w4 ⟨rfl, rfl⟩
    go_wp2
    go_ret
    exact ⟨rfl, B2⟩
  · have h3 : 3 < to := by omega
    clear hto
    go_enter Tryd.func3, Tryd.ntmps3
    go_wp2_with fail
    refine (HUA.out _).mono ?_
    rintro e w1 ⟨rfl, b1⟩
    go_wp2_with fail
    refine (HON.out _ b1).mono ?_
    rintro e w2 ⟨g, cp2, rfl, c0, c2, b2⟩
    have B2 := andThen b1 b2
    clear b1 b2 HUA HON
    go_wp2_with fail
    refine (lnum_any 0 _).mono ?_
    rintro e w3 ⟨rfl, rfl⟩
    go_wp2_with fail
    refine (lnum_any 3 _).mono ?_
    rintro e w4 ⟨rfl, rfl⟩
    go_wp2
    go_ret
    exact ⟨rfl, B2⟩
set_option maxRecDepth 100000 in
set_option maxHeartbeats 8000000 in
theorem leach_in (to : Int) (hto : 1 ≤ to ∧ to ≤ 3) (v : Value) (rs : List Rec) (w : World) (h : RecsAt w v rs) (hg : RGood rs) (hT : LTabs w) :
    Calls Tryd.prog 3 #[.int .i64 to, v] w fun e w' => e = .returned (.bool true) ∧ Below w.heap.size w w' := by
  have HIR : Hid ((Tryd.prog.info? 28).map (·.size) = some 12) := infoRec
  have HT : Hid (∀ w', Below w.heap.size w w' → LTabs w') := fun w' hb => hT.kept hb
  have HGE : Hid (∀ r ∈ rs, r.nm.size ≤ 140737488355000 ∧ r.x.fit) := hg.each
  have HRS : Hid (∀ w', Below w.heap.size w w' → RecsAt w' v rs) := fun w' hb => h.kept hb
  have HUA : Hid (Calls Tryd.prog 4 #[.int .i64 to, v] w fun e w' => UaPost to rs w e w') := upall_any to hto v rs w h hg hT
  have HON : Hid (∀ w', Below w.heap.size w w' → Calls Tryd.prog 4 #[.int .i64 3, .slice (some ⟨w'.heap.size, 0, none⟩) 1 1] (w'.alloc (.cells #[.int .i64 2, .int .i64 7, .int .i64 9, .int .i64 0, .int .i64 0, .int .i64 0, .int .i64 0, .int .i64 0, .int .i64 0, .int .i64 0, .string ⟨#[]⟩, .slice none 0 0] 28)) fun e w'' => ∃ g, ∃ cap : Nat, e = .returned (.tuple #[.slice (some ⟨g, 0, none⟩) 1 cap, .int .i64 0, .int .i64 0]) ∧ w''.cell? ⟨g, 0, none⟩ = some (.int .i64 3) ∧ w''.cell? ⟨g, 2, none⟩ = some (.int .i64 9) ∧ Below w'.heap.size w' w'') := fun w' hb => one_any w' (hT.kept hb)
  obtain ⟨ao, cap, rfl, hm, _⟩ := h
  unfold maxLen at hm
  have h1 : ¬ to < 1 := by omega
  have h3 : ¬ 3 < to := by omega
  clear hT hg hto
  go_enter Tryd.func3, Tryd.ntmps3
  go_wp2_with fail
  refine HUA.out.mono ?_
  rintro e w1 ⟨b1, ⟨ps, v1, hall, rfl, ho1, hmap⟩ | ⟨k0, r0, hr0, hbef, hz0, rfl⟩⟩
  · have hpl : ps.length = rs.length := by simpa using congrArg List.length hmap
    obtain ⟨al0, cl, rfl, _, hcg, hcc⟩ := ho1.shape
    rw [hpl] at hcg
    have HOU : Hid (∀ w', Below w1.heap.size w1 w' → Outs w.heap.size w' (.slice al0 ps.length cl) ps) := fun w' hb => ho1.kept hb
    have HALL : Hid (∀ r ∈ rs, (upP to r).1 = 0) := hall
    have HMP : Hid (ps.map Prod.fst = rs.map fun r => (upP to r).2) := hmap
    rw [hpl]
    have HB1 : Hid (∀ w', Below w1.heap.size w1 w' → Below w.heap.size w w') := fun w' hb => andThen b1 hb
    clear ho1 hall hmap hcc HUA
    go_wp2_with fail
    refine (HON.out _ b1).mono ?_
    rintro e w2 ⟨g, cp2, rfl, c0, c2, b2⟩
    clear b1 HON
    go_wp2_with fail
    refine (lnum_any 0 _).mono ?_
    rintro e w3 ⟨rfl, rfl⟩
    go_wp2
    clear c0 c2
    go_loopw [11] (fun i wr => ∃ k : Nat, k ≤ rs.length ∧ i = .int .i64 (k : Int) ∧ Below w1.heap.size w1 wr) (fun i _ => rs.length - (intOf i).toNat)
    case atStart => exact ⟨0, Nat.zero_le _, rfl, b2⟩
    case round =>
      obtain ⟨k, hk, rfl, hbel1⟩ := hrel
      have hbel := HB1.out _ hbel1
      by_cases hlt : k < rs.length
      · obtain ⟨r, hr⟩ : ∃ r, rs[k]? = some r := ⟨rs[k], List.getElem?_eq_getElem hlt⟩
        obtain ⟨ao', cap', e', _, hcr⟩ := HRS.out _ hbel
        simp only [Value.slice.injEq] at e'
        obtain ⟨rfl, _, rfl⟩ := e'
        obtain ⟨b, off, d, rfl, hrg, hbs⟩ := hcr k r hr
        have hnf := HGE.out r (List.mem_of_getElem? hr)
        have hz := HALL.out r (List.mem_of_getElem? hr)
        obtain ⟨gl, rfl⟩ := hcg k hlt
        obtain ⟨p, hp⟩ : ∃ p, ps[k]? = some p := ⟨ps[k], List.getElem?_eq_getElem (by omega)⟩
        have hpq : p.1 = (upP to r).2 := by
          have := congrArg (·[k]?) HMP.out
          simpa [hp, hr] using this
        have HUB : Hid (Calls Tryd.prog 6 #[rv r.x r.nm d, .int .i64 to] wr fun e w'' => ∃ ao, ∃ cap : Nat, e = .returned (.tuple #[rv (upP to r).2.x (upP to r).2.nm (.slice ao (upP to r).2.l.length cap), .int .i64 (upP to r).1]) ∧ Bs w'' (.slice ao (upP to r).2.l.length cap) (upP to r).2.l ∧ Below wr.heap.size wr w'') := up_any to r d wr hbs (HT.out _ hbel) hnf.1 hnf.2
        obtain ⟨ar, cr, rfl, _⟩ := hbs.shape
        have HR0 : Hid (wr.rangeAt b (off + k * 12) [.int .i64 r.x.v, .int .i64 r.x.k, .int .i64 r.x.s, .int .i64 r.x.p, .int .i64 r.x.t, .int .i64 r.x.a, .int .i64 r.x.l, .int .i64 r.x.c, .int .i64 r.x.n, .int .i64 r.x.i, .string r.nm, .slice ar r.l.length cr]) := hrg
        obtain ⟨pq, pd⟩ := p
        simp only at hpq
        subst hpq
        rw [hz] at HUB
        have HCC : Hid (∀ w', Below w1.heap.size w1 w' → w'.rangeAt gl (k * 12) (rcl ((upP to r).2, pd)) ∧ Bs w' pd (upP to r).2.l) := fun w' hb => by
          have h9 := HOU.out _ hb
          obtain ⟨al', cl', e9, _, _, hc9⟩ := h9.shape
          simp only [Value.slice.injEq] at e9
          obtain ⟨rfl, _, rfl⟩ := e9
          have h8 := hc9 gl rfl k (by omega)
          have e8 : ps[k]'(by omega) = ((upP to r).2, pd) := Option.some.inj ((List.getElem?_eq_getElem _).symm.trans hp)
          rw [e8] at h8
          exact ⟨h8, (h9.2 _ (List.mem_of_getElem? hp)).1⟩
        obtain ⟨al, cpl, rfl, _⟩ := (HCC.out _ hbel1).2.shape
        clear hcr hrg hbs hnf hr hp hz HRS HT HGE HOU HMP HALL
        generalize (upP to r).2 = Q at *
        unfold rv at *
        go_wp2_with (refine wpList_load_mid rfl 28 _ rfl b (off + k * 12) rfl [.int .i64 r.x.v, .int .i64 r.x.k, .int .i64 r.x.s, .int .i64 r.x.p, .int .i64 r.x.t, .int .i64 r.x.a, .int .i64 r.x.l, .int .i64 r.x.c, .int .i64 r.x.n, .int .i64 r.x.i, .string r.nm, .slice ar r.l.length cr] _ HR0.out Tryd.underlying28 rfl HIR.out ?_)
        refine HUB.out.mono ?_
        rintro e w4 ⟨a1, cp1, rfl, hq1, b4⟩
        have HW5 : Hid (Box (w4.alloc (.cells #[.int .i64 Q.x.v, .int .i64 Q.x.k, .int .i64 Q.x.s, .int .i64 Q.x.p, .int .i64 Q.x.t, .int .i64 Q.x.a, .int .i64 Q.x.l, .int .i64 Q.x.c, .int .i64 Q.x.n, .int .i64 Q.x.i, .string Q.nm, .slice a1 Q.l.length cp1] 28)) w4.heap.size Q.x Q.nm (.slice a1 Q.l.length cp1) ∧ Bs (w4.alloc (.cells #[.int .i64 Q.x.v, .int .i64 Q.x.k, .int .i64 Q.x.s, .int .i64 Q.x.p, .int .i64 Q.x.t, .int .i64 Q.x.a, .int .i64 Q.x.l, .int .i64 Q.x.c, .int .i64 Q.x.n, .int .i64 Q.x.i, .string Q.nm, .slice a1 Q.l.length cp1] 28)) (.slice a1 Q.l.length cp1) Q.l ∧ Below w1.heap.size w1 (w4.alloc (.cells #[.int .i64 Q.x.v, .int .i64 Q.x.k, .int .i64 Q.x.s, .int .i64 Q.x.p, .int .i64 Q.x.t, .int .i64 Q.x.a, .int .i64 Q.x.l, .int .i64 Q.x.c, .int .i64 Q.x.n, .int .i64 Q.x.i, .string Q.nm, .slice a1 Q.l.length cp1] 28))) := ⟨Array.getElem?_push_size, hq1.alloc _, up (andThen hbel1 b4) _⟩
        clear hq1 b4 HUB HR0 hbel hbel1
        go_wp2_with fail
        refine (lnum_any 0 _).mono ?_
        rintro e w5 ⟨rfl, rfl⟩
        have hdk : decide ((k : Int) < (rs.length : Int)) = true := decide_eq_true (by omega)
        obtain ⟨hx5, hq5, B5⟩ := HW5.out
        clear HW5
        go_wp2
        generalize w4.alloc (.cells #[.int .i64 Q.x.v, .int .i64 Q.x.k, .int .i64 Q.x.s, .int .i64 Q.x.p, .int .i64 Q.x.t, .int .i64 Q.x.a, .int .i64 Q.x.l, .int .i64 Q.x.c, .int .i64 Q.x.n, .int .i64 Q.x.i, .string Q.nm, .slice a1 Q.l.length cp1] 28) = W5 at hx5 hq5 B5 ⊢
        generalize w4.heap.size = g5 at hx5 ⊢
        have HBX : Hid (∀ w', Below W5.heap.size W5 w' → (w'.cell? ⟨gl, k * 12, none⟩ = some (.int .i64 Q.x.v) ∧ w'.cell? ⟨gl, k * 12 + 1, none⟩ = some (.int .i64 Q.x.k) ∧ w'.cell? ⟨gl, k * 12 + 2, none⟩ = some (.int .i64 Q.x.s) ∧ w'.cell? ⟨gl, k * 12 + 3, none⟩ = some (.int .i64 Q.x.p) ∧ w'.cell? ⟨gl, k * 12 + 4, none⟩ = some (.int .i64 Q.x.t) ∧ w'.cell? ⟨gl, k * 12 + 5, none⟩ = some (.int .i64 Q.x.a) ∧ w'.cell? ⟨gl, k * 12 + 6, none⟩ = some (.int .i64 Q.x.l) ∧ w'.cell? ⟨gl, k * 12 + 7, none⟩ = some (.int .i64 Q.x.c) ∧ w'.cell? ⟨gl, k * 12 + 8, none⟩ = some (.int .i64 Q.x.n) ∧ w'.cell? ⟨gl, k * 12 + 9, none⟩ = some (.int .i64 Q.x.i) ∧ w'.cell? ⟨gl, k * 12 + 10, none⟩ = some (.string Q.nm) ∧ w'.cell? ⟨gl, k * 12 + 11, none⟩ = some (.slice al Q.l.length cpl)) ∧ (w'.cell? ⟨g5, 0, none⟩ = some (.int .i64 Q.x.v) ∧ w'.cell? ⟨g5, 1, none⟩ = some (.int .i64 Q.x.k) ∧ w'.cell? ⟨g5, 2, none⟩ = some (.int .i64 Q.x.s) ∧ w'.cell? ⟨g5, 3, none⟩ = some (.int .i64 Q.x.p) ∧ w'.cell? ⟨g5, 4, none⟩ = some (.int .i64 Q.x.t) ∧ w'.cell? ⟨g5, 5, none⟩ = some (.int .i64 Q.x.a) ∧ w'.cell? ⟨g5, 6, none⟩ = some (.int .i64 Q.x.l) ∧ w'.cell? ⟨g5, 7, none⟩ = some (.int .i64 Q.x.c) ∧ w'.cell? ⟨g5, 8, none⟩ = some (.int .i64 Q.x.n) ∧ w'.cell? ⟨g5, 9, none⟩ = some (.int .i64 Q.x.i) ∧ w'.cell? ⟨g5, 10, none⟩ = some (.string Q.nm) ∧ w'.cell? ⟨g5, 11, none⟩ = some (.slice a1 Q.l.length cp1)) ∧ Below w1.heap.size w1 w') := fun w' hb => ⟨range_cells (HCC.out _ (andThen B5 hb)).1, (hx5.kept hb).cells, andThen B5 hb⟩
        have HGS : Hid (∀ w', Below W5.heap.size W5 w' → Calls Tryd.prog 7 #[.agg #[.int .i64 Q.x.v, .int .i64 Q.x.k, .int .i64 Q.x.s, .int .i64 Q.x.p, .int .i64 Q.x.t, .int .i64 Q.x.a, .int .i64 Q.x.l, .int .i64 Q.x.c, .int .i64 Q.x.n, .int .i64 Q.x.i, .string Q.nm, .slice al Q.l.length cpl], .agg #[.int .i64 Q.x.v, .int .i64 Q.x.k, .int .i64 Q.x.s, .int .i64 Q.x.p, .int .i64 Q.x.t, .int .i64 Q.x.a, .int .i64 Q.x.l, .int .i64 Q.x.c, .int .i64 Q.x.n, .int .i64 Q.x.i, .string Q.nm, .slice a1 Q.l.length cp1]] w' fun e w'' => e = .returned (.bool true) ∧ Below W5.heap.size W5 w'') := fun w' hb => (refsame_any Q.x Q.x Q.nm Q.nm _ _ Q.l Q.l w' (HCC.out _ (andThen B5 hb)).2 (hq5.kept hb)).mono fun e w'' ⟨he, hk'⟩ => ⟨by rw [he, recEq_self], andThen hb hk'⟩
        clear hx5 hq5 B5 HCC
        go_region_held (fun w' => (w'.cell? ⟨gl, k * 12, none⟩ = some (.int .i64 Q.x.v) ∧ w'.cell? ⟨gl, k * 12 + 1, none⟩ = some (.int .i64 Q.x.k) ∧ w'.cell? ⟨gl, k * 12 + 2, none⟩ = some (.int .i64 Q.x.s) ∧ w'.cell? ⟨gl, k * 12 + 3, none⟩ = some (.int .i64 Q.x.p) ∧ w'.cell? ⟨gl, k * 12 + 4, none⟩ = some (.int .i64 Q.x.t) ∧ w'.cell? ⟨gl, k * 12 + 5, none⟩ = some (.int .i64 Q.x.a) ∧ w'.cell? ⟨gl, k * 12 + 6, none⟩ = some (.int .i64 Q.x.l) ∧ w'.cell? ⟨gl, k * 12 + 7, none⟩ = some (.int .i64 Q.x.c) ∧ w'.cell? ⟨gl, k * 12 + 8, none⟩ = some (.int .i64 Q.x.n) ∧ w'.cell? ⟨gl, k * 12 + 9, none⟩ = some (.int .i64 Q.x.i) ∧ w'.cell? ⟨gl, k * 12 + 10, none⟩ = some (.string Q.nm) ∧ w'.cell? ⟨gl, k * 12 + 11, none⟩ = some (.slice al Q.l.length cpl)) ∧ (w'.cell? ⟨g5, 0, none⟩ = some (.int .i64 Q.x.v) ∧ w'.cell? ⟨g5, 1, none⟩ = some (.int .i64 Q.x.k) ∧ w'.cell? ⟨g5, 2, none⟩ = some (.int .i64 Q.x.s) ∧ w'.cell? ⟨g5, 3, none⟩ = some (.int .i64 Q.x.p) ∧ w'.cell? ⟨g5, 4, none⟩ = some (.int .i64 Q.x.t) ∧ w'.cell? ⟨g5, 5, none⟩ = some (.int .i64 Q.x.a) ∧ w'.cell? ⟨g5, 6, none⟩ = some (.int .i64 Q.x.l) ∧ w'.cell? ⟨g5, 7, none⟩ = some (.int .i64 Q.x.c) ∧ w'.cell? ⟨g5, 8, none⟩ = some (.int .i64 Q.x.n) ∧ w'.cell? ⟨g5, 9, none⟩ = some (.int .i64 Q.x.i) ∧ w'.cell? ⟨g5, 10, none⟩ = some (.string Q.nm) ∧ w'.cell? ⟨g5, 11, none⟩ = some (.slice a1 Q.l.length cp1)) ∧ Below W5.heap.size W5 w') (exact ⟨(HBX.out _ (by repeat (first | assumption | exact Below.refl _ _ | refine Below.drew ?_))).1, (HBX.out _ (by repeat (first | assumption | exact Below.refl _ _ | refine Below.drew ?_))).2.1, (by repeat (first | assumption | exact Below.refl _ _ | refine Below.drew ?_))⟩) (first
          | (go_at_call 7; refine (HGS.out _ (by first | assumption | exact Below.drew (Below.refl _ _) | exact Below.refl _ _)).mono ?_; rintro e w6 ⟨rfl, hk6⟩))
        have hk7 : Below W5.heap.size W5 w6 := hk6
        have B7 := (HBX.out _ hk7).2.2
        clear HBX HGS
        go_wp2
        go_roundw
        case rel => exact ⟨k + 1, by omega, by go_num, B7⟩
        case measure => simp [intOf]; omega
      · have hkk : k = rs.length := by omega
        clear hk hlt HRS HT HGE HOU HMP HALL
        subst hkk
        have dl : ((rs.length : Int) == (rs.length : Int)) = true := beq_self_eq_true _
        go_wp2_with fail
        refine (lnum_any 0 _).mono ?_
        rintro e w9 ⟨rfl, rfl⟩
        go_wp2
        go_ret
        exact ⟨rfl, hbel⟩
  · have hk0 : k0 < rs.length := (List.getElem?_eq_some_iff.1 hr0).1
    have HBF : Hid (∀ q ∈ rs.take k0, (upP to q).1 = 0) := hbef
    have HR0' : Hid (rs[k0]? = some r0) := hr0
    obtain ⟨z, hz⟩ : ∃ z, (upP to r0).1 = z := ⟨_, rfl⟩
    have HZ : Hid ((upP to r0).1 = z) := hz
    rw [hz] at hz0 ⊢
    have d0 : (z != 0) = true := by rw [bne_iff_ne]; exact hz0
    have dz : (z == z) = true := beq_self_eq_true _
    have HB1 : Hid (∀ w', Below w1.heap.size w1 w' → Below w.heap.size w w') := fun w' hb => andThen b1 hb
    clear hbef hr0 hz0 hz HUA
    go_wp2_with fail
    refine (HON.out _ b1).mono ?_
    rintro e w2 ⟨g, cp2, rfl, c0, c2, b2⟩
    clear b1 HON
    go_wp2_with fail
    refine (lnum_any 0 _).mono ?_
    rintro e w3 ⟨rfl, rfl⟩
    go_wp2
    clear c0 c2
    go_loopw [11] (fun i wr => ∃ k : Nat, k ≤ k0 ∧ i = .int .i64 (k : Int) ∧ Below w1.heap.size w1 wr) (fun i _ => rs.length - (intOf i).toNat)
    case atStart => exact ⟨0, Nat.zero_le _, rfl, b2⟩
    case round =>
      obtain ⟨k, hk, rfl, hbel1⟩ := hrel
      have hbel := HB1.out _ hbel1
      have hlt : k < rs.length := by omega
      obtain ⟨r, hr⟩ : ∃ r, rs[k]? = some r := ⟨rs[k], List.getElem?_eq_getElem hlt⟩
      obtain ⟨ao', cap', e', _, hcr⟩ := HRS.out _ hbel
      simp only [Value.slice.injEq] at e'
      obtain ⟨rfl, _, rfl⟩ := e'
      obtain ⟨b, off, d, rfl, hrg, hbs⟩ := hcr k r hr
      have hnf := HGE.out r (List.mem_of_getElem? hr)
      have HUB : Hid (Calls Tryd.prog 6 #[rv r.x r.nm d, .int .i64 to] wr fun e w'' => ∃ ao, ∃ cap : Nat, e = .returned (.tuple #[rv (upP to r).2.x (upP to r).2.nm (.slice ao (upP to r).2.l.length cap), .int .i64 (upP to r).1]) ∧ Bs w'' (.slice ao (upP to r).2.l.length cap) (upP to r).2.l ∧ Below wr.heap.size wr w'') := up_any to r d wr hbs (HT.out _ hbel) hnf.1 hnf.2
      obtain ⟨ar, cr, rfl, _⟩ := hbs.shape
      have HR0 : Hid (wr.rangeAt b (off + k * 12) [.int .i64 r.x.v, .int .i64 r.x.k, .int .i64 r.x.s, .int .i64 r.x.p, .int .i64 r.x.t, .int .i64 r.x.a, .int .i64 r.x.l, .int .i64 r.x.c, .int .i64 r.x.n, .int .i64 r.x.i, .string r.nm, .slice ar r.l.length cr]) := hrg
      by_cases hlk : k < k0
      · have hz := HBF.out r (List.mem_of_getElem? (by rw [List.getElem?_take_of_lt hlk]; exact hr))
        rw [hz] at HUB
        clear hcr hrg hbs hnf hr hz HRS HT HGE HBF
        generalize (upP to r).2 = Q at *
        unfold rv at *
        have hdk : decide ((k : Int) < 0) = false := decide_eq_false (by omega)
        go_wp2_with (refine wpList_load_mid rfl 28 _ rfl b (off + k * 12) rfl [.int .i64 r.x.v, .int .i64 r.x.k, .int .i64 r.x.s, .int .i64 r.x.p, .int .i64 r.x.t, .int .i64 r.x.a, .int .i64 r.x.l, .int .i64 r.x.c, .int .i64 r.x.n, .int .i64 r.x.i, .string r.nm, .slice ar r.l.length cr] _ HR0.out Tryd.underlying28 rfl HIR.out ?_)
        refine HUB.out.mono ?_
        rintro e w4 ⟨a1, cp1, rfl, hq1, b4⟩
        have HW5 : Hid (∀ o, Below w1.heap.size w1 (w4.alloc o)) := fun o => up (andThen hbel1 b4) o
        clear hq1 b4 HUB HR0 hbel hbel1
        go_wp2_with fail
        refine (lnum_any 0 _).mono ?_
        rintro e w5 ⟨rfl, rfl⟩
        go_wp2
        go_region
        go_wp2
        go_roundw
        case rel => exact ⟨k + 1, by omega, by go_num, Below.drew (HW5.out _)⟩
        case measure => simp [intOf]; omega
      · have hkk : k = k0 := by omega
        subst hkk
        obtain rfl : r = r0 := Option.some.inj (hr.symm.trans HR0'.out)
        rw [HZ.out] at HUB
        clear hcr hrg hbs hnf hr hk hlk HRS HT HGE HBF HR0' HZ
        generalize (upP to r).2 = Q at *
        unfold rv at *
        have dk : ((k : Int) == (k : Int)) = true := beq_self_eq_true _
        go_wp2_with (refine wpList_load_mid rfl 28 _ rfl b (off + k * 12) rfl [.int .i64 r.x.v, .int .i64 r.x.k, .int .i64 r.x.s, .int .i64 r.x.p, .int .i64 r.x.t, .int .i64 r.x.a, .int .i64 r.x.l, .int .i64 r.x.c, .int .i64 r.x.n, .int .i64 r.x.i, .string r.nm, .slice ar r.l.length cr] _ HR0.out Tryd.underlying28 rfl HIR.out ?_)
        refine HUB.out.mono ?_
        rintro e w4 ⟨a1, cp1, rfl, hq1, b4⟩
        have HW5 : Hid (∀ o, Below w.heap.size w (w4.alloc o)) := fun o => up (andThen hbel b4) o
        clear hq1 b4 HUB HR0 hbel hbel1
        go_wp2_with fail
        refine (lnum_any z _).mono ?_
        rintro e w5 ⟨rfl, rfl⟩
        go_wp2_with fail
        refine (lnum_any z _).mono ?_
        rintro e w6 ⟨rfl, rfl⟩
        go_wp2_with fail
        refine (lnum_any z _).mono ?_
        rintro e w7 ⟨rfl, rfl⟩
        go_wp2
        go_ret
        exact ⟨rfl, HW5.out _⟩
theorem leach_any (to : Int) (v : Value) (rs : List Rec) (w : World) (h : RecsAt w v rs) (hg : RGood rs) (hT : LTabs w) :
    Calls Tryd.prog 3 #[.int .i64 to, v] w fun e w' => e = .returned (.bool true) ∧ Below w.heap.size w w' := by
  by_cases hto : 1 ≤ to ∧ to ≤ 3
  · exact leach_in to hto v rs w h hg hT
  · exact leach_ver to hto v rs w h hT
end Go.Proofs.YtagpjijejliklaaDoor
