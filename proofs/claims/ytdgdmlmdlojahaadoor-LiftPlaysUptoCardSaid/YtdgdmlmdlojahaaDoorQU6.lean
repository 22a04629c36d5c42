import Derived.Test.YtdgdmlmdlojahaaDoorQU5
import Derived.Test.YtdgdmlmdlojahaaDoorQU3
import Derived.Test.YtdgdmlmdlojahaaDoorQC2
/-
  The reference's Least, UpAll, Steps.
-/
namespace Go.Proofs.YtdgdmlmdlojahaaDoor
open Go Go.RowKit
open Wb

/-- what Least answers -/
def leastA (r : Rec) : Int × Int := if chkR r = 0 then (0, leastP r) else (chkR r, 0)
theorem least_any (r : Rec) (d : Value) (w : World) (h : Bs w d r.l) (hT : LTabs w) (hnm : r.nm.size ≤ 1048576) (hf : r.x.fit) :
    Calls Tryd.prog 38 #[rv r.x r.nm d] w fun e w' => e = .returned (.tuple #[.int .i64 (leastA r).2, .int .i64 (leastA r).1]) ∧ Below w.heap.size w w' := by
  unfold leastA
  by_cases hc : chkR r = 0
  · rw [if_pos hc]; exact least_ok r d w h hT hnm hf hc
  · rw [if_neg hc]; exact least_e r d w h hT hnm hc
set_option maxRecDepth 100000 in
set_option maxHeartbeats 1000000 in
theorem r4least_e (r : Rec) (d : Value) (w : World) (h : Bs w d r.l) (hT : Tabs w) (hnm : r.nm.size ≤ 1048576) (hf : r.x.fit) (hc : chkR r ≠ 0) :
    Calls Tryd.prog 39 #[rv r.x r.nm d] w fun e w' => e = .returned (.tuple #[.int .i64 0, .int .i64 (chkR r)]) ∧ Below w.heap.size w w' := by
  have HX : Hid (∀ o, Below w.heap.size w (w.alloc o)) := fun o => up0 w o
  have HCK : Hid (∀ w', Below w.heap.size w w' → Calls Tryd.prog 47 #[rv r.x r.nm d] w' fun e w'' => e = .returned (.int .i64 (chkR r)) ∧ Below w'.heap.size w' w'') := fun w' hb' => refcheck_any r.x r.nm d r.l w' (h.kept hb') (hT.kept hb').rlets (hT.kept hb').rows hf.c (by omega)
  obtain ⟨ao, cap, rfl, _⟩ := h.shape
  have d1 : (chkR r != 0) = true := by rw [bne_iff_ne]; exact hc
  clear h hT hc
  generalize chkR r = z at *
  unfold rv at *
  go_enter Tryd.func39, Tryd.ntmps39
  go_wp2_with fail
  refine (HCK.out _ (HX.out _)).mono ?_
  rintro e w1 ⟨rfl, b1⟩
  have B1 := andThen (HX.out _) b1
  clear b1
  go_wp2
  go_ret2
  exact ⟨rfl, B1⟩
set_option maxRecDepth 100000 in
set_option maxHeartbeats 4000000 in
theorem r4least_ok (r : Rec) (d : Value) (w : World) (h : Bs w d r.l) (hT : Tabs w) (hnm : r.nm.size ≤ 1048576) (hf : r.x.fit) (hc : chkR r = 0) :
    Calls Tryd.prog 39 #[rv r.x r.nm d] w fun e w' => e = .returned (.tuple #[.int .i64 (leastP r), .int .i64 0]) ∧ Below w.heap.size w w' := by
  have HX : Hid (∀ o, (w.alloc o).heap[w.heap.size]? = some o ∧ Below w.heap.size w (w.alloc o)) := fun o => ⟨Array.getElem?_push_size, up0 w o⟩
  have HCK : Hid (∀ w', Below w.heap.size w w' → Calls Tryd.prog 47 #[rv r.x r.nm d] w' fun e w'' => e = .returned (.int .i64 0) ∧ Below w'.heap.size w' w'') := fun w' hb' => by
    have := refcheck_any r.x r.nm d r.l w' (h.kept hb') (hT.kept hb').rlets (hT.kept hb').rows hf.c (by omega)
    rw [show chk r.x r.nm r.l = 0 from hc] at this
    exact this
  have HDN : Hid (∀ (v : Int) w', Below w.heap.size w w' → Calls Tryd.prog 37 #[rv r.x r.nm d, .int .i64 v] w' fun e w'' => ∃ a2, ∃ p2 : Nat, e = .returned (.tuple #[rv (downP v r).2.x (downP v r).2.nm (.slice a2 (downP v r).2.l.length p2), .int .i64 (downP v r).1]) ∧ Below w'.heap.size w' w'') := fun v w' hb' => (r4down_any v r d w' (h.kept hb') (hT.kept hb') hnm hf).mono fun e w'' ⟨ao, cap, he, _, _, hk⟩ => ⟨ao, cap, he, hk⟩
  have hvv := ((chk_exp r.x r.nm r.l).1 hc).1
  obtain ⟨A, hA⟩ : ∃ A, leastP r = A := ⟨_, rfl⟩
  have HA : Hid (leastF r 3 1 = A) := hA
  rw [hA]
  obtain ⟨ao, cap, rfl, _⟩ := h.shape
  clear h hT hc hA
  unfold rv at *
  go_enter Tryd.func39, Tryd.ntmps39
  go_wp2_with fail
  refine (HCK.out _ (HX.out _).2).mono ?_
  rintro e w1 ⟨rfl, b1⟩
  have hbx : Box w1 w.heap.size r.x r.nm (.slice ao r.l.length cap) := Box.kept (HX.out _).1 b1
  have B1 := andThen (HX.out _).2 b1
  clear b1 HX HCK
  go_wp2
  go_loopw [5] (fun i wr => ∃ k : Nat, 1 ≤ k ∧ k ≤ 3 ∧ (k : Int) ≤ r.x.v ∧ i = .int .i64 (k : Int) ∧ leastF r (4 - k) (k : Int) = A ∧ Box wr w.heap.size r.x r.nm (.slice ao r.l.length cap) ∧ Below w.heap.size w wr) (fun i _ => 4 - (intOf i).toNat)
  case atStart => exact ⟨1, by omega, by omega, by omega, rfl, HA.out, hbx, B1⟩
  case round =>
    obtain ⟨k, hk1, hk3, hkv, rfl, hlk, hbk, hbel⟩ := hrel
    have HLK : Hid (leastF r (4 - k) (k : Int) = A) := hlk
    clear hlk HA hbx B1
    by_cases hlt : (k : Int) < r.x.v
    · have HS : Hid ((if (downP (k : Int) r).1 = 0 then (k : Int) else leastF r (4 - (k + 1)) ((k + 1 : Nat) : Int)) = A) := by
        show _ = _
        rw [← HLK.out, show 4 - k = (4 - (k + 1)) + 1 by omega]
        show _ = (if (k : Int) < r.x.v then (if (downP (k : Int) r).1 = 0 then (k : Int) else leastF r (4 - (k + 1)) ((k : Int) + 1)) else (k : Int))
        rw [if_pos hlt]
        rfl
      obtain ⟨D, hD⟩ : ∃ D, (downP (k : Int) r).2 = D := ⟨_, rfl⟩
      obtain ⟨ez, hez⟩ : ∃ z, (downP (k : Int) r).1 = z := ⟨_, rfl⟩
      have HD1 : Hid (∀ w', Below w.heap.size w w' → Calls Tryd.prog 37 #[.agg #[.int .i64 r.x.v, .int .i64 r.x.k, .int .i64 r.x.s, .int .i64 r.x.p, .int .i64 r.x.t, .int .i64 r.x.a, .int .i64 r.x.l, .int .i64 r.x.c, .int .i64 r.x.n, .int .i64 r.x.i, .string r.nm, .slice ao r.l.length cap], .int .i64 (k : Int)] w' fun e w'' => ∃ a2, ∃ p2 : Nat, e = .returned (.tuple #[.agg #[.int .i64 D.x.v, .int .i64 D.x.k, .int .i64 D.x.s, .int .i64 D.x.p, .int .i64 D.x.t, .int .i64 D.x.a, .int .i64 D.x.l, .int .i64 D.x.c, .int .i64 D.x.n, .int .i64 D.x.i, .string D.nm, .slice a2 D.l.length p2], .int .i64 ez]) ∧ Below w'.heap.size w' w'') := fun w' hb => (HDN.out (k : Int) w' hb).mono fun e w'' ⟨a2, p2, he, hk⟩ => ⟨a2, p2, by rw [hD, hez] at he; exact he, hk⟩
      rw [hez] at HS
      clear HLK HDN hD hez
      obtain ⟨c0, c1, c2, c3, c4, c5, c6, c7, c8, c9, c10, c11⟩ := hbk.cells
      by_cases hz : ez = 0
      · have HE : Hid ((k : Int) = A) := by show _ = _; rw [← HS.out, if_pos hz]
        subst hz
        clear HS
        go_wp2_with fail
        refine (HD1.out _ hbel).mono ?_
        rintro e w2 ⟨a2, p2, rfl, b2⟩
        have B2 : Hid (∀ o, Below w.heap.size w (w2.alloc o)) := fun o => up (andThen hbel b2) o
        clear c0 c1 c2 c3 c4 c5 c6 c7 c8 c9 c10 c11 b2 hbk hbel
        go_wp2
        go_ret2
        exact ⟨by rw [← HE.out]; rfl, B2.out _⟩
      · have HE : Hid (leastF r (4 - (k + 1)) ((k + 1 : Nat) : Int) = A) := by show _ = _; rw [← HS.out, if_neg hz]
        have dz : (ez == 0) = false := by rw [beq_eq_false_iff_ne]; exact hz
        clear hz HS
        go_wp2_with fail
        refine (HD1.out _ hbel).mono ?_
        rintro e w2 ⟨a2, p2, rfl, b2⟩
        have B2 : Hid (∀ o, Below w.heap.size w (w2.alloc o) ∧ Box (w2.alloc o) w.heap.size r.x r.nm (.slice ao r.l.length cap)) := fun o => ⟨up (andThen hbel b2) o, (hbk.kept b2).kept (up0 _ _)⟩
        clear c0 c1 c2 c3 c4 c5 c6 c7 c8 c9 c10 c11 b2 hbk hbel
        go_wp2
        go_roundw
        case rel => exact ⟨k + 1, by omega, by omega, by omega, by go_num, HE.out, (B2.out _).2, (B2.out _).1⟩
        case measure => simp [intOf]; omega
    · have hkv2 : r.x.v = (k : Int) := by omega
      have HE : Hid (r.x.v = A) := by
        show _ = _
        rw [← HLK.out, show 4 - k = (3 - k) + 1 by omega]
        show _ = (if (k : Int) < r.x.v then _ else (k : Int))
        rw [if_neg hlt]
        exact hkv2
      have c0 := hbk.cells.1
      clear HLK HDN hbk hkv2
      go_wp2
      go_ret2
      exact ⟨by rw [← HE.out]; rfl, hbel⟩
theorem r4least_any (r : Rec) (d : Value) (w : World) (h : Bs w d r.l) (hT : Tabs w) (hnm : r.nm.size ≤ 1048576) (hf : r.x.fit) :
    Calls Tryd.prog 39 #[rv r.x r.nm d] w fun e w' => e = .returned (.tuple #[.int .i64 (leastA r).2, .int .i64 (leastA r).1]) ∧ Below w.heap.size w w' := by
  unfold leastA
  by_cases hc : chkR r = 0
  · rw [if_pos hc]; exact r4least_ok r d w h hT hnm hf hc
  · rw [if_neg hc]; exact r4least_e r d w h hT hnm hf hc
set_option maxRecDepth 100000 in
set_option maxHeartbeats 1000000 in
theorem r4upall_ver_a (to : Int) (hto : to < 1) (v : Value) (n : Nat) (ao : Option Addr) (cap : Nat) (w : World) (hv : v = .slice ao n cap) :
    Calls Tryd.prog 23 #[.int .i64 to, v] w fun e w' => e = .returned (.tuple #[.slice none 0 0, .int .i64 0, .int .i64 3]) ∧ Below w.heap.size w w' := by
  subst hv
  go_enter Tryd.func23, Tryd.ntmps23
  go_wp2
  go_returns
  exact ⟨rfl, Below.refl _ _⟩
set_option maxRecDepth 100000 in
set_option maxHeartbeats 1000000 in
theorem r4upall_ver_b (to : Int) (hto : 3 < to) (v : Value) (n : Nat) (ao : Option Addr) (cap : Nat) (w : World) (hv : v = .slice ao n cap) :
    Calls Tryd.prog 23 #[.int .i64 to, v] w fun e w' => e = .returned (.tuple #[.slice none 0 0, .int .i64 0, .int .i64 3]) ∧ Below w.heap.size w w' := by
  subst hv
  go_enter Tryd.func23, Tryd.ntmps23
  go_wp2
  go_returns
  exact ⟨rfl, Below.refl _ _⟩
set_option maxRecDepth 100000 in
set_option maxHeartbeats 4000000 in
theorem r4upall_any (to : Int) (hto : 1 ≤ to ∧ to ≤ 3) (v : Value) (rs : List Rec) (w : World) (h : RecsAt w v rs) (hg : RGood rs) (hT : Tabs w) :
    Calls Tryd.prog 23 #[.int .i64 to, v] w fun e w' => UaPost to rs w e w' := by
  have hin := infoR12
  have HIR : Hid ((Tryd.prog.info? 28).map (·.size) = some 12) := infoRec
  have HT : Hid (∀ w', Below w.heap.size w w' → Tabs w') := fun w' hb => hT.kept hb
  have HGE : Hid (∀ r ∈ rs, r.nm.size ≤ 1048576 ∧ r.x.fit) := hg.each
  have hfew := hg.few
  have HRS : Hid (∀ w', Below w.heap.size w w' → RecsAt w' v rs) := fun w' hb => h.kept hb
  obtain ⟨ao, cap, rfl, hm, _⟩ := h
  unfold maxLen at hm
  have h1 : ¬ to < 1 := by omega
  have h3 : ¬ 3 < to := by omega
  clear hT hg hto
  go_enter Tryd.func23, Tryd.ntmps23
  go_wp2
  go_loopw [7, 8] (fun o i wr => ∃ (k : Nat) (ps : List (Rec × Value)), k ≤ rs.length ∧ i = .int .i64 (k : Int) ∧ (∀ q ∈ rs.take k, (upP to q).1 = 0) ∧ Outs w.heap.size wr o ps ∧ (ps.map Prod.fst = (rs.take k).map fun r => (upP to r).2) ∧ Below w.heap.size w wr) (fun _ i _ => rs.length - (intOf i).toNat)
  case atStart => exact ⟨0, [], Nat.zero_le _, rfl, (fun q hq => by simp at hq), Outs.nil _ _, rfl, Below.refl _ _⟩
  case round =>
    obtain ⟨k, ps, hk, rfl, hgood, hown, hmap, hbel⟩ := hrel
    by_cases hlt : k < rs.length
    · obtain ⟨r, hr⟩ : ∃ r, rs[k]? = some r := ⟨rs[k], List.getElem?_eq_getElem hlt⟩
      obtain ⟨ao', cap', e', _, hcr⟩ := HRS.out _ hbel
      simp only [Value.slice.injEq] at e'
      obtain ⟨rfl, _, rfl⟩ := e'
      obtain ⟨b, off, d, rfl, hrg, hbs⟩ := hcr k r hr
      have hnf := HGE.out r (List.mem_of_getElem? hr)
      have HTK : Hid (rs.take (k + 1) = rs.take k ++ [r]) := by show _ = _; rw [List.take_add_one, hr]; rfl
      have HGD : Hid (∀ q ∈ rs.take k, (upP to q).1 = 0) := hgood
      have HMP : Hid (ps.map Prod.fst = (rs.take k).map fun r => (upP to r).2) := hmap
      have hpl : ps.length = k := by
        have := congrArg List.length hmap
        simpa [Nat.min_eq_left hk] using this
      have HRR : Hid (rs[k]? = some r) := hr
      obtain ⟨Q, hQ⟩ : ∃ Q, (upP to r).2 = Q := ⟨_, rfl⟩
      obtain ⟨z, hz⟩ : ∃ z, (upP to r).1 = z := ⟨_, rfl⟩
      have HQ : Hid ((upP to r).2 = Q) := hQ
      have HZ : Hid ((upP to r).1 = z) := hz
      have HUP : Hid (Calls Tryd.prog 35 #[rv r.x r.nm d, .int .i64 to] wr fun e w'' => ∃ a1, ∃ cp1 : Nat, e = .returned (.tuple #[rv Q.x Q.nm (.slice a1 Q.l.length cp1), .int .i64 z]) ∧ Bs w'' (.slice a1 Q.l.length cp1) Q.l ∧ (∀ g, g < wr.heap.size → Off g (.slice a1 Q.l.length cp1) Q.l) ∧ Below wr.heap.size wr w'') := (r4up_any to r d wr hbs (HT.out _ hbel) hnf.1 hnf.2).mono fun e w'' ⟨a1, p1, he, hb1, ho1, hk1⟩ => by
        rw [hQ] at he hb1 ho1
        rw [hz] at he
        exact ⟨a1, p1, he, hb1, ho1, hk1⟩
      obtain ⟨ar, cr, rfl, _⟩ := hbs.shape
      have HR0 : Hid (wr.rangeAt b (off + k * 12) [.int .i64 r.x.v, .int .i64 r.x.k, .int .i64 r.x.s, .int .i64 r.x.p, .int .i64 r.x.t, .int .i64 r.x.a, .int .i64 r.x.l, .int .i64 r.x.c, .int .i64 r.x.n, .int .i64 r.x.i, .string r.nm, .slice ar r.l.length cr]) := hrg
      have HOB : Hid (∀ g, u7.ownBlock = some g → g < wr.heap.size) := fun g hg => (World.ownsRow.lt hown.1 g hg).2
      have HOW : Hid (Outs w.heap.size wr u7 ps ∧ Below w.heap.size w wr) := ⟨hown, hbel⟩
      clear hcr hrg hbs hown hbel hnf HGE HRS HT hmap hgood hr hQ hz
      unfold rv at *
      go_wp2_with (refine wpList_load_mid rfl 28 _ rfl b (off + k * 12) rfl [.int .i64 r.x.v, .int .i64 r.x.k, .int .i64 r.x.s, .int .i64 r.x.p, .int .i64 r.x.t, .int .i64 r.x.a, .int .i64 r.x.l, .int .i64 r.x.c, .int .i64 r.x.n, .int .i64 r.x.i, .string r.nm, .slice ar r.l.length cr] _ HR0.out Tryd.underlying28 rfl HIR.out ?_)
      refine HUP.out.mono ?_
      rintro e w1 ⟨a1, cp1, rfl, hq1, hf1, b1⟩
      by_cases h0 : z = 0
      · subst h0
        have HO1 : Hid (∀ o o', Outs w.heap.size ((w1.alloc o).alloc o') u7 ps ∧ Bs ((w1.alloc o).alloc o') (.slice a1 Q.l.length cp1) Q.l ∧ Below w.heap.size w ((w1.alloc o).alloc o') ∧ w.heap.size ≤ ((w1.alloc o).alloc o').heap.size) := fun o o' => ⟨((HOW.out.1.kept b1).kept (up0 _ _)).kept (up0 _ _), (hq1.alloc _).alloc _, up (up (andThen HOW.out.2 b1) _) _, (up (up (andThen HOW.out.2 b1) _) _).size⟩
        have HOF : Hid (∀ g, u7.ownBlock = some g → Off g (.slice a1 Q.l.length cp1) Q.l) := fun g hg => hf1 g (HOB.out g hg)
        have HR2 : Hid ((w1.alloc (.cells #[.int .i64 Q.x.v, .int .i64 Q.x.k, .int .i64 Q.x.s, .int .i64 Q.x.p, .int .i64 Q.x.t, .int .i64 Q.x.a, .int .i64 Q.x.l, .int .i64 Q.x.c, .int .i64 Q.x.n, .int .i64 Q.x.i, .string Q.nm, .slice a1 Q.l.length cp1] 28)).rangeAt w1.heap.size 0 [.int .i64 Q.x.v, .int .i64 Q.x.k, .int .i64 Q.x.s, .int .i64 Q.x.p, .int .i64 Q.x.t, .int .i64 Q.x.a, .int .i64 Q.x.l, .int .i64 Q.x.c, .int .i64 Q.x.n, .int .i64 Q.x.i, .string Q.nm, .slice a1 Q.l.length cp1]) := new_range w1 #[.int .i64 Q.x.v, .int .i64 Q.x.k, .int .i64 Q.x.s, .int .i64 Q.x.p, .int .i64 Q.x.t, .int .i64 Q.x.a, .int .i64 Q.x.l, .int .i64 Q.x.c, .int .i64 Q.x.n, .int .i64 Q.x.i, .string Q.nm, .slice a1 Q.l.length cp1]
        have HR3 : Hid (∀ o, ((w1.alloc o).alloc (.cells #[.int .i64 Q.x.v, .int .i64 Q.x.k, .int .i64 Q.x.s, .int .i64 Q.x.p, .int .i64 Q.x.t, .int .i64 Q.x.a, .int .i64 Q.x.l, .int .i64 Q.x.c, .int .i64 Q.x.n, .int .i64 Q.x.i, .string Q.nm, .slice a1 Q.l.length cp1] 28)).rangeAt (w1.heap.size + 1) 0 [.int .i64 Q.x.v, .int .i64 Q.x.k, .int .i64 Q.x.s, .int .i64 Q.x.p, .int .i64 Q.x.t, .int .i64 Q.x.a, .int .i64 Q.x.l, .int .i64 Q.x.c, .int .i64 Q.x.n, .int .i64 Q.x.i, .string Q.nm, .slice a1 Q.l.length cp1]) := fun o => new_range2 w1 o #[.int .i64 Q.x.v, .int .i64 Q.x.k, .int .i64 Q.x.s, .int .i64 Q.x.p, .int .i64 Q.x.t, .int .i64 Q.x.a, .int .i64 Q.x.l, .int .i64 Q.x.c, .int .i64 Q.x.n, .int .i64 Q.x.i, .string Q.nm, .slice a1 Q.l.length cp1]
        clear hq1 hf1 b1 HOW HR0 HUP HOB
        go_wp2_with (first
          | (refine wpList_load_mid rfl 28 _ rfl w1.heap.size 0 rfl [.int .i64 Q.x.v, .int .i64 Q.x.k, .int .i64 Q.x.s, .int .i64 Q.x.p, .int .i64 Q.x.t, .int .i64 Q.x.a, .int .i64 Q.x.l, .int .i64 Q.x.c, .int .i64 Q.x.n, .int .i64 Q.x.i, .string Q.nm, .slice a1 Q.l.length cp1] _ HR2.out Tryd.underlying28 rfl HIR.out ?_)
          | (at_builtin; refine wpList_append_rec _ rfl (.tmp 36) (.tmp 38) 34 rfl w.heap.size hin Tryd.underlying34 _ ps (Q, .slice a1 Q.l.length cp1) rfl (HO1.out _ _).1 _ rfl (HR3.out _) rfl (HO1.out _ _).2.1 HOF.out (by omega) (HO1.out _ _).2.2.2 ?_))
        intro v2 w2 hr2 hb2 _
        have R2 : Hid (Outs w.heap.size w2 v2 (ps ++ [(Q, .slice a1 Q.l.length cp1)]) ∧ Below w.heap.size w w2) := ⟨hr2, (HO1.out _ _).2.2.1.trans hb2⟩
        clear hr2 hb2 HO1 HOF HR2 HR3
        go_wp2
        go_roundw
        case rel => exact ⟨k + 1, ps ++ [(Q, .slice a1 Q.l.length cp1)], by omega, by go_num, (fun q hq => by
          rw [HTK.out] at hq
          rcases List.mem_append.1 hq with hq | hq
          · exact HGD.out q hq
          · obtain rfl := List.mem_singleton.1 hq
            exact HZ.out), R2.out.1, by rw [HTK.out, List.map_append, List.map_append, HMP.out, List.map_cons, List.map_cons, HQ.out]; rfl, R2.out.2⟩
        case measure => simp [intOf]; omega
      · have d0 : (z != 0) = true := by rw [bne_iff_ne]; exact h0
        have H0 : Hid (z ≠ 0) := h0
        have HB1 : Hid (∀ o, Below w.heap.size w (w1.alloc o)) := fun o => up (andThen HOW.out.2 b1) o
        clear b1 hq1 hf1 HR0 HUP HOB HOW h0
        go_wp2
        go_returns
        exact ⟨HB1.out _, .inr ⟨k, r, HRR.out, HGD.out, by rw [HZ.out]; exact H0.out, by rw [HZ.out]; rfl⟩⟩
    · obtain rfl : k = rs.length := by omega
      have HGD : Hid (∀ q ∈ rs, (upP to q).1 = 0) := by
        rw [List.take_length] at hgood
        exact hgood
      have HMP : Hid (ps.map Prod.fst = rs.map fun r => (upP to r).2) := by
        rw [List.take_length] at hmap
        exact hmap
      clear hgood hmap HRS HT HGE
      go_wp2
      go_returns
      exact ⟨hbel, .inl ⟨ps, _, HGD.out, rfl, hown, HMP.out⟩⟩
theorem strsAt_lit (w : World) (ns : List ByteArray) (h4 : ns.length ≤ 4) (cs : Array Value) (t : TypeId) (hcs : cs.toList = Lft.tc ns) : StrsAt (w.alloc (.cells cs t)) (.slice (some ⟨w.heap.size, 0, none⟩) ns.length ns.length) ns := by
  refine ⟨_, _, rfl, h4, fun k s hs => ⟨w.heap.size, 0, rfl, ?_⟩⟩
  rw [World.cell?_alloc_new, Nat.zero_add, ← Array.getElem?_toList, hcs]
  unfold Lft.tc
  rw [List.getElem?_map, hs]
  rfl
def namesP (f t : Int) : List ByteArray := if 1 ≤ f ∧ f ≤ 3 ∧ 1 ≤ t ∧ t ≤ 3 then Lft.names (Lft.go f t 4).2 else []
theorem steps_any (f t : Int) (w : World) (hT : Lft.WaysT w) :
    Calls Tryd.prog 25 #[.int .i64 f, .int .i64 t] w fun e w' => ∃ o, e = .returned o ∧ StrsAt w' o (namesP f t) ∧ Below w.heap.size w w' := by
  unfold namesP
  by_cases h : 1 ≤ f ∧ f ≤ 3 ∧ 1 ≤ t ∧ t ≤ 3
  · rw [if_pos h]
    refine (Lft.steps_in f t w hT h.1 h.2.1 h.2.2.1 h.2.2.2).mono fun e w' ⟨o, he, hr, hb⟩ => ⟨o, he, strsAt_row hr ?_, hb⟩
    unfold Lft.names
    rw [List.length_map]
    exact Lft.go_len f t 4
  · rw [if_neg h]
    exact (Lft.steps_out f t w h).mono fun e w' ⟨he, hw⟩ => ⟨_, he, ⟨none, 0, rfl, by simp, fun k s hs => by simp at hs⟩, hw ▸ Below.refl _ _⟩
set_option maxRecDepth 100000 in
theorem r4steps_11 (w : World) : Calls Tryd.prog 26 #[.int .i64 1, .int .i64 1] w fun e w' => ∃ o, e = .returned o ∧ StrsAt w' o (namesP 1 1) ∧ Below w.heap.size w w' := by
  rw [show namesP 1 1 = [] by decide +kernel]
  go_enter Tryd.func26, Tryd.ntmps26
  go_wp2
  go_ret
  exact ⟨_, rfl, ⟨none, 0, rfl, by simp, fun k s hs => by simp at hs⟩, Below.refl _ _⟩
set_option maxRecDepth 100000 in
theorem r4steps_12 (w : World) : Calls Tryd.prog 26 #[.int .i64 1, .int .i64 2] w fun e w' => ∃ o, e = .returned o ∧ StrsAt w' o (namesP 1 2) ∧ Below w.heap.size w w' := by
  rw [show namesP 1 2 = [(⟨#[49, 116, 111, 50]⟩ : ByteArray)] by decide +kernel]
  go_enter Tryd.func26, Tryd.ntmps26
  go_wp2
  go_ret
  exact ⟨_, rfl, strsAt_lit w [(⟨#[49, 116, 111, 50]⟩ : ByteArray)] (by decide) _ _ rfl, up0 _ _⟩
set_option maxRecDepth 100000 in
theorem r4steps_13 (w : World) : Calls Tryd.prog 26 #[.int .i64 1, .int .i64 3] w fun e w' => ∃ o, e = .returned o ∧ StrsAt w' o (namesP 1 3) ∧ Below w.heap.size w w' := by
  rw [show namesP 1 3 = [(⟨#[49, 116, 111, 50]⟩ : ByteArray), (⟨#[50, 116, 111, 51]⟩ : ByteArray)] by decide +kernel]
  go_enter Tryd.func26, Tryd.ntmps26
  go_wp2
  go_ret
  exact ⟨_, rfl, strsAt_lit w [(⟨#[49, 116, 111, 50]⟩ : ByteArray), (⟨#[50, 116, 111, 51]⟩ : ByteArray)] (by decide) _ _ rfl, up0 _ _⟩
set_option maxRecDepth 100000 in
theorem r4steps_21 (w : World) : Calls Tryd.prog 26 #[.int .i64 2, .int .i64 1] w fun e w' => ∃ o, e = .returned o ∧ StrsAt w' o (namesP 2 1) ∧ Below w.heap.size w w' := by
  rw [show namesP 2 1 = [(⟨#[50, 116, 111, 49]⟩ : ByteArray)] by decide +kernel]
  go_enter Tryd.func26, Tryd.ntmps26
  go_wp2
  go_ret
  exact ⟨_, rfl, strsAt_lit w [(⟨#[50, 116, 111, 49]⟩ : ByteArray)] (by decide) _ _ rfl, up0 _ _⟩
set_option maxRecDepth 100000 in
theorem r4steps_22 (w : World) : Calls Tryd.prog 26 #[.int .i64 2, .int .i64 2] w fun e w' => ∃ o, e = .returned o ∧ StrsAt w' o (namesP 2 2) ∧ Below w.heap.size w w' := by
  rw [show namesP 2 2 = [] by decide +kernel]
  go_enter Tryd.func26, Tryd.ntmps26
  go_wp2
  go_ret
  exact ⟨_, rfl, ⟨none, 0, rfl, by simp, fun k s hs => by simp at hs⟩, Below.refl _ _⟩
set_option maxRecDepth 100000 in
theorem r4steps_23 (w : World) : Calls Tryd.prog 26 #[.int .i64 2, .int .i64 3] w fun e w' => ∃ o, e = .returned o ∧ StrsAt w' o (namesP 2 3) ∧ Below w.heap.size w w' := by
  rw [show namesP 2 3 = [(⟨#[50, 116, 111, 51]⟩ : ByteArray)] by decide +kernel]
  go_enter Tryd.func26, Tryd.ntmps26
  go_wp2
  go_ret
  exact ⟨_, rfl, strsAt_lit w [(⟨#[50, 116, 111, 51]⟩ : ByteArray)] (by decide) _ _ rfl, up0 _ _⟩
set_option maxRecDepth 100000 in
theorem r4steps_31 (w : World) : Calls Tryd.prog 26 #[.int .i64 3, .int .i64 1] w fun e w' => ∃ o, e = .returned o ∧ StrsAt w' o (namesP 3 1) ∧ Below w.heap.size w w' := by
  rw [show namesP 3 1 = [(⟨#[51, 116, 111, 50]⟩ : ByteArray), (⟨#[50, 116, 111, 49]⟩ : ByteArray)] by decide +kernel]
  go_enter Tryd.func26, Tryd.ntmps26
  go_wp2
  go_ret
  exact ⟨_, rfl, strsAt_lit w [(⟨#[51, 116, 111, 50]⟩ : ByteArray), (⟨#[50, 116, 111, 49]⟩ : ByteArray)] (by decide) _ _ rfl, up0 _ _⟩
set_option maxRecDepth 100000 in
theorem r4steps_32 (w : World) : Calls Tryd.prog 26 #[.int .i64 3, .int .i64 2] w fun e w' => ∃ o, e = .returned o ∧ StrsAt w' o (namesP 3 2) ∧ Below w.heap.size w w' := by
  rw [show namesP 3 2 = [(⟨#[51, 116, 111, 50]⟩ : ByteArray)] by decide +kernel]
  go_enter Tryd.func26, Tryd.ntmps26
  go_wp2
  go_ret
  exact ⟨_, rfl, strsAt_lit w [(⟨#[51, 116, 111, 50]⟩ : ByteArray)] (by decide) _ _ rfl, up0 _ _⟩
set_option maxRecDepth 100000 in
theorem r4steps_33 (w : World) : Calls Tryd.prog 26 #[.int .i64 3, .int .i64 3] w fun e w' => ∃ o, e = .returned o ∧ StrsAt w' o (namesP 3 3) ∧ Below w.heap.size w w' := by
  rw [show namesP 3 3 = [] by decide +kernel]
  go_enter Tryd.func26, Tryd.ntmps26
  go_wp2
  go_ret
  exact ⟨_, rfl, ⟨none, 0, rfl, by simp, fun k s hs => by simp at hs⟩, Below.refl _ _⟩
set_option maxRecDepth 100000 in
theorem r4steps_a (f t : Int) (w : World) (hh : f < 1) : Calls Tryd.prog 26 #[.int .i64 f, .int .i64 t] w fun e w' => ∃ o, e = .returned o ∧ StrsAt w' o (namesP f t) ∧ Below w.heap.size w w' := by
  have HE : Hid (namesP f t = []) := by show _ = _; unfold namesP; rw [if_neg (by omega)]
  rw [HE.out]
  go_enter Tryd.func26, Tryd.ntmps26
  go_wp2
  go_ret
  exact ⟨_, rfl, ⟨none, 0, rfl, by simp, fun k s hs => by simp at hs⟩, Below.refl _ _⟩
set_option maxRecDepth 100000 in
theorem r4steps_b (f t : Int) (w : World) (h1 : ¬ f < 1) (hh : 3 < f) : Calls Tryd.prog 26 #[.int .i64 f, .int .i64 t] w fun e w' => ∃ o, e = .returned o ∧ StrsAt w' o (namesP f t) ∧ Below w.heap.size w w' := by
  have HE : Hid (namesP f t = []) := by show _ = _; unfold namesP; rw [if_neg (by omega)]
  rw [HE.out]
  go_enter Tryd.func26, Tryd.ntmps26
  go_wp2
  go_ret
  exact ⟨_, rfl, ⟨none, 0, rfl, by simp, fun k s hs => by simp at hs⟩, Below.refl _ _⟩
set_option maxRecDepth 100000 in
theorem r4steps_c (f t : Int) (w : World) (h1 : ¬ f < 1) (h3 : ¬ 3 < f) (hh : t < 1) : Calls Tryd.prog 26 #[.int .i64 f, .int .i64 t] w fun e w' => ∃ o, e = .returned o ∧ StrsAt w' o (namesP f t) ∧ Below w.heap.size w w' := by
  have HE : Hid (namesP f t = []) := by show _ = _; unfold namesP; rw [if_neg (by omega)]
  rw [HE.out]
  go_enter Tryd.func26, Tryd.ntmps26
  go_wp2
  go_ret
  exact ⟨_, rfl, ⟨none, 0, rfl, by simp, fun k s hs => by simp at hs⟩, Below.refl _ _⟩
set_option maxRecDepth 100000 in
theorem r4steps_d (f t : Int) (w : World) (h1 : ¬ f < 1) (h3 : ¬ 3 < f) (h4 : ¬ t < 1) (hh : 3 < t) : Calls Tryd.prog 26 #[.int .i64 f, .int .i64 t] w fun e w' => ∃ o, e = .returned o ∧ StrsAt w' o (namesP f t) ∧ Below w.heap.size w w' := by
  have HE : Hid (namesP f t = []) := by show _ = _; unfold namesP; rw [if_neg (by omega)]
  rw [HE.out]
  go_enter Tryd.func26, Tryd.ntmps26
  go_wp2
  go_ret
  exact ⟨_, rfl, ⟨none, 0, rfl, by simp, fun k s hs => by simp at hs⟩, Below.refl _ _⟩
theorem r4steps_any (f t : Int) (w : World) : Calls Tryd.prog 26 #[.int .i64 f, .int .i64 t] w fun e w' => ∃ o, e = .returned o ∧ StrsAt w' o (namesP f t) ∧ Below w.heap.size w w' := by
  by_cases h1 : f < 1
  · exact r4steps_a f t w h1
  by_cases h2 : 3 < f
  · exact r4steps_b f t w h1 h2
  by_cases h3 : t < 1
  · exact r4steps_c f t w h1 h2 h3
  by_cases h4 : 3 < t
  · exact r4steps_d f t w h1 h2 h3 h4
  obtain rfl | rfl | rfl : f = 1 ∨ f = 2 ∨ f = 3 := by omega
  · obtain rfl | rfl | rfl : t = 1 ∨ t = 2 ∨ t = 3 := by omega
    · exact r4steps_11 w
    · exact r4steps_12 w
    · exact r4steps_13 w
  · obtain rfl | rfl | rfl : t = 1 ∨ t = 2 ∨ t = 3 := by omega
    · exact r4steps_21 w
    · exact r4steps_22 w
    · exact r4steps_23 w
  · obtain rfl | rfl | rfl : t = 1 ∨ t = 2 ∨ t = 3 := by omega
    · exact r4steps_31 w
    · exact r4steps_32 w
    · exact r4steps_33 w
end Go.Proofs.YtdgdmlmdlojahaaDoor

/-
  LiftUps and its kin: one call of Up, Down, Least.
-/
namespace Go.Proofs.YtdgdmlmdlojahaaDoor
open Go Go.RowKit
open Wb

/-- the cells of an Op -/
def opv (kd : Int) (r : Rec) (d : Value) (to fr : Int) (v : Value) : List Value := [.int .i64 kd, .int .i64 r.x.v, .int .i64 r.x.k, .int .i64 r.x.s, .int .i64 r.x.p, .int .i64 r.x.t, .int .i64 r.x.a, .int .i64 r.x.l, .int .i64 r.x.c, .int .i64 r.x.n, .int .i64 r.x.i, .string r.nm, d, .int .i64 to, .int .i64 fr, v]
theorem infoOp4 : (Tryd.prog.info? 36).map (·.size) = some 16 := by kernel_rfl
/-- an Op in a block -/
def OBox (w : World) (g : Nat) (kd : Int) (r : Rec) (d : Value) (to fr : Int) (v : Value) : Prop := w.heap[g]? = some (.cells #[.int .i64 kd, .int .i64 r.x.v, .int .i64 r.x.k, .int .i64 r.x.s, .int .i64 r.x.p, .int .i64 r.x.t, .int .i64 r.x.a, .int .i64 r.x.l, .int .i64 r.x.c, .int .i64 r.x.n, .int .i64 r.x.i, .string r.nm, d, .int .i64 to, .int .i64 fr, v] 36)
theorem OBox.kept {w w' : World} {g : Nat} {kd : Int} {r : Rec} {d : Value} {to fr : Int} {v : Value} (h : OBox w g kd r d to fr v) (hb : Below w.heap.size w w') : OBox w' g kd r d to fr v := (hb.block g (Array.getElem?_eq_some_iff.1 h).1).trans h
theorem OBox.lt {w : World} {g : Nat} {kd : Int} {r : Rec} {d : Value} {to fr : Int} {v : Value} (h : OBox w g kd r d to fr v) : g < w.heap.size := (Array.getElem?_eq_some_iff.1 h).1
theorem OBox.range {w : World} {g : Nat} {kd : Int} {r : Rec} {d : Value} {to fr : Int} {v : Value} (h : OBox w g kd r d to fr v) : w.rangeAt g 1 [.int .i64 r.x.v, .int .i64 r.x.k, .int .i64 r.x.s, .int .i64 r.x.p, .int .i64 r.x.t, .int .i64 r.x.a, .int .i64 r.x.l, .int .i64 r.x.c, .int .i64 r.x.n, .int .i64 r.x.i, .string r.nm, d] := World.rangeAt_of_block h 1 12
theorem OBox.whole {w : World} {g : Nat} {kd : Int} {r : Rec} {d : Value} {to fr : Int} {v : Value} (h : OBox w g kd r d to fr v) : w.rangeAt g 0 [.int .i64 kd, .int .i64 r.x.v, .int .i64 r.x.k, .int .i64 r.x.s, .int .i64 r.x.p, .int .i64 r.x.t, .int .i64 r.x.a, .int .i64 r.x.l, .int .i64 r.x.c, .int .i64 r.x.n, .int .i64 r.x.i, .string r.nm, d, .int .i64 to, .int .i64 fr, v] := World.rangeAt_of_block h 0 16
theorem OBox.cells {w : World} {g : Nat} {kd : Int} {r : Rec} {d : Value} {to fr : Int} {v : Value} (h : OBox w g kd r d to fr v) : w.cell? ⟨g, 0, none⟩ = some (.int .i64 kd) ∧ w.cell? ⟨g, 13, none⟩ = some (.int .i64 to) ∧ w.cell? ⟨g, 14, none⟩ = some (.int .i64 fr) ∧ w.cell? ⟨g, 15, none⟩ = some v := ⟨h.whole 0 _ rfl, h.whole 13 _ rfl, h.whole 14 _ rfl, h.whole 15 _ rfl⟩
set_option maxRecDepth 100000 in
set_option maxHeartbeats 2000000 in
theorem one_1 (to fr : Int) (r : Rec) (d v : Value) (w : World) (h : Bs w d r.l) (hv : ∃ av, ∃ nv cv : Nat, v = .slice av nv cv) (hT : LTabs w) (hnm : r.nm.size ≤ 1048576) (hf : r.x.fit) :
    Calls Tryd.prog 21 #[.agg (opv 1 r d to fr v).toArray] w fun e w' => e = .returned (.bool true) ∧ Below w.heap.size w w' := by
  have HIR : Hid ((Tryd.prog.info? 28).map (·.size) = some 12) := infoRec
  have HX : Hid (∀ o, (w.alloc o).heap[w.heap.size]? = some o ∧ Below w.heap.size w (w.alloc o)) := fun o => ⟨Array.getElem?_push_size, up0 w o⟩
  have HU : Hid (∀ w', Below w.heap.size w w' → Calls Tryd.prog 9 #[rv r.x r.nm d, .int .i64 to] w' fun e w'' => ∃ a1, ∃ p1 : Nat, e = .returned (.tuple #[rv (upP to r).2.x (upP to r).2.nm (.slice a1 (upP to r).2.l.length p1), .int .i64 (upP to r).1]) ∧ Bs w'' (.slice a1 (upP to r).2.l.length p1) (upP to r).2.l ∧ Below w'.heap.size w' w'') := fun w' hb => up_any to r d w' (h.kept hb) (hT.kept hb) hnm hf
  have HR : Hid (∀ w', Below w.heap.size w w' → Calls Tryd.prog 35 #[rv r.x r.nm d, .int .i64 to] w' fun e w'' => ∃ a1, ∃ p1 : Nat, e = .returned (.tuple #[rv (upP to r).2.x (upP to r).2.nm (.slice a1 (upP to r).2.l.length p1), .int .i64 (upP to r).1]) ∧ Bs w'' (.slice a1 (upP to r).2.l.length p1) (upP to r).2.l ∧ Below w'.heap.size w' w'') := fun w' hb => (r4up_any to r d w' (h.kept hb) (hT.kept hb).tabs hnm hf).mono fun e w'' ⟨a1, p1, he, hb1, _, hk⟩ => ⟨a1, p1, he, hb1, hk⟩
  obtain ⟨ao, cap, rfl, _⟩ := h.shape
  obtain ⟨av, nv, cv, rfl⟩ := hv
  clear h hT hf
  obtain ⟨Q, hQ⟩ : ∃ Q, (upP to r).2 = Q := ⟨_, rfl⟩
  obtain ⟨z, hz⟩ : ∃ z, (upP to r).1 = z := ⟨_, rfl⟩
  rw [hQ, hz] at HU HR
  clear hQ hz
  have dz : (z == z) = true := beq_self_eq_true _
  have HSA : Hid (∀ w' a1 a2 (p1 p2 : Nat), Bs w' (.slice a1 Q.l.length p1) Q.l → Bs w' (.slice a2 Q.l.length p2) Q.l → Calls Tryd.prog 11 #[rv Q.x Q.nm (.slice a1 Q.l.length p1), rv Q.x Q.nm (.slice a2 Q.l.length p2)] w' fun e w'' => e = .returned (.bool true) ∧ Below w'.heap.size w' w'') := fun w' a1 a2 p1 p2 b1 b2 => (refsame_any Q.x Q.x Q.nm Q.nm _ _ Q.l Q.l w' b1 b2).mono fun e w'' ⟨he, hk'⟩ => ⟨by rw [he, recEq_self], hk'⟩
  unfold opv rv at *
  have HO : Hid (OBox (w.alloc (.cells #[.int .i64 1, .int .i64 r.x.v, .int .i64 r.x.k, .int .i64 r.x.s, .int .i64 r.x.p, .int .i64 r.x.t, .int .i64 r.x.a, .int .i64 r.x.l, .int .i64 r.x.c, .int .i64 r.x.n, .int .i64 r.x.i, .string r.nm, .slice ao r.l.length cap, .int .i64 to, .int .i64 fr, .slice av nv cv] 36)) w.heap.size 1 r (.slice ao r.l.length cap) to fr (.slice av nv cv)) := (HX.out _).1
  have HO1 : Hid ((w.alloc (.cells #[.int .i64 1, .int .i64 r.x.v, .int .i64 r.x.k, .int .i64 r.x.s, .int .i64 r.x.p, .int .i64 r.x.t, .int .i64 r.x.a, .int .i64 r.x.l, .int .i64 r.x.c, .int .i64 r.x.n, .int .i64 r.x.i, .string r.nm, .slice ao r.l.length cap, .int .i64 to, .int .i64 fr, .slice av nv cv] 36)).rangeAt w.heap.size 1 [.int .i64 r.x.v, .int .i64 r.x.k, .int .i64 r.x.s, .int .i64 r.x.p, .int .i64 r.x.t, .int .i64 r.x.a, .int .i64 r.x.l, .int .i64 r.x.c, .int .i64 r.x.n, .int .i64 r.x.i, .string r.nm, .slice ao r.l.length cap]) := HO.out.range
  go_enter Tryd.func21, Tryd.ntmps21
  go_wp2_with (refine wpList_load_mid rfl 28 _ rfl w.heap.size 1 rfl [.int .i64 r.x.v, .int .i64 r.x.k, .int .i64 r.x.s, .int .i64 r.x.p, .int .i64 r.x.t, .int .i64 r.x.a, .int .i64 r.x.l, .int .i64 r.x.c, .int .i64 r.x.n, .int .i64 r.x.i, .string r.nm, .slice ao r.l.length cap] _ HO1.out Tryd.underlying28 rfl HIR.out ?_)
  refine (HU.out _ (HX.out _).2).mono ?_
  rintro e w1 ⟨a1, p1, rfl, hb1, b1⟩
  have HW1 : Hid (OBox (w1.alloc (.cells #[.int .i64 Q.x.v, .int .i64 Q.x.k, .int .i64 Q.x.s, .int .i64 Q.x.p, .int .i64 Q.x.t, .int .i64 Q.x.a, .int .i64 Q.x.l, .int .i64 Q.x.c, .int .i64 Q.x.n, .int .i64 Q.x.i, .string Q.nm, .slice a1 Q.l.length p1] 28)) w.heap.size 1 r (.slice ao r.l.length cap) to fr (.slice av nv cv) ∧ Box (w1.alloc (.cells #[.int .i64 Q.x.v, .int .i64 Q.x.k, .int .i64 Q.x.s, .int .i64 Q.x.p, .int .i64 Q.x.t, .int .i64 Q.x.a, .int .i64 Q.x.l, .int .i64 Q.x.c, .int .i64 Q.x.n, .int .i64 Q.x.i, .string Q.nm, .slice a1 Q.l.length p1] 28)) w1.heap.size Q.x Q.nm (.slice a1 Q.l.length p1) ∧ Bs (w1.alloc (.cells #[.int .i64 Q.x.v, .int .i64 Q.x.k, .int .i64 Q.x.s, .int .i64 Q.x.p, .int .i64 Q.x.t, .int .i64 Q.x.a, .int .i64 Q.x.l, .int .i64 Q.x.c, .int .i64 Q.x.n, .int .i64 Q.x.i, .string Q.nm, .slice a1 Q.l.length p1] 28)) (.slice a1 Q.l.length p1) Q.l ∧ Below w.heap.size w (w1.alloc (.cells #[.int .i64 Q.x.v, .int .i64 Q.x.k, .int .i64 Q.x.s, .int .i64 Q.x.p, .int .i64 Q.x.t, .int .i64 Q.x.a, .int .i64 Q.x.l, .int .i64 Q.x.c, .int .i64 Q.x.n, .int .i64 Q.x.i, .string Q.nm, .slice a1 Q.l.length p1] 28))) := ⟨(HO.out.kept b1).kept (up0 _ _), heap_new _ _, hb1.alloc _, up (andThen (HX.out _).2 b1) _⟩
  clear b1 hb1 HO HO1 HU HX
  go_upto_region 4 with fail
  have HK' := HW1.out
  clear HW1
  generalize w1.alloc (.cells #[.int .i64 Q.x.v, .int .i64 Q.x.k, .int .i64 Q.x.s, .int .i64 Q.x.p, .int .i64 Q.x.t, .int .i64 Q.x.a, .int .i64 Q.x.l, .int .i64 Q.x.c, .int .i64 Q.x.n, .int .i64 Q.x.i, .string Q.nm, .slice a1 Q.l.length p1] 28) = W1 at HK' ⊢
  generalize w1.heap.size = g1 at HK' ⊢
  obtain ⟨hO1, hq1, hb1, B1⟩ := HK'
  have HO1 : Hid (W1.rangeAt w.heap.size 1 [.int .i64 r.x.v, .int .i64 r.x.k, .int .i64 r.x.s, .int .i64 r.x.p, .int .i64 r.x.t, .int .i64 r.x.a, .int .i64 r.x.l, .int .i64 r.x.c, .int .i64 r.x.n, .int .i64 r.x.i, .string r.nm, .slice ao r.l.length cap]) := hO1.range
  obtain ⟨k0, k13, k14, k15⟩ := hO1.cells
  go_wp2_with (refine wpList_load_mid rfl 28 _ rfl w.heap.size 1 rfl [.int .i64 r.x.v, .int .i64 r.x.k, .int .i64 r.x.s, .int .i64 r.x.p, .int .i64 r.x.t, .int .i64 r.x.a, .int .i64 r.x.l, .int .i64 r.x.c, .int .i64 r.x.n, .int .i64 r.x.i, .string r.nm, .slice ao r.l.length cap] _ HO1.out Tryd.underlying28 rfl HIR.out ?_)
  refine (HR.out _ B1).mono ?_
  rintro e w2 ⟨a2, p2, rfl, hb2, b2⟩
  have HW2 : Hid (Box (w2.alloc (.cells #[.int .i64 Q.x.v, .int .i64 Q.x.k, .int .i64 Q.x.s, .int .i64 Q.x.p, .int .i64 Q.x.t, .int .i64 Q.x.a, .int .i64 Q.x.l, .int .i64 Q.x.c, .int .i64 Q.x.n, .int .i64 Q.x.i, .string Q.nm, .slice a2 Q.l.length p2] 28)) g1 Q.x Q.nm (.slice a1 Q.l.length p1) ∧ Box (w2.alloc (.cells #[.int .i64 Q.x.v, .int .i64 Q.x.k, .int .i64 Q.x.s, .int .i64 Q.x.p, .int .i64 Q.x.t, .int .i64 Q.x.a, .int .i64 Q.x.l, .int .i64 Q.x.c, .int .i64 Q.x.n, .int .i64 Q.x.i, .string Q.nm, .slice a2 Q.l.length p2] 28)) w2.heap.size Q.x Q.nm (.slice a2 Q.l.length p2) ∧ Bs (w2.alloc (.cells #[.int .i64 Q.x.v, .int .i64 Q.x.k, .int .i64 Q.x.s, .int .i64 Q.x.p, .int .i64 Q.x.t, .int .i64 Q.x.a, .int .i64 Q.x.l, .int .i64 Q.x.c, .int .i64 Q.x.n, .int .i64 Q.x.i, .string Q.nm, .slice a2 Q.l.length p2] 28)) (.slice a1 Q.l.length p1) Q.l ∧ Bs (w2.alloc (.cells #[.int .i64 Q.x.v, .int .i64 Q.x.k, .int .i64 Q.x.s, .int .i64 Q.x.p, .int .i64 Q.x.t, .int .i64 Q.x.a, .int .i64 Q.x.l, .int .i64 Q.x.c, .int .i64 Q.x.n, .int .i64 Q.x.i, .string Q.nm, .slice a2 Q.l.length p2] 28)) (.slice a2 Q.l.length p2) Q.l ∧ Below w.heap.size w (w2.alloc (.cells #[.int .i64 Q.x.v, .int .i64 Q.x.k, .int .i64 Q.x.s, .int .i64 Q.x.p, .int .i64 Q.x.t, .int .i64 Q.x.a, .int .i64 Q.x.l, .int .i64 Q.x.c, .int .i64 Q.x.n, .int .i64 Q.x.i, .string Q.nm, .slice a2 Q.l.length p2] 28))) := ⟨(hq1.kept b2).kept (up0 _ _), heap_new _ _, (hb1.kept b2).alloc _, hb2.alloc _, up (andThen B1 b2) _⟩
  clear b2 hb2 hO1 hq1 hb1 B1 HR HO1 k0 k13 k14 k15
  go_upto_region 5 with fail
  have HK' := HW2.out
  clear HW2
  generalize w2.alloc (.cells #[.int .i64 Q.x.v, .int .i64 Q.x.k, .int .i64 Q.x.s, .int .i64 Q.x.p, .int .i64 Q.x.t, .int .i64 Q.x.a, .int .i64 Q.x.l, .int .i64 Q.x.c, .int .i64 Q.x.n, .int .i64 Q.x.i, .string Q.nm, .slice a2 Q.l.length p2] 28) = W2 at HK' ⊢
  generalize w2.heap.size = g2 at HK' ⊢
  obtain ⟨hq1, hq2, hb1, hb2, B2⟩ := HK'
  obtain ⟨c0, c1, c2, c3, c4, c5, c6, c7, c8, c9, c10, c11⟩ := hq1.cells
  obtain ⟨e0, e1, e2, e3, e4, e5, e6, e7, e8, e9, e10, e11⟩ := hq2.cells
  go_wp2_with fail
  refine (HSA.out _ _ _ _ _ hb1 hb2).mono ?_
  rintro e w3 ⟨rfl, b3⟩
  have B3 := andThen B2 b3
  clear b3 hb1 hb2 hq1 hq2 B2 HSA c0 c1 c2 c3 c4 c5 c6 c7 c8 c9 c10 c11 e0 e1 e2 e3 e4 e5 e6 e7 e8 e9 e10 e11
  go_wp2_with fail
  refine (lnum_any z _).mono ?_
  rintro e w4 ⟨rfl, rfl⟩
  go_wp2
  go_ret
  exact ⟨rfl, B3⟩
set_option maxRecDepth 100000 in
set_option maxHeartbeats 2000000 in
theorem one_2 (to fr : Int) (r : Rec) (d v : Value) (w : World) (h : Bs w d r.l) (hv : ∃ av, ∃ nv cv : Nat, v = .slice av nv cv) (hT : LTabs w) (hnm : r.nm.size ≤ 1048576) (hf : r.x.fit) :
    Calls Tryd.prog 21 #[.agg (opv 2 r d to fr v).toArray] w fun e w' => e = .returned (.bool true) ∧ Below w.heap.size w w' := by
  have HIR : Hid ((Tryd.prog.info? 28).map (·.size) = some 12) := infoRec
  have HX : Hid (∀ o, (w.alloc o).heap[w.heap.size]? = some o ∧ Below w.heap.size w (w.alloc o)) := fun o => ⟨Array.getElem?_push_size, up0 w o⟩
  have HU : Hid (∀ w', Below w.heap.size w w' → Calls Tryd.prog 36 #[rv r.x r.nm d, .int .i64 to] w' fun e w'' => ∃ a1, ∃ p1 : Nat, e = .returned (.tuple #[rv (downP to r).2.x (downP to r).2.nm (.slice a1 (downP to r).2.l.length p1), .int .i64 (downP to r).1]) ∧ Bs w'' (.slice a1 (downP to r).2.l.length p1) (downP to r).2.l ∧ Below w'.heap.size w' w'') := fun w' hb => down_any to r d w' (h.kept hb) (hT.kept hb) hnm hf
  have HR : Hid (∀ w', Below w.heap.size w w' → Calls Tryd.prog 37 #[rv r.x r.nm d, .int .i64 to] w' fun e w'' => ∃ a1, ∃ p1 : Nat, e = .returned (.tuple #[rv (downP to r).2.x (downP to r).2.nm (.slice a1 (downP to r).2.l.length p1), .int .i64 (downP to r).1]) ∧ Bs w'' (.slice a1 (downP to r).2.l.length p1) (downP to r).2.l ∧ Below w'.heap.size w' w'') := fun w' hb => (r4down_any to r d w' (h.kept hb) (hT.kept hb).tabs hnm hf).mono fun e w'' ⟨a1, p1, he, hb1, _, hk⟩ => ⟨a1, p1, he, hb1, hk⟩
  obtain ⟨ao, cap, rfl, _⟩ := h.shape
  obtain ⟨av, nv, cv, rfl⟩ := hv
  clear h hT hf
  obtain ⟨Q, hQ⟩ : ∃ Q, (downP to r).2 = Q := ⟨_, rfl⟩
  obtain ⟨z, hz⟩ : ∃ z, (downP to r).1 = z := ⟨_, rfl⟩
  rw [hQ, hz] at HU HR
  clear hQ hz
  have dz : (z == z) = true := beq_self_eq_true _
  have HSA : Hid (∀ w' a1 a2 (p1 p2 : Nat), Bs w' (.slice a1 Q.l.length p1) Q.l → Bs w' (.slice a2 Q.l.length p2) Q.l → Calls Tryd.prog 11 #[rv Q.x Q.nm (.slice a1 Q.l.length p1), rv Q.x Q.nm (.slice a2 Q.l.length p2)] w' fun e w'' => e = .returned (.bool true) ∧ Below w'.heap.size w' w'') := fun w' a1 a2 p1 p2 b1 b2 => (refsame_any Q.x Q.x Q.nm Q.nm _ _ Q.l Q.l w' b1 b2).mono fun e w'' ⟨he, hk'⟩ => ⟨by rw [he, recEq_self], hk'⟩
  unfold opv rv at *
  have HO : Hid (OBox (w.alloc (.cells #[.int .i64 2, .int .i64 r.x.v, .int .i64 r.x.k, .int .i64 r.x.s, .int .i64 r.x.p, .int .i64 r.x.t, .int .i64 r.x.a, .int .i64 r.x.l, .int .i64 r.x.c, .int .i64 r.x.n, .int .i64 r.x.i, .string r.nm, .slice ao r.l.length cap, .int .i64 to, .int .i64 fr, .slice av nv cv] 36)) w.heap.size 2 r (.slice ao r.l.length cap) to fr (.slice av nv cv)) := (HX.out _).1
  have HO1 : Hid ((w.alloc (.cells #[.int .i64 2, .int .i64 r.x.v, .int .i64 r.x.k, .int .i64 r.x.s, .int .i64 r.x.p, .int .i64 r.x.t, .int .i64 r.x.a, .int .i64 r.x.l, .int .i64 r.x.c, .int .i64 r.x.n, .int .i64 r.x.i, .string r.nm, .slice ao r.l.length cap, .int .i64 to, .int .i64 fr, .slice av nv cv] 36)).rangeAt w.heap.size 1 [.int .i64 r.x.v, .int .i64 r.x.k, .int .i64 r.x.s, .int .i64 r.x.p, .int .i64 r.x.t, .int .i64 r.x.a, .int .i64 r.x.l, .int .i64 r.x.c, .int .i64 r.x.n, .int .i64 r.x.i, .string r.nm, .slice ao r.l.length cap]) := HO.out.range
  go_enter Tryd.func21, Tryd.ntmps21
  go_wp2_with (refine wpList_load_mid rfl 28 _ rfl w.heap.size 1 rfl [.int .i64 r.x.v, .int .i64 r.x.k, .int .i64 r.x.s, .int .i64 r.x.p, .int .i64 r.x.t, .int .i64 r.x.a, .int .i64 r.x.l, .int .i64 r.x.c, .int .i64 r.x.n, .int .i64 r.x.i, .string r.nm, .slice ao r.l.length cap] _ HO1.out Tryd.underlying28 rfl HIR.out ?_)
  refine (HU.out _ (HX.out _).2).mono ?_
  rintro e w1 ⟨a1, p1, rfl, hb1, b1⟩
  have HW1 : Hid (OBox (w1.alloc (.cells #[.int .i64 Q.x.v, .int .i64 Q.x.k, .int .i64 Q.x.s, .int .i64 Q.x.p, .int .i64 Q.x.t, .int .i64 Q.x.a, .int .i64 Q.x.l, .int .i64 Q.x.c, .int .i64 Q.x.n, .int .i64 Q.x.i, .string Q.nm, .slice a1 Q.l.length p1] 28)) w.heap.size 2 r (.slice ao r.l.length cap) to fr (.slice av nv cv) ∧ Box (w1.alloc (.cells #[.int .i64 Q.x.v, .int .i64 Q.x.k, .int .i64 Q.x.s, .int .i64 Q.x.p, .int .i64 Q.x.t, .int .i64 Q.x.a, .int .i64 Q.x.l, .int .i64 Q.x.c, .int .i64 Q.x.n, .int .i64 Q.x.i, .string Q.nm, .slice a1 Q.l.length p1] 28)) w1.heap.size Q.x Q.nm (.slice a1 Q.l.length p1) ∧ Bs (w1.alloc (.cells #[.int .i64 Q.x.v, .int .i64 Q.x.k, .int .i64 Q.x.s, .int .i64 Q.x.p, .int .i64 Q.x.t, .int .i64 Q.x.a, .int .i64 Q.x.l, .int .i64 Q.x.c, .int .i64 Q.x.n, .int .i64 Q.x.i, .string Q.nm, .slice a1 Q.l.length p1] 28)) (.slice a1 Q.l.length p1) Q.l ∧ Below w.heap.size w (w1.alloc (.cells #[.int .i64 Q.x.v, .int .i64 Q.x.k, .int .i64 Q.x.s, .int .i64 Q.x.p, .int .i64 Q.x.t, .int .i64 Q.x.a, .int .i64 Q.x.l, .int .i64 Q.x.c, .int .i64 Q.x.n, .int .i64 Q.x.i, .string Q.nm, .slice a1 Q.l.length p1] 28))) := ⟨(HO.out.kept b1).kept (up0 _ _), heap_new _ _, hb1.alloc _, up (andThen (HX.out _).2 b1) _⟩
  clear b1 hb1 HO HO1 HU HX
  go_upto_region 8 with fail
  have HK' := HW1.out
  clear HW1
  generalize w1.alloc (.cells #[.int .i64 Q.x.v, .int .i64 Q.x.k, .int .i64 Q.x.s, .int .i64 Q.x.p, .int .i64 Q.x.t, .int .i64 Q.x.a, .int .i64 Q.x.l, .int .i64 Q.x.c, .int .i64 Q.x.n, .int .i64 Q.x.i, .string Q.nm, .slice a1 Q.l.length p1] 28) = W1 at HK' ⊢
  generalize w1.heap.size = g1 at HK' ⊢
  obtain ⟨hO1, hq1, hb1, B1⟩ := HK'
  have HO1 : Hid (W1.rangeAt w.heap.size 1 [.int .i64 r.x.v, .int .i64 r.x.k, .int .i64 r.x.s, .int .i64 r.x.p, .int .i64 r.x.t, .int .i64 r.x.a, .int .i64 r.x.l, .int .i64 r.x.c, .int .i64 r.x.n, .int .i64 r.x.i, .string r.nm, .slice ao r.l.length cap]) := hO1.range
  obtain ⟨k0, k13, k14, k15⟩ := hO1.cells
  go_wp2_with (refine wpList_load_mid rfl 28 _ rfl w.heap.size 1 rfl [.int .i64 r.x.v, .int .i64 r.x.k, .int .i64 r.x.s, .int .i64 r.x.p, .int .i64 r.x.t, .int .i64 r.x.a, .int .i64 r.x.l, .int .i64 r.x.c, .int .i64 r.x.n, .int .i64 r.x.i, .string r.nm, .slice ao r.l.length cap] _ HO1.out Tryd.underlying28 rfl HIR.out ?_)
  refine (HR.out _ B1).mono ?_
  rintro e w2 ⟨a2, p2, rfl, hb2, b2⟩
  have HW2 : Hid (Box (w2.alloc (.cells #[.int .i64 Q.x.v, .int .i64 Q.x.k, .int .i64 Q.x.s, .int .i64 Q.x.p, .int .i64 Q.x.t, .int .i64 Q.x.a, .int .i64 Q.x.l, .int .i64 Q.x.c, .int .i64 Q.x.n, .int .i64 Q.x.i, .string Q.nm, .slice a2 Q.l.length p2] 28)) g1 Q.x Q.nm (.slice a1 Q.l.length p1) ∧ Box (w2.alloc (.cells #[.int .i64 Q.x.v, .int .i64 Q.x.k, .int .i64 Q.x.s, .int .i64 Q.x.p, .int .i64 Q.x.t, .int .i64 Q.x.a, .int .i64 Q.x.l, .int .i64 Q.x.c, .int .i64 Q.x.n, .int .i64 Q.x.i, .string Q.nm, .slice a2 Q.l.length p2] 28)) w2.heap.size Q.x Q.nm (.slice a2 Q.l.length p2) ∧ Bs (w2.alloc (.cells #[.int .i64 Q.x.v, .int .i64 Q.x.k, .int .i64 Q.x.s, .int .i64 Q.x.p, .int .i64 Q.x.t, .int .i64 Q.x.a, .int .i64 Q.x.l, .int .i64 Q.x.c, .int .i64 Q.x.n, .int .i64 Q.x.i, .string Q.nm, .slice a2 Q.l.length p2] 28)) (.slice a1 Q.l.length p1) Q.l ∧ Bs (w2.alloc (.cells #[.int .i64 Q.x.v, .int .i64 Q.x.k, .int .i64 Q.x.s, .int .i64 Q.x.p, .int .i64 Q.x.t, .int .i64 Q.x.a, .int .i64 Q.x.l, .int .i64 Q.x.c, .int .i64 Q.x.n, .int .i64 Q.x.i, .string Q.nm, .slice a2 Q.l.length p2] 28)) (.slice a2 Q.l.length p2) Q.l ∧ Below w.heap.size w (w2.alloc (.cells #[.int .i64 Q.x.v, .int .i64 Q.x.k, .int .i64 Q.x.s, .int .i64 Q.x.p, .int .i64 Q.x.t, .int .i64 Q.x.a, .int .i64 Q.x.l, .int .i64 Q.x.c, .int .i64 Q.x.n, .int .i64 Q.x.i, .string Q.nm, .slice a2 Q.l.length p2] 28))) := ⟨(hq1.kept b2).kept (up0 _ _), heap_new _ _, (hb1.kept b2).alloc _, hb2.alloc _, up (andThen B1 b2) _⟩
  clear b2 hb2 hO1 hq1 hb1 B1 HR HO1 k0 k13 k14 k15
  go_upto_region 9 with fail
  have HK' := HW2.out
  clear HW2
  generalize w2.alloc (.cells #[.int .i64 Q.x.v, .int .i64 Q.x.k, .int .i64 Q.x.s, .int .i64 Q.x.p, .int .i64 Q.x.t, .int .i64 Q.x.a, .int .i64 Q.x.l, .int .i64 Q.x.c, .int .i64 Q.x.n, .int .i64 Q.x.i, .string Q.nm, .slice a2 Q.l.length p2] 28) = W2 at HK' ⊢
  generalize w2.heap.size = g2 at HK' ⊢
  obtain ⟨hq1, hq2, hb1, hb2, B2⟩ := HK'
  obtain ⟨c0, c1, c2, c3, c4, c5, c6, c7, c8, c9, c10, c11⟩ := hq1.cells
  obtain ⟨e0, e1, e2, e3, e4, e5, e6, e7, e8, e9, e10, e11⟩ := hq2.cells
  go_wp2_with fail
  refine (HSA.out _ _ _ _ _ hb1 hb2).mono ?_
  rintro e w3 ⟨rfl, b3⟩
  have B3 := andThen B2 b3
  clear b3 hb1 hb2 hq1 hq2 B2 HSA c0 c1 c2 c3 c4 c5 c6 c7 c8 c9 c10 c11 e0 e1 e2 e3 e4 e5 e6 e7 e8 e9 e10 e11
  go_wp2_with fail
  refine (lnum_any z _).mono ?_
  rintro e w4 ⟨rfl, rfl⟩
  go_wp2
  go_ret
  exact ⟨rfl, B3⟩
set_option maxRecDepth 100000 in
set_option maxHeartbeats 2000000 in
theorem one_3 (to fr : Int) (r : Rec) (d v : Value) (w : World) (h : Bs w d r.l) (hv : ∃ av, ∃ nv cv : Nat, v = .slice av nv cv) (hT : LTabs w) (hnm : r.nm.size ≤ 1048576) (hf : r.x.fit) :
    Calls Tryd.prog 21 #[.agg (opv 3 r d to fr v).toArray] w fun e w' => e = .returned (.bool true) ∧ Below w.heap.size w w' := by
  have HIR : Hid ((Tryd.prog.info? 28).map (·.size) = some 12) := infoRec
  have HX : Hid (∀ o, (w.alloc o).heap[w.heap.size]? = some o ∧ Below w.heap.size w (w.alloc o)) := fun o => ⟨Array.getElem?_push_size, up0 w o⟩
  have HU : Hid (∀ w', Below w.heap.size w w' → Calls Tryd.prog 38 #[rv r.x r.nm d] w' fun e w'' => e = .returned (.tuple #[.int .i64 (leastA r).2, .int .i64 (leastA r).1]) ∧ Below w'.heap.size w' w'') := fun w' hb => least_any r d w' (h.kept hb) (hT.kept hb) hnm hf
  have HR : Hid (∀ w', Below w.heap.size w w' → Calls Tryd.prog 39 #[rv r.x r.nm d] w' fun e w'' => e = .returned (.tuple #[.int .i64 (leastA r).2, .int .i64 (leastA r).1]) ∧ Below w'.heap.size w' w'') := fun w' hb => r4least_any r d w' (h.kept hb) (hT.kept hb).tabs hnm hf
  obtain ⟨ao, cap, rfl, _⟩ := h.shape
  obtain ⟨av, nv, cv, rfl⟩ := hv
  clear h hT hf
  generalize (leastA r).2 = y at *
  generalize (leastA r).1 = z at *
  have dy : (y == y) = true := beq_self_eq_true _
  have dz : (z == z) = true := beq_self_eq_true _
  unfold opv rv at *
  have HO : Hid (OBox (w.alloc (.cells #[.int .i64 3, .int .i64 r.x.v, .int .i64 r.x.k, .int .i64 r.x.s, .int .i64 r.x.p, .int .i64 r.x.t, .int .i64 r.x.a, .int .i64 r.x.l, .int .i64 r.x.c, .int .i64 r.x.n, .int .i64 r.x.i, .string r.nm, .slice ao r.l.length cap, .int .i64 to, .int .i64 fr, .slice av nv cv] 36)) w.heap.size 3 r (.slice ao r.l.length cap) to fr (.slice av nv cv)) := (HX.out _).1
  have HO1 : Hid ((w.alloc (.cells #[.int .i64 3, .int .i64 r.x.v, .int .i64 r.x.k, .int .i64 r.x.s, .int .i64 r.x.p, .int .i64 r.x.t, .int .i64 r.x.a, .int .i64 r.x.l, .int .i64 r.x.c, .int .i64 r.x.n, .int .i64 r.x.i, .string r.nm, .slice ao r.l.length cap, .int .i64 to, .int .i64 fr, .slice av nv cv] 36)).rangeAt w.heap.size 1 [.int .i64 r.x.v, .int .i64 r.x.k, .int .i64 r.x.s, .int .i64 r.x.p, .int .i64 r.x.t, .int .i64 r.x.a, .int .i64 r.x.l, .int .i64 r.x.c, .int .i64 r.x.n, .int .i64 r.x.i, .string r.nm, .slice ao r.l.length cap]) := HO.out.range
  go_enter Tryd.func21, Tryd.ntmps21
  go_wp2_with (refine wpList_load_mid rfl 28 _ rfl w.heap.size 1 rfl [.int .i64 r.x.v, .int .i64 r.x.k, .int .i64 r.x.s, .int .i64 r.x.p, .int .i64 r.x.t, .int .i64 r.x.a, .int .i64 r.x.l, .int .i64 r.x.c, .int .i64 r.x.n, .int .i64 r.x.i, .string r.nm, .slice ao r.l.length cap] _ HO1.out Tryd.underlying28 rfl HIR.out ?_)
  refine (HU.out _ (HX.out _).2).mono ?_
  rintro e w1 ⟨rfl, b1⟩
  have hO1 := HO.out.kept b1
  have B1 := andThen (HX.out _).2 b1
  have HO2 : Hid (w1.rangeAt w.heap.size 1 [.int .i64 r.x.v, .int .i64 r.x.k, .int .i64 r.x.s, .int .i64 r.x.p, .int .i64 r.x.t, .int .i64 r.x.a, .int .i64 r.x.l, .int .i64 r.x.c, .int .i64 r.x.n, .int .i64 r.x.i, .string r.nm, .slice ao r.l.length cap]) := hO1.range
  obtain ⟨k0, k13, k14, k15⟩ := hO1.cells
  clear b1 HO HO1 HU HX hO1
  go_wp2_with (refine wpList_load_mid rfl 28 _ rfl w.heap.size 1 rfl [.int .i64 r.x.v, .int .i64 r.x.k, .int .i64 r.x.s, .int .i64 r.x.p, .int .i64 r.x.t, .int .i64 r.x.a, .int .i64 r.x.l, .int .i64 r.x.c, .int .i64 r.x.n, .int .i64 r.x.i, .string r.nm, .slice ao r.l.length cap] _ HO2.out Tryd.underlying28 rfl HIR.out ?_)
  refine (HR.out _ B1).mono ?_
  rintro e w2 ⟨rfl, b2⟩
  have B2 := andThen B1 b2
  clear b2 B1 HR HO2 k0 k13 k14 k15
  go_wp2_with fail
  refine (lnum_any z _).mono ?_
  rintro e w4 ⟨rfl, rfl⟩
  go_wp2
  go_ret
  exact ⟨rfl, B2⟩
end Go.Proofs.YtdgdmlmdlojahaaDoor
