import Derived.Deep.Slices
import Derived.Test.YtjhgjlnckidjkaaDoorQA1
import Derived.Test.YtjhgjlnckidjkaaDoorQA2
import Derived.Test.YtjhgjlnckidjkaaDoorQU7
import Derived.Test.YtjhgjlnckidjkaaDoorQK2
import Derived.Test.YtjhgjlnckidjkaaDoorQL1
/-
  LiftAgain: the law's walk.
-/
namespace Go.Proofs.YtjhgjlnckidjkaaDoor
open Go Go.RowKit
open Wb

/-- a list of turns -/
def TurnsAt (w : World) (v : Value) (n : Nat) : Prop := ∃ ao cap, v = .slice ao n cap ∧ n ≤ 1048576 ∧ ∀ k, k < n → ∃ b off at1 kd by1, ao = some ⟨b, off, none⟩ ∧ w.rangeAt b (off + k * 3) [.int .i64 at1, .int .i64 kd, .int .i64 by1] ∧ -9223372036854775808 ≤ by1 ∧ by1 ≤ 9223372036854775807
theorem infoTurn : (Tryd.prog.info? 60).map (·.size) = some 3 := by kernel_rfl
theorem RecsAt.spot {w : World} {ao : Option Addr} {n cap : Nat} {rs : List Rec} (h : RecsAt w (.slice ao n cap) rs) (k : Nat) (r : Rec) (hr : rs[k]? = some r) : ∃ b off d, ao = some ⟨b, off, none⟩ ∧ w.rangeAt b (off + k * 12) (rcl (r, d)) ∧ Bs w d r.l := by
  obtain ⟨ao', cap', e, _, hc⟩ := h
  simp only [Value.slice.injEq] at e
  obtain ⟨rfl, _, rfl⟩ := e
  exact hc k r hr
set_option maxRecDepth 100000 in
set_option maxHeartbeats 16000000 in
theorem lagain_any (to : Int) (v vt : Value) (rs0 : List Rec) (T : Nat) (w : World) (h : RecsAt w v rs0) (hg : LGood rs0) (ht : TurnsAt w vt T) (hT : LTabs w) :
    Calls Tryd.prog 6 #[.int .i64 to, v, vt] w fun e w' => e = .returned (.bool true) ∧ Below w.heap.size w w' := by
  have HIR : Hid ((Tryd.prog.info? 38).map (·.size) = some 12) := infoRec
  have HIT : Hid ((Tryd.prog.info? 60).map (·.size) = some 3) := infoTurn
  have HT : Hid (∀ w', Below w.heap.size w w' → LTabs w') := fun w' hb => hT.kept hb
  have HCL : Hid (Calls Tryd.prog 22 #[v] w fun e w' => ∃ v' ps, e = .returned v' ∧ Rws w.heap.size w' v' ps ∧ ps.map Prod.fst = rs0 ∧ Below w.heap.size w w') := cloneAll_any v rs0 w h hg
  have HG0 : Hid (LGood rs0) := hg
  obtain ⟨av, cv, rfl, _⟩ := h
  obtain ⟨at9, ct, rfl, hTn, htc⟩ := ht
  have HTU : Hid (∀ k, k < T → ∃ b off at1 kd by1, at9 = some ⟨b, off, none⟩ ∧ (∀ w', Below w.heap.size w w' → w'.rangeAt b (off + k * 3) [.int .i64 at1, .int .i64 kd, .int .i64 by1]) ∧ -9223372036854775808 ≤ by1 ∧ by1 ≤ 9223372036854775807) := fun k hk => by
    obtain ⟨b, off, at1, kd, by1, e, hr, h1, h2⟩ := htc k hk
    exact ⟨b, off, at1, kd, by1, e, fun w' hb => Lft.rng_alloc hr hb, h1, h2⟩
  have HST : Hid (∀ w', Below w.heap.size w w' → Calls Tryd.prog 14 #[] w' fun e w'' => e = .returned (.bool true) ∧ Below w'.heap.size w' w'') := fun w' hb => lstarted_any w' (hT.kept hb)
  clear hg htc hT
  go_enter Tryd.func6, Tryd.ntmps6
  go_wp2_with fail
  refine HCL.out.mono ?_
  rintro e w1 ⟨v0, ps0, rfl, hR0, hm0, b1⟩
  obtain ⟨a0, c0, rfl, hc0, _⟩ := hR0.recs.shape
  obtain ⟨n, hn⟩ : ∃ n, ps0.length = n := ⟨_, rfl⟩
  rw [hn] at hR0 ⊢
  have hn1 : n ≤ 1048576 := by
    have h9 := congrArg List.length hm0
    rw [List.length_map, hn] at h9
    rw [h9]
    exact HG0.out.few
  have HR0 : Hid (Rws w.heap.size w1 (.slice a0 n c0) ps0 ∧ LGood (ps0.map Prod.fst) ∧ Below w.heap.size w w1) := ⟨hR0, by rw [hm0]; exact HG0.out, b1⟩
  clear hR0 hm0 b1 HCL HG0 hc0
  go_wp2
  go_loopw [8] (fun i wr => ∃ (k : Nat) (ps : List (Rec × Value)), k ≤ T + 1 ∧ i = .int .i64 (k : Int) ∧ Rws w.heap.size wr (.slice a0 n c0) ps ∧ ps.length = n ∧ LGood (ps.map Prod.fst) ∧ Below w.heap.size w wr) (fun i _ => T + 1 - (intOf i).toNat)
  case atStart => exact ⟨0, ps0, Nat.zero_le _, rfl, HR0.out.1, hn, HR0.out.2.1, HR0.out.2.2⟩
  case round =>
    obtain ⟨k, ps, hk, rfl, hR, hpn, hG, hbel⟩ := hrel
    clear HR0 hn
    by_cases hle : k ≤ T
    · obtain ⟨rs, hrs⟩ : ∃ rs, ps.map Prod.fst = rs := ⟨_, rfl⟩
      have hrn : rs.length = n := by rw [← hrs, List.length_map, hpn]
      rw [hrs] at hG
      have hra := hR.recs.recsAt
      rw [hrs] at hra
      have HCL : Hid (Calls Tryd.prog 22 #[.slice a0 n c0] wr fun e w' => ∃ v' ps, e = .returned v' ∧ Rws wr.heap.size w' v' ps ∧ ps.map Prod.fst = rs ∧ Below wr.heap.size wr w') := cloneAll_any _ rs wr hra hG
      have HR : Hid (Rws w.heap.size wr (.slice a0 n c0) ps ∧ ps.length = n ∧ LGood rs ∧ ps.map Prod.fst = rs ∧ Below w.heap.size w wr ∧ RecsAt wr (.slice a0 n c0) rs) := ⟨hR, hpn, hG, hrs, hbel, hra⟩
      clear hR hpn hG hrs hbel hra
      go_wp2_with fail
      refine HCL.out.mono ?_
      rintro e w2 ⟨v1, ps1, rfl, hR1, hm1, b2⟩
      obtain ⟨a9, c9, rfl, _⟩ := hR1.recs.shape
      have hn9 : ps1.length = n := by rw [← hrn, ← hm1, List.length_map]
      rw [hn9] at hR1 ⊢
      have hra1 := hR1.recs.recsAt
      rw [hm1] at hra1
      have HF : Hid (∀ w', Below w2.heap.size w2 w' → RecsAt w' (.slice a0 n c0) rs ∧ RecsAt w' (.slice a9 n c9) rs ∧ Below w.heap.size w w' ∧ Rws w.heap.size w' (.slice a0 n c0) ps) := fun w' hb => ⟨HR.out.2.2.2.2.2.kept (andThen b2 hb), hra1.kept hb, andThen HR.out.2.2.2.2.1 (andThen b2 hb), HR.out.1.kept (andThen b2 hb)⟩
      have HUA : Hid (∀ w', Below w2.heap.size w2 w' → Calls Tryd.prog 9 #[.int .i64 to, .slice a0 n c0] w' fun e w'' => ∃ vl Lx i z, e = .returned (.tuple #[vl, .int .i64 i, .int .i64 z]) ∧ RecsAt w'' vl Lx ∧ UaAns to rs Lx i z ∧ Below w'.heap.size w' w'') := fun w' hb => upall_ans to _ rs w' (HF.out _ hb).1 HR.out.2.2.1.rgood (HT.out _ (HF.out _ hb).2.2.1)
      have HRA : Hid (∀ w', Below w2.heap.size w2 w' → Calls Tryd.prog 8 #[.int .i64 to, .slice a9 n c9] w' fun e w'' => ∃ vl Lx i z, e = .returned (.tuple #[vl, .int .i64 i, .int .i64 z]) ∧ RecsAt w'' vl Lx ∧ UaAns to rs Lx i z ∧ Below w'.heap.size w' w'') := fun w' hb => r4upall_ans to _ rs w' (HF.out _ hb).2.1 HR.out.2.2.1.rgood (HT.out _ (HF.out _ hb).2.2.1).tabs
      clear hR1 hm1 b2 hra1 hn9 HCL
      go_wp2_with fail
      refine (HUA.out _ (Below.refl _ _)).mono ?_
      rintro e w3 ⟨vl, L5, i5, z5, rfl, hr5, hu5, b3⟩
      have HR5 : Hid (∀ w', Below w3.heap.size w3 w' → RecsAt w' vl L5) := fun w' hb => hr5.kept hb
      have HU5 : Hid (UaAns to rs L5 i5 z5) := hu5
      obtain ⟨al, cl, rfl, _⟩ := hr5
      clear hu5 HUA
      go_wp2_with fail
      refine (HRA.out _ b3).mono ?_
      rintro e w4 ⟨vl6, L6, i6, z6, rfl, hr6, hu6, b4⟩
      obtain ⟨rfl, rfl, rfl⟩ := uaAns_one HU5.out hu6
      have HSL : Hid (Calls Tryd.prog 11 #[.slice al L5.length cl, vl6] w4 fun e w'' => e = .returned (.bool true) ∧ Below w4.heap.size w4 w'') := sameAll3_ok _ _ L5 w4 (HR5.out _ b4) hr6
      obtain ⟨a6, c6, rfl, _⟩ := hr6
      have B4 := andThen b3 b4
      have di : (i5 != i5) = false := by simp
      have dz : (z5 != z5) = false := by simp
      clear hu6 HU5 HR5 HRA b3 b4
      go_wp2_with fail
      refine HSL.out.mono ?_
      rintro e w5 ⟨rfl, b5⟩
      have B5 := andThen B4 b5
      clear b5 B4 HSL
      go_wp2_with fail
      refine (lnum_any z5 _).mono ?_
      rintro e w6 ⟨rfl, rfl⟩
      go_wp2
      go_loopw [16] (fun i wr => ∃ k2 : Nat, k2 ≤ n ∧ i = .int .i64 (k2 : Int) ∧ Below w2.heap.size w2 wr) (fun i _ => n - (intOf i).toNat)
      case atStart => exact ⟨0, Nat.zero_le _, rfl, B5⟩
      case round =>
        obtain ⟨k2, hk2, rfl, hb2⟩ := hrel
        clear B5 di dz
        by_cases hlt : k2 < n
        · obtain ⟨r, hr⟩ : ∃ r, rs[k2]? = some r := ⟨rs[k2]'(by omega), List.getElem?_eq_getElem _⟩
          obtain ⟨b, off, d, rfl, hrg, hbs⟩ := (HF.out _ (Below.refl _ _)).1.spot k2 r hr
          obtain ⟨b', off', d', rfl, hrg', hbs'⟩ := (HF.out _ (Below.refl _ _)).2.1.spot k2 r hr
          have hnf := HR.out.2.2.1.each r (List.mem_of_getElem? hr)
          obtain ⟨Q, hQ⟩ : ∃ Q, (upP to r).2 = Q := ⟨_, rfl⟩
          obtain ⟨z, hz⟩ : ∃ z, (upP to r).1 = z := ⟨_, rfl⟩
          obtain ⟨D, hD⟩ : ∃ D, (downP to r).2 = D := ⟨_, rfl⟩
          obtain ⟨y, hy⟩ : ∃ y, (downP to r).1 = y := ⟨_, rfl⟩
          have HX1 : Hid (∀ w', Below w2.heap.size w2 w' → Calls Tryd.prog 26 #[rv r.x r.nm d, .int .i64 to] w' fun e w'' => ∃ a1, ∃ p1 : Nat, e = .returned (.tuple #[rv Q.x Q.nm (.slice a1 Q.l.length p1), .int .i64 z]) ∧ Bs w'' (.slice a1 Q.l.length p1) Q.l ∧ Below w'.heap.size w' w'') := fun w' hb => (up_any to r d w' (hbs.kept hb) (HT.out _ (HF.out _ hb).2.2.1) hnf.1 hnf.2.1).mono fun e w'' ⟨a1, p1, e1, e2, e4⟩ => by
            rw [hQ] at e1 e2
            rw [hz] at e1
            exact ⟨a1, p1, e1, e2, e4⟩
          have HX2 : Hid (∀ w', Below w2.heap.size w2 w' → Calls Tryd.prog 27 #[rv r.x r.nm d', .int .i64 to] w' fun e w'' => ∃ a1, ∃ p1 : Nat, e = .returned (.tuple #[rv Q.x Q.nm (.slice a1 Q.l.length p1), .int .i64 z]) ∧ Bs w'' (.slice a1 Q.l.length p1) Q.l ∧ Below w'.heap.size w' w'') := fun w' hb => (r4up_any to r d' w' (hbs'.kept hb) (HT.out _ (HF.out _ hb).2.2.1).tabs hnf.1 hnf.2.1).mono fun e w'' ⟨a1, p1, e1, e2, _, e4⟩ => by
            rw [hQ] at e1 e2
            rw [hz] at e1
            exact ⟨a1, p1, e1, e2, e4⟩
          have HX3 : Hid (∀ w', Below w2.heap.size w2 w' → Calls Tryd.prog 28 #[rv r.x r.nm d, .int .i64 to] w' fun e w'' => ∃ a1, ∃ p1 : Nat, e = .returned (.tuple #[rv D.x D.nm (.slice a1 D.l.length p1), .int .i64 y]) ∧ Bs w'' (.slice a1 D.l.length p1) D.l ∧ Below w'.heap.size w' w'') := fun w' hb => (down_any to r d w' (hbs.kept hb) (HT.out _ (HF.out _ hb).2.2.1) hnf.1 hnf.2.1).mono fun e w'' ⟨a1, p1, e1, e2, e4⟩ => by
            rw [hD] at e1 e2
            rw [hy] at e1
            exact ⟨a1, p1, e1, e2, e4⟩
          have HX4 : Hid (∀ w', Below w2.heap.size w2 w' → Calls Tryd.prog 29 #[rv r.x r.nm d', .int .i64 to] w' fun e w'' => ∃ a1, ∃ p1 : Nat, e = .returned (.tuple #[rv D.x D.nm (.slice a1 D.l.length p1), .int .i64 y]) ∧ Bs w'' (.slice a1 D.l.length p1) D.l ∧ Below w'.heap.size w' w'') := fun w' hb => (r4down_any to r d' w' (hbs'.kept hb) (HT.out _ (HF.out _ hb).2.2.1).tabs hnf.1 hnf.2.1).mono fun e w'' ⟨a1, p1, e1, e2, _, e4⟩ => by
            rw [hD] at e1 e2
            rw [hy] at e1
            exact ⟨a1, p1, e1, e2, e4⟩
          have HSQ : Hid (∀ w' a1 a2 (p1 p2 : Nat), Bs w' (.slice a1 Q.l.length p1) Q.l → Bs w' (.slice a2 Q.l.length p2) Q.l → Calls Tryd.prog 30 #[rv Q.x Q.nm (.slice a1 Q.l.length p1), rv Q.x Q.nm (.slice a2 Q.l.length p2)] w' fun e w'' => e = .returned (.bool true) ∧ Below w'.heap.size w' w'') := fun w' a1 a2 p1 p2 b1 b2 => (refsame_any Q.x Q.x Q.nm Q.nm _ _ Q.l Q.l w' b1 b2).mono fun e w'' ⟨he, hk'⟩ => ⟨by rw [he, recEq_self], hk'⟩
          have HSD : Hid (∀ w' a1 a2 (p1 p2 : Nat), Bs w' (.slice a1 D.l.length p1) D.l → Bs w' (.slice a2 D.l.length p2) D.l → Calls Tryd.prog 30 #[rv D.x D.nm (.slice a1 D.l.length p1), rv D.x D.nm (.slice a2 D.l.length p2)] w' fun e w'' => e = .returned (.bool true) ∧ Below w'.heap.size w' w'') := fun w' a1 a2 p1 p2 b1 b2 => (refsame_any D.x D.x D.nm D.nm _ _ D.l D.l w' b1 b2).mono fun e w'' ⟨he, hk'⟩ => ⟨by rw [he, recEq_self], hk'⟩
          obtain ⟨ad, cd, rfl, _⟩ := hbs.shape
          obtain ⟨ae, ce, rfl, _⟩ := hbs'.shape
          have HA : Hid (∀ w', Below w2.heap.size w2 w' → w'.rangeAt b (off + k2 * 12) [.int .i64 r.x.v, .int .i64 r.x.k, .int .i64 r.x.s, .int .i64 r.x.p, .int .i64 r.x.t, .int .i64 r.x.a, .int .i64 r.x.l, .int .i64 r.x.c, .int .i64 r.x.n, .int .i64 r.x.i, .string r.nm, .slice ad r.l.length cd] ∧ w'.rangeAt b' (off' + k2 * 12) [.int .i64 r.x.v, .int .i64 r.x.k, .int .i64 r.x.s, .int .i64 r.x.p, .int .i64 r.x.t, .int .i64 r.x.a, .int .i64 r.x.l, .int .i64 r.x.c, .int .i64 r.x.n, .int .i64 r.x.i, .string r.nm, .slice ae r.l.length ce]) := fun w' hb => ⟨Lft.rng_alloc hrg hb, Lft.rng_alloc hrg' hb⟩
          have dz : (z != z) = false := by simp
          have dy : (y != y) = false := by simp
          have HA0 := (HA.out _ hb2).1
          have HR0 : Hid (wr.rangeAt b (off + k2 * 12) [.int .i64 r.x.v, .int .i64 r.x.k, .int .i64 r.x.s, .int .i64 r.x.p, .int .i64 r.x.t, .int .i64 r.x.a, .int .i64 r.x.l, .int .i64 r.x.c, .int .i64 r.x.n, .int .i64 r.x.i, .string r.nm, .slice ad r.l.length cd]) := HA0
          clear HA0 hrg hrg' hbs hbs' hnf hr hQ hz hD hy
          unfold rv at *
          go_wp2_with (refine wpList_load_mid rfl 38 _ rfl b (off + k2 * 12) rfl [.int .i64 r.x.v, .int .i64 r.x.k, .int .i64 r.x.s, .int .i64 r.x.p, .int .i64 r.x.t, .int .i64 r.x.a, .int .i64 r.x.l, .int .i64 r.x.c, .int .i64 r.x.n, .int .i64 r.x.i, .string r.nm, .slice ad r.l.length cd] _ HR0.out Tryd.underlying38 rfl HIR.out ?_)
          refine (HX1.out _ hb2).mono ?_
          rintro e wa ⟨a1, p1, rfl, hq1, ba⟩
          have HK : Hid (Box (wa.alloc (.cells #[.int .i64 Q.x.v, .int .i64 Q.x.k, .int .i64 Q.x.s, .int .i64 Q.x.p, .int .i64 Q.x.t, .int .i64 Q.x.a, .int .i64 Q.x.l, .int .i64 Q.x.c, .int .i64 Q.x.n, .int .i64 Q.x.i, .string Q.nm, .slice a1 Q.l.length p1] 38)) wa.heap.size Q.x Q.nm (.slice a1 Q.l.length p1) ∧ Bs (wa.alloc (.cells #[.int .i64 Q.x.v, .int .i64 Q.x.k, .int .i64 Q.x.s, .int .i64 Q.x.p, .int .i64 Q.x.t, .int .i64 Q.x.a, .int .i64 Q.x.l, .int .i64 Q.x.c, .int .i64 Q.x.n, .int .i64 Q.x.i, .string Q.nm, .slice a1 Q.l.length p1] 38)) (.slice a1 Q.l.length p1) Q.l ∧ Below w2.heap.size w2 (wa.alloc (.cells #[.int .i64 Q.x.v, .int .i64 Q.x.k, .int .i64 Q.x.s, .int .i64 Q.x.p, .int .i64 Q.x.t, .int .i64 Q.x.a, .int .i64 Q.x.l, .int .i64 Q.x.c, .int .i64 Q.x.n, .int .i64 Q.x.i, .string Q.nm, .slice a1 Q.l.length p1] 38))) := ⟨heap_new _ _, hq1.alloc _, up (andThen hb2 ba) _⟩
          clear hq1 ba hb2 HX1 HR0
          go_upto_region 14 with fail
          have HK' := HK.out
          clear HK
          generalize wa.alloc (.cells #[.int .i64 Q.x.v, .int .i64 Q.x.k, .int .i64 Q.x.s, .int .i64 Q.x.p, .int .i64 Q.x.t, .int .i64 Q.x.a, .int .i64 Q.x.l, .int .i64 Q.x.c, .int .i64 Q.x.n, .int .i64 Q.x.i, .string Q.nm, .slice a1 Q.l.length p1] 38) = Wa at HK' ⊢
          generalize wa.heap.size = g1 at HK' ⊢
          obtain ⟨x1, q1, B1⟩ := HK'
          have HR1 : Hid (Wa.rangeAt b' (off' + k2 * 12) [.int .i64 r.x.v, .int .i64 r.x.k, .int .i64 r.x.s, .int .i64 r.x.p, .int .i64 r.x.t, .int .i64 r.x.a, .int .i64 r.x.l, .int .i64 r.x.c, .int .i64 r.x.n, .int .i64 r.x.i, .string r.nm, .slice ae r.l.length ce]) := (HA.out _ B1).2
          go_wp2_with (refine wpList_load_mid rfl 38 _ rfl b' (off' + k2 * 12) rfl [.int .i64 r.x.v, .int .i64 r.x.k, .int .i64 r.x.s, .int .i64 r.x.p, .int .i64 r.x.t, .int .i64 r.x.a, .int .i64 r.x.l, .int .i64 r.x.c, .int .i64 r.x.n, .int .i64 r.x.i, .string r.nm, .slice ae r.l.length ce] _ HR1.out Tryd.underlying38 rfl HIR.out ?_)
          refine (HX2.out _ B1).mono ?_
          rintro e wb ⟨a2, p2, rfl, hq2, bb⟩
          have HK : Hid (Box (wb.alloc (.cells #[.int .i64 Q.x.v, .int .i64 Q.x.k, .int .i64 Q.x.s, .int .i64 Q.x.p, .int .i64 Q.x.t, .int .i64 Q.x.a, .int .i64 Q.x.l, .int .i64 Q.x.c, .int .i64 Q.x.n, .int .i64 Q.x.i, .string Q.nm, .slice a2 Q.l.length p2] 38)) g1 Q.x Q.nm (.slice a1 Q.l.length p1) ∧ Bs (wb.alloc (.cells #[.int .i64 Q.x.v, .int .i64 Q.x.k, .int .i64 Q.x.s, .int .i64 Q.x.p, .int .i64 Q.x.t, .int .i64 Q.x.a, .int .i64 Q.x.l, .int .i64 Q.x.c, .int .i64 Q.x.n, .int .i64 Q.x.i, .string Q.nm, .slice a2 Q.l.length p2] 38)) (.slice a1 Q.l.length p1) Q.l ∧ Box (wb.alloc (.cells #[.int .i64 Q.x.v, .int .i64 Q.x.k, .int .i64 Q.x.s, .int .i64 Q.x.p, .int .i64 Q.x.t, .int .i64 Q.x.a, .int .i64 Q.x.l, .int .i64 Q.x.c, .int .i64 Q.x.n, .int .i64 Q.x.i, .string Q.nm, .slice a2 Q.l.length p2] 38)) wb.heap.size Q.x Q.nm (.slice a2 Q.l.length p2) ∧ Bs (wb.alloc (.cells #[.int .i64 Q.x.v, .int .i64 Q.x.k, .int .i64 Q.x.s, .int .i64 Q.x.p, .int .i64 Q.x.t, .int .i64 Q.x.a, .int .i64 Q.x.l, .int .i64 Q.x.c, .int .i64 Q.x.n, .int .i64 Q.x.i, .string Q.nm, .slice a2 Q.l.length p2] 38)) (.slice a2 Q.l.length p2) Q.l ∧ Below w2.heap.size w2 (wb.alloc (.cells #[.int .i64 Q.x.v, .int .i64 Q.x.k, .int .i64 Q.x.s, .int .i64 Q.x.p, .int .i64 Q.x.t, .int .i64 Q.x.a, .int .i64 Q.x.l, .int .i64 Q.x.c, .int .i64 Q.x.n, .int .i64 Q.x.i, .string Q.nm, .slice a2 Q.l.length p2] 38))) := ⟨(x1.kept bb).kept (up0 _ _), (q1.kept bb).alloc _, heap_new _ _, hq2.alloc _, up (andThen B1 bb) _⟩
          clear hq2 bb x1 q1 B1 HX2 HR1
          go_upto_region 15 with fail
          have HK' := HK.out
          clear HK
          generalize wb.alloc (.cells #[.int .i64 Q.x.v, .int .i64 Q.x.k, .int .i64 Q.x.s, .int .i64 Q.x.p, .int .i64 Q.x.t, .int .i64 Q.x.a, .int .i64 Q.x.l, .int .i64 Q.x.c, .int .i64 Q.x.n, .int .i64 Q.x.i, .string Q.nm, .slice a2 Q.l.length p2] 38) = Wb at HK' ⊢
          generalize wb.heap.size = g2 at HK' ⊢
          obtain ⟨x1, q1, x2, q2, B2⟩ := HK'
          have HR2 : Hid (Wb.rangeAt b (off + k2 * 12) [.int .i64 r.x.v, .int .i64 r.x.k, .int .i64 r.x.s, .int .i64 r.x.p, .int .i64 r.x.t, .int .i64 r.x.a, .int .i64 r.x.l, .int .i64 r.x.c, .int .i64 r.x.n, .int .i64 r.x.i, .string r.nm, .slice ad r.l.length cd]) := (HA.out _ B2).1
          go_wp2_with (refine wpList_load_mid rfl 38 _ rfl b (off + k2 * 12) rfl [.int .i64 r.x.v, .int .i64 r.x.k, .int .i64 r.x.s, .int .i64 r.x.p, .int .i64 r.x.t, .int .i64 r.x.a, .int .i64 r.x.l, .int .i64 r.x.c, .int .i64 r.x.n, .int .i64 r.x.i, .string r.nm, .slice ad r.l.length cd] _ HR2.out Tryd.underlying38 rfl HIR.out ?_)
          refine (HX3.out _ B2).mono ?_
          rintro e wc ⟨a3, p3, rfl, hq3, bc⟩
          have HK : Hid (Box (wc.alloc (.cells #[.int .i64 D.x.v, .int .i64 D.x.k, .int .i64 D.x.s, .int .i64 D.x.p, .int .i64 D.x.t, .int .i64 D.x.a, .int .i64 D.x.l, .int .i64 D.x.c, .int .i64 D.x.n, .int .i64 D.x.i, .string D.nm, .slice a3 D.l.length p3] 38)) g1 Q.x Q.nm (.slice a1 Q.l.length p1) ∧ Bs (wc.alloc (.cells #[.int .i64 D.x.v, .int .i64 D.x.k, .int .i64 D.x.s, .int .i64 D.x.p, .int .i64 D.x.t, .int .i64 D.x.a, .int .i64 D.x.l, .int .i64 D.x.c, .int .i64 D.x.n, .int .i64 D.x.i, .string D.nm, .slice a3 D.l.length p3] 38)) (.slice a1 Q.l.length p1) Q.l ∧ Box (wc.alloc (.cells #[.int .i64 D.x.v, .int .i64 D.x.k, .int .i64 D.x.s, .int .i64 D.x.p, .int .i64 D.x.t, .int .i64 D.x.a, .int .i64 D.x.l, .int .i64 D.x.c, .int .i64 D.x.n, .int .i64 D.x.i, .string D.nm, .slice a3 D.l.length p3] 38)) g2 Q.x Q.nm (.slice a2 Q.l.length p2) ∧ Bs (wc.alloc (.cells #[.int .i64 D.x.v, .int .i64 D.x.k, .int .i64 D.x.s, .int .i64 D.x.p, .int .i64 D.x.t, .int .i64 D.x.a, .int .i64 D.x.l, .int .i64 D.x.c, .int .i64 D.x.n, .int .i64 D.x.i, .string D.nm, .slice a3 D.l.length p3] 38)) (.slice a2 Q.l.length p2) Q.l ∧ Box (wc.alloc (.cells #[.int .i64 D.x.v, .int .i64 D.x.k, .int .i64 D.x.s, .int .i64 D.x.p, .int .i64 D.x.t, .int .i64 D.x.a, .int .i64 D.x.l, .int .i64 D.x.c, .int .i64 D.x.n, .int .i64 D.x.i, .string D.nm, .slice a3 D.l.length p3] 38)) wc.heap.size D.x D.nm (.slice a3 D.l.length p3) ∧ Bs (wc.alloc (.cells #[.int .i64 D.x.v, .int .i64 D.x.k, .int .i64 D.x.s, .int .i64 D.x.p, .int .i64 D.x.t, .int .i64 D.x.a, .int .i64 D.x.l, .int .i64 D.x.c, .int .i64 D.x.n, .int .i64 D.x.i, .string D.nm, .slice a3 D.l.length p3] 38)) (.slice a3 D.l.length p3) D.l ∧ Below w2.heap.size w2 (wc.alloc (.cells #[.int .i64 D.x.v, .int .i64 D.x.k, .int .i64 D.x.s, .int .i64 D.x.p, .int .i64 D.x.t, .int .i64 D.x.a, .int .i64 D.x.l, .int .i64 D.x.c, .int .i64 D.x.n, .int .i64 D.x.i, .string D.nm, .slice a3 D.l.length p3] 38))) := ⟨(x1.kept bc).kept (up0 _ _), (q1.kept bc).alloc _, (x2.kept bc).kept (up0 _ _), (q2.kept bc).alloc _, heap_new _ _, hq3.alloc _, up (andThen B2 bc) _⟩
          clear hq3 bc x1 q1 x2 q2 B2 HX3 HR2
          go_upto_region 16 with fail
          have HK' := HK.out
          clear HK
          generalize wc.alloc (.cells #[.int .i64 D.x.v, .int .i64 D.x.k, .int .i64 D.x.s, .int .i64 D.x.p, .int .i64 D.x.t, .int .i64 D.x.a, .int .i64 D.x.l, .int .i64 D.x.c, .int .i64 D.x.n, .int .i64 D.x.i, .string D.nm, .slice a3 D.l.length p3] 38) = Wc at HK' ⊢
          generalize wc.heap.size = g3 at HK' ⊢
          obtain ⟨x1, q1, x2, q2, x3, q3, B3⟩ := HK'
          have HR3 : Hid (Wc.rangeAt b' (off' + k2 * 12) [.int .i64 r.x.v, .int .i64 r.x.k, .int .i64 r.x.s, .int .i64 r.x.p, .int .i64 r.x.t, .int .i64 r.x.a, .int .i64 r.x.l, .int .i64 r.x.c, .int .i64 r.x.n, .int .i64 r.x.i, .string r.nm, .slice ae r.l.length ce]) := (HA.out _ B3).2
          go_wp2_with (refine wpList_load_mid rfl 38 _ rfl b' (off' + k2 * 12) rfl [.int .i64 r.x.v, .int .i64 r.x.k, .int .i64 r.x.s, .int .i64 r.x.p, .int .i64 r.x.t, .int .i64 r.x.a, .int .i64 r.x.l, .int .i64 r.x.c, .int .i64 r.x.n, .int .i64 r.x.i, .string r.nm, .slice ae r.l.length ce] _ HR3.out Tryd.underlying38 rfl HIR.out ?_)
          refine (HX4.out _ B3).mono ?_
          rintro e wd ⟨a4, p4, rfl, hq4, bd⟩
          have HK : Hid ((∀ w', Below (wd.alloc (.cells #[.int .i64 D.x.v, .int .i64 D.x.k, .int .i64 D.x.s, .int .i64 D.x.p, .int .i64 D.x.t, .int .i64 D.x.a, .int .i64 D.x.l, .int .i64 D.x.c, .int .i64 D.x.n, .int .i64 D.x.i, .string D.nm, .slice a4 D.l.length p4] 38)).heap.size (wd.alloc (.cells #[.int .i64 D.x.v, .int .i64 D.x.k, .int .i64 D.x.s, .int .i64 D.x.p, .int .i64 D.x.t, .int .i64 D.x.a, .int .i64 D.x.l, .int .i64 D.x.c, .int .i64 D.x.n, .int .i64 D.x.i, .string D.nm, .slice a4 D.l.length p4] 38)) w' → Box w' g1 Q.x Q.nm (.slice a1 Q.l.length p1) ∧ Bs w' (.slice a1 Q.l.length p1) Q.l ∧ Box w' g2 Q.x Q.nm (.slice a2 Q.l.length p2) ∧ Bs w' (.slice a2 Q.l.length p2) Q.l ∧ Box w' g3 D.x D.nm (.slice a3 D.l.length p3) ∧ Bs w' (.slice a3 D.l.length p3) D.l ∧ Box w' wd.heap.size D.x D.nm (.slice a4 D.l.length p4) ∧ Bs w' (.slice a4 D.l.length p4) D.l ∧ Below w2.heap.size w2 w')) := fun w' hb => ⟨((x1.kept bd).kept (up0 _ _)).kept hb, ((q1.kept bd).alloc _).kept hb, ((x2.kept bd).kept (up0 _ _)).kept hb, ((q2.kept bd).alloc _).kept hb, ((x3.kept bd).kept (up0 _ _)).kept hb, ((q3.kept bd).alloc _).kept hb, Box.kept (heap_new _ _) hb, (hq4.alloc _).kept hb, andThen (up (andThen B3 bd) _) hb⟩
          clear hq4 bd x1 q1 x2 q2 x3 q3 B3 HX4 HR3
          go_upto_region 17 with fail
          have HK' := HK.out
          clear HK
          generalize wd.alloc (.cells #[.int .i64 D.x.v, .int .i64 D.x.k, .int .i64 D.x.s, .int .i64 D.x.p, .int .i64 D.x.t, .int .i64 D.x.a, .int .i64 D.x.l, .int .i64 D.x.c, .int .i64 D.x.n, .int .i64 D.x.i, .string D.nm, .slice a4 D.l.length p4] 38) = Wd at HK' ⊢
          generalize wd.heap.size = g4 at HK' ⊢
          have HKW : Hid (∀ w', Below Wd.heap.size Wd w' → Box w' g1 Q.x Q.nm (.slice a1 Q.l.length p1) ∧ Bs w' (.slice a1 Q.l.length p1) Q.l ∧ Box w' g2 Q.x Q.nm (.slice a2 Q.l.length p2) ∧ Bs w' (.slice a2 Q.l.length p2) Q.l ∧ Box w' g3 D.x D.nm (.slice a3 D.l.length p3) ∧ Bs w' (.slice a3 D.l.length p3) D.l ∧ Box w' g4 D.x D.nm (.slice a4 D.l.length p4) ∧ Bs w' (.slice a4 D.l.length p4) D.l ∧ Below w2.heap.size w2 w') := HK'
          clear HK'
          obtain ⟨x1, q1, x2, q2, _⟩ := HKW.out _ (Below.refl _ _)
          obtain ⟨s0, s1, s2, s3, s4, s5, s6, s7, s8, s9, s10, s11⟩ := x1.cells
          obtain ⟨t0, t1, t2, t3, t4, t5, t6, t7, t8, t9, t10, t11⟩ := x2.cells
          clear x1 x2
          go_wp2_with fail
          refine (HSQ.out _ _ _ _ _ q1 q2).mono ?_
          rintro e we ⟨rfl, be⟩
          clear q1 q2 HSQ s0 s1 s2 s3 s4 s5 s6 s7 s8 s9 s10 s11 t0 t1 t2 t3 t4 t5 t6 t7 t8 t9 t10 t11
          go_wp2_with fail
          refine (lnum_any z _).mono ?_
          rintro e wf ⟨rfl, rfl⟩
          obtain ⟨_, _, _, _, x3, q3, x4, q4, _⟩ := HKW.out _ be
          obtain ⟨s0, s1, s2, s3, s4, s5, s6, s7, s8, s9, s10, s11⟩ := x3.cells
          obtain ⟨t0, t1, t2, t3, t4, t5, t6, t7, t8, t9, t10, t11⟩ := x4.cells
          clear x3 x4
          go_wp2_with fail
          refine (HSD.out _ _ _ _ _ q3 q4).mono ?_
          rintro e wg ⟨rfl, bg⟩
          have Bg := (HKW.out _ (andThen be bg)).2.2.2.2.2.2.2.2
          clear be bg q3 q4 HSD HKW s0 s1 s2 s3 s4 s5 s6 s7 s8 s9 s10 s11 t0 t1 t2 t3 t4 t5 t6 t7 t8 t9 t10 t11
          go_wp2_with fail
          refine (lnum_any y _).mono ?_
          rintro e wh ⟨rfl, rfl⟩
          go_wp2
          go_roundw
          case rel => exact ⟨k2 + 1, by omega, by go_num, Bg⟩
          case measure => simp [intOf]; omega
        · obtain rfl : k2 = n := by omega
          clear hk2 hlt
          have HSL : Hid (Calls Tryd.prog 11 #[.slice a0 k2 c0, .slice a9 k2 c9] wr fun e w'' => e = .returned (.bool true) ∧ Below wr.heap.size wr w'') := sameAll3_ok _ _ rs wr (HF.out _ hb2).1 (HF.out _ hb2).2.1
          go_wp2_with fail
          refine HSL.out.mono ?_
          rintro e w7 ⟨rfl, b7⟩
          have B7 := andThen hb2 b7
          clear b7 hb2 HSL
          by_cases hlt : k < T
          · obtain ⟨b, off, at1, kd, by1, rfl, htr, hy1, hy2⟩ := HTU.out k hlt
            have HTR : Hid (w7.rangeAt b (off + k * 3) [.int .i64 at1, .int .i64 kd, .int .i64 by1]) := htr _ (HF.out _ B7).2.2.1
            have HTT : Hid (Calls Tryd.prog 31 #[.slice a0 k2 c0, .agg #[.int .i64 at1, .int .i64 kd, .int .i64 by1]] w7 fun e w' => TPost w.heap.size w7 (.slice a0 k2 c0) ps.length e w') := turned_any at1 kd by1 _ w.heap.size w7 ps (HF.out _ B7).2.2.2 (by rw [HR.out.2.2.2.1]; exact HR.out.2.2.1) (HF.out _ B7).2.2.1.size hy1 hy2
            clear htr
            go_wp2_with (refine wpList_load_mid rfl 60 _ rfl b (off + k * 3) rfl [.int .i64 at1, .int .i64 kd, .int .i64 by1] _ HTR.out Tryd.underlying60 rfl HIT.out ?_)
            refine HTT.out.mono ?_
            rintro e w8 ⟨ps', rfl, hR8, hl8, hG8, b8⟩
            have HE8 : Hid (Rws w.heap.size w8 (.slice a0 k2 c0) ps' ∧ ps'.length = k2 ∧ LGood (ps'.map Prod.fst) ∧ Below w.heap.size w w8) := ⟨hR8, hl8.trans HR.out.2.1, hG8, (HF.out _ B7).2.2.1.trans b8⟩
            clear hR8 hl8 hG8 b8 HTR HTT B7
            go_wp2
            go_roundw
            case rel => exact ⟨k + 1, ps', by omega, by go_num, HE8.out.1, HE8.out.2.1, HE8.out.2.2.1, HE8.out.2.2.2⟩
            case measure => simp [intOf]; omega
          · have HE8 : Hid (Rws w.heap.size w7 (.slice a0 k2 c0) ps ∧ ps.length = k2 ∧ LGood (ps.map Prod.fst) ∧ Below w.heap.size w w7) := ⟨(HF.out _ B7).2.2.2, HR.out.2.1, by rw [HR.out.2.2.2.1]; exact HR.out.2.2.1, (HF.out _ B7).2.2.1⟩
            clear B7
            go_wp2
            go_roundw
            case rel => exact ⟨k + 1, ps, by omega, by go_num, HE8.out.1, HE8.out.2.1, HE8.out.2.2.1, HE8.out.2.2.2⟩
            case measure => simp [intOf]; omega
    · go_wp2_with fail
      refine (HST.out _ hbel).mono ?_
      rintro e w9 ⟨rfl, b9⟩
      have B9 := andThen hbel b9
      clear b9 hbel
      go_wp2
      go_ret
      exact ⟨rfl, B9⟩
end Go.Proofs.YtjhgjlnckidjkaaDoor

/-
  LiftAgain: the arguments.
-/
namespace Go.Proofs.YtjhgjlnckidjkaaDoor
open Go Go.RowKit Go.ChangeShapes Go.WideShapes Go.ChangeAt
open Wb

set_option maxRecDepth 100000 in
theorem open_recl {H : Type} {enc : TypeId × Value → H} {W : World} {fuel : Nat} {vs : List Value} {d : DataW H} {p : List MemPlace} (hf : DataW.trod enc Tryd.prog W 0 (fun _ => true) true fuel 38 vs = some (d, p)) (hlen : vs.length = 12) :
    ∃ (x : Nums) (nm : ByteArray) (dv : Value) (l : List Nat), vs = [.int .i64 x.v, .int .i64 x.k, .int .i64 x.s, .int .i64 x.p, .int .i64 x.t, .int .i64 x.a, .int .i64 x.l, .int .i64 x.c, .int .i64 x.n, .int .i64 x.i, .string nm, dv] ∧ Bs W dv l ∧ nm.size + l.length ≤ Rows.uptoBulk d ∧ x.fit := by
  obtain ⟨xs, k', _, hxy, _, hxl, hfs⟩ := DataW.trod_struct Tryd.underlying38 hf
  match xs, hxl, vs, hlen with
  | [y0, y1, y2, y3, y4, y5, y6, y7, y8, y9, y10, y11], _, [v0, v1, v2, v3, v4, v5, v6, v7, v8, v9, v10, v11], _ =>
    have g0 := hfs 0 _ rfl
    have g1 := hfs 1 _ rfl
    have g2 := hfs 2 _ rfl
    have g3 := hfs 3 _ rfl
    have g4 := hfs 4 _ rfl
    have g5 := hfs 5 _ rfl
    have g6 := hfs 6 _ rfl
    have g7 := hfs 7 _ rfl
    have g8 := hfs 8 _ rfl
    have g9 := hfs 9 _ rfl
    have g10 := hfs 10 _ rfl
    have g11 := hfs 11 _ rfl
    simp [cellsTIk, cellsTSTRk, cellsTBSk] at g0 g1 g2 g3 g4 g5 g6 g7 g8 g9 g10 g11
    simp only [Prod.mk.injEq] at hxy
    obtain ⟨z0, e0, _, _⟩ := DataW.trod_int Tryd.underlying3 g0
    obtain ⟨z1, e1, _, b1⟩ := DataW.trod_int Tryd.underlying3 g1
    obtain ⟨z2, e2, _, b2⟩ := DataW.trod_int Tryd.underlying3 g2
    obtain ⟨z3, e3, _, b3⟩ := DataW.trod_int Tryd.underlying3 g3
    obtain ⟨z4, e4, _, b4⟩ := DataW.trod_int Tryd.underlying3 g4
    obtain ⟨z5, e5, _, b5⟩ := DataW.trod_int Tryd.underlying3 g5
    obtain ⟨z6, e6, _, b6⟩ := DataW.trod_int Tryd.underlying3 g6
    obtain ⟨z7, e7, _, b7⟩ := DataW.trod_int Tryd.underlying3 g7
    obtain ⟨z8, e8, _, b8⟩ := DataW.trod_int Tryd.underlying3 g8
    obtain ⟨z9, e9, _, b9⟩ := DataW.trod_int Tryd.underlying3 g9
    obtain ⟨z10, e10, q10, _⟩ := DataW.trod_string Tryd.underlying9 g10
    obtain ⟨l, hb, hlb⟩ := open_bsk g11
    have hw10 : z10.size + l.length ≤ Rows.uptoBulk d := by
      have h10 : y10.1 = .lit (.string z10.data.toList) := congrArg Prod.fst q10
      rw [hxy.1]
      simp [Rows.uptoBulk, Rows.uptoBulkAll, h10] at hlb ⊢
      have : z10.data.size = z10.size := rfl
      omega
    simp only [List.cons.injEq, and_true] at e0 e1 e2 e3 e4 e5 e6 e7 e8 e9 e10
    subst e0 e1 e2 e3 e4 e5 e6 e7 e8 e9 e10
    refine ⟨⟨z0, z1, z2, z3, z4, z5, z6, z7, z8, z9⟩, z10, v11, l, rfl, hb, hw10, fun t h1 h9 => ?_⟩
    obtain rfl | rfl | rfl | rfl | rfl | rfl | rfl | rfl | rfl : t = 1 ∨ t = 2 ∨ t = 3 ∨ t = 4 ∨ t = 5 ∨ t = 6 ∨ t = 7 ∨ t = 8 ∨ t = 9 := by omega
    · exact i64_boundsk b1
    · exact i64_boundsk b2
    · exact i64_boundsk b3
    · exact i64_boundsk b4
    · exact i64_boundsk b5
    · exact i64_boundsk b6
    · exact i64_boundsk b7
    · exact i64_boundsk b8
    · exact i64_boundsk b9
theorem bulk_memr {H : Type} : ∀ {l : List (DataW H)} {d : DataW H}, d ∈ l → Rows.uptoBulk d ≤ Rows.uptoBulkAll l
  | x :: r, d, hd => by
    simp only [Rows.uptoBulkAll]
    rcases List.mem_cons.1 hd with rfl | h
    · omega
    · have := bulk_memr h
      omega
theorem bulk_pos {H : Type} (d : DataW H) : 1 ≤ Rows.uptoBulk d := by
  cases d with
  | lit x => cases x <;> simp [Rows.uptoBulk]
  | _ => simp [Rows.uptoBulk]
theorem bulk_count {H : Type} : ∀ l : List (DataW H), l.length ≤ Rows.uptoBulkAll l
  | [] => Nat.zero_le _
  | x :: r => by
    have := bulk_count r
    have := bulk_pos x
    simp only [Rows.uptoBulkAll, List.length_cons]
    omega
theorem listed4 {α : Type} {p : Nat → α → Prop} : ∀ n, (∀ k, k < n → ∃ a, p k a) → ∃ l : List α, l.length = n ∧ ∀ k a, l[k]? = some a → p k a
  | 0, _ => ⟨[], rfl, fun k a h => by simp at h⟩
  | n + 1, h => by
    obtain ⟨l, hl, hp⟩ := listed4 n (fun k hk => h k (by omega))
    obtain ⟨a, ha⟩ := h n (by omega)
    refine ⟨l ++ [a], by simp [hl], fun k b hb => ?_⟩
    by_cases hk : k < n
    · rw [List.getElem?_append_left (by omega)] at hb
      exact hp k b hb
    · rw [List.getElem?_append_right (by omega)] at hb
      obtain rfl : k = n := by
        have := (List.getElem?_eq_some_iff.1 hb).1
        simp at this
        omega
      rw [hl] at hb
      simp at hb
      exact hb ▸ ha
theorem cellsRECSk : Tryd.prog.cellsOf 22 = 1 := by kernel_rfl
set_option maxRecDepth 100000 in
theorem open_recsk {H : Type} {enc : TypeId × Value → H} {W : World} {fuel : Nat} {v : Value} {d : DataW H} {p : List MemPlace} (hf : DataW.trod enc Tryd.prog W 0 (fun _ => true) true fuel 22 [v] = some (d, p)) (hw : Rows.uptoBulk d ≤ 1048576) :
    ∃ rs, RecsAt W v rs ∧ LGood rs := by
  rcases Deep.open_slice Tryd.underlying22 hf with ⟨hcs, _⟩ | ⟨a, len0, cap0, m, n, D, Pl, hcs, _, hl, hm, hmm, hx, hel⟩
  · simp at hcs
    subst hcs
    exact ⟨[], recsAt_nil _, ⟨(fun r hr => nomatch hr), by simp⟩⟩
  · simp at hcs
    subst hcs
    simp only [Prod.mk.injEq] at hx
    rw [hx.1] at hw
    simp only [Rows.uptoBulk] at hw
    have hcnt : len0 ≤ 1048576 := by
      have := bulk_count ((List.range len0).map D)
      simp only [List.length_map, List.length_range] at this
      omega
    have each : ∀ k, k < len0 → ∃ r : Rec, ∃ b off d, a = ⟨b, off, none⟩ ∧ W.rangeAt b (off + k * 12) (rcl (r, d)) ∧ Bs W d r.l ∧ r.nm.size ≤ 1048576 ∧ r.x.fit ∧ r.l.length ≤ 1048576 := fun k hk => by
      have hkm : k < m := by rw [hmm]; simp; omega
      have hspot : a.spot = none := by
        obtain ⟨cs0, h10, _⟩ := hel 0 (by omega)
        rw [cellsRECk] at h10
        obtain ⟨_, hl0, hc0⟩ := World.cells?_some h10
        have r0 := hc0 0 (by omega)
        rw [List.getElem?_eq_getElem (show 0 < cs0.length by omega)] at r0
        simpa [Addr.add] using World.cell?_spot r0
      obtain ⟨cs', h1, h2⟩ := hel k hkm
      have hwk : Rows.uptoBulk (D k) ≤ 1048576 := by
        have := bulk_memr (l := (List.range len0).map D) (d := D k) (List.mem_map.2 ⟨k, List.mem_range.2 hk, rfl⟩)
        omega
      rw [cellsRECk] at h1
      obtain ⟨_, hlen, hcell⟩ := World.cells?_some h1
      obtain ⟨x, nm, d, l, e, hb, hn, hft⟩ := open_recl h2 hlen
      obtain ⟨b, off, spot⟩ := a
      obtain rfl : spot = none := hspot
      refine ⟨⟨x, nm, l⟩, b, off, d, rfl, fun j u hu => ?_, hb, by show nm.size ≤ _; omega, hft, by show l.length ≤ _; omega⟩
      have hu' : cs'[j]? = some u := by rw [e]; exact hu
      have hj : j < 12 := by have := (List.getElem?_eq_some_iff.1 hu').1; omega
      have := hcell j hj
      rw [Deep.add_add, Go.WideShapes.add_plain, ← Nat.add_assoc, hu'] at this
      exact this
    obtain ⟨rs, hrl, hrs⟩ := listed4 len0 each
    refine ⟨rs, ⟨some a, cap0, by rw [hrl], by unfold maxLen; omega, fun k r hr => ?_⟩, ⟨fun r hr => ?_, by omega⟩⟩
    · obtain ⟨b, off, d, e, h1, h2, _⟩ := hrs k r hr
      exact ⟨b, off, d, by rw [e], h1, h2⟩
    · obtain ⟨k, hk, rfl⟩ := List.getElem_of_mem hr
      obtain ⟨_, _, _, _, _, _, h3, h4, h5⟩ := hrs k _ (List.getElem?_eq_getElem hk)
      exact ⟨h3, h4, h5⟩
set_option maxRecDepth 100000 in
theorem open_recsu {H : Type} {enc : TypeId × Value → H} {W : World} {base : Nat} {v : Value} {d : DataW H} {p : List MemPlace} (hv : Value.okWide Tryd.prog W .any base 22 v)
    (h : DataW.Trod enc Tryd.prog W 0 (fun _ => true) true 22 v d p) (hw : Rows.uptoBulk d ≤ 1048576) : ∃ rs, RecsAt W v rs ∧ LGood rs := by
  obtain ⟨a0, len0, cap0, rfl⟩ := okWide_slice Tryd.underlying22 hv
  obtain ⟨fuel, hf⟩ := h
  have hf' : DataW.trod enc Tryd.prog W 0 (fun _ => true) true fuel 22 [Value.slice a0 len0 cap0] = some (d, p) := hf
  exact open_recsk hf' hw
theorem cellsTURN : Tryd.prog.cellsOf 60 = 3 := by kernel_rfl
set_option maxRecDepth 100000 in
theorem open_turn {H : Type} {enc : TypeId × Value → H} {W : World} {fuel : Nat} {cs : List Value} {d : DataW H} {p : List MemPlace} (hf : DataW.trod enc Tryd.prog W 0 (fun _ => true) true fuel 60 cs = some (d, p)) (hlen : cs.length = 3) :
    ∃ at1 kd by1, cs = [.int .i64 at1, .int .i64 kd, .int .i64 by1] ∧ -9223372036854775808 ≤ by1 ∧ by1 ≤ 9223372036854775807 := by
  obtain ⟨xs, k', _, hxy, _, hxl, hfs⟩ := DataW.trod_struct Tryd.underlying60 hf
  match xs, hxl, cs, hlen with
  | [y0, y1, y2], _, [v0, v1, v2], _ =>
    have g0 := hfs 0 _ rfl
    have g1 := hfs 1 _ rfl
    have g2 := hfs 2 _ rfl
    simp [cellsTIk] at g0 g1 g2
    obtain ⟨z0, e0, _⟩ := DataW.trod_int Tryd.underlying3 g0
    obtain ⟨z1, e1, _⟩ := DataW.trod_int Tryd.underlying3 g1
    obtain ⟨z2, e2, _, b2⟩ := DataW.trod_int Tryd.underlying3 g2
    simp only [List.cons.injEq, and_true] at e0 e1 e2
    exact ⟨z0, z1, z2, by simp only [e0, e1, e2], (i64_boundsk b2).1, (i64_boundsk b2).2⟩
set_option maxRecDepth 100000 in
theorem open_turns {H : Type} {enc : TypeId × Value → H} {W : World} {base : Nat} {v : Value} {d : DataW H} {p : List MemPlace} (hv : Value.okWide Tryd.prog W .any base 51 v)
    (h : DataW.Trod enc Tryd.prog W 0 (fun _ => true) true 51 v d p) (hw : Rows.uptoBulk d ≤ 1048576) : ∃ n, TurnsAt W v n := by
  obtain ⟨a0, len0, cap0, rfl⟩ := okWide_slice Tryd.underlying51 hv
  obtain ⟨fuel, hf⟩ := h
  rcases Deep.open_slice Tryd.underlying51 hf with ⟨hcs, _⟩ | ⟨a, len, cap, m, n, D, Pl, hcs, _, hl, hm, hmm, hx, hel⟩
  · simp [Value.cells] at hcs
    obtain ⟨rfl, rfl, rfl⟩ := hcs
    exact ⟨0, none, 0, rfl, by simp, fun k hk => absurd hk (Nat.not_lt_zero _)⟩
  · simp [Value.cells] at hcs
    obtain ⟨rfl, rfl, rfl⟩ := hcs
    simp only [Prod.mk.injEq] at hx
    have hcnt : len0 ≤ 1048576 := by
      rw [hx.1] at hw
      simp only [Rows.uptoBulk] at hw
      have := bulk_count ((List.range len0).map D)
      simp only [List.length_map, List.length_range] at this
      omega
    refine ⟨len0, some a, cap0, rfl, hcnt, fun k hk => ?_⟩
    have hkm : k < m := by rw [hmm]; simp; omega
    have hspot : a.spot = none := by
      obtain ⟨cs0, h10, _⟩ := hel 0 (by omega)
      rw [cellsTURN] at h10
      obtain ⟨_, hl0, hc0⟩ := World.cells?_some h10
      have r0 := hc0 0 (by omega)
      rw [List.getElem?_eq_getElem (show 0 < cs0.length by omega)] at r0
      simpa [Addr.add] using World.cell?_spot r0
    obtain ⟨cs', h1, h2⟩ := hel k hkm
    rw [cellsTURN] at h1
    obtain ⟨_, hlen, hcell⟩ := World.cells?_some h1
    obtain ⟨at1, kd, by1, e, hb1, hb2⟩ := open_turn h2 hlen
    obtain ⟨b, off, spot⟩ := a
    obtain rfl : spot = none := hspot
    refine ⟨b, off, at1, kd, by1, rfl, fun j u hu => ?_, hb1, hb2⟩
    rw [← e] at hu
    have hj : j < 3 := by have := (List.getElem?_eq_some_iff.1 hu).1; omega
    have := hcell j hj
    rw [Deep.add_add, Go.WideShapes.add_plain, ← Nat.add_assoc, hu] at this
    exact this
end Go.Proofs.YtjhgjlnckidjkaaDoor
