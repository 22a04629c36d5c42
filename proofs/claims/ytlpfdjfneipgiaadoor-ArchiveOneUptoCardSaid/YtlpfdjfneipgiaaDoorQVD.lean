import Derived.Test.YtlpfdjfneipgiaaDoorQVC
/-
  ArchiveOne: the walk.
-/
namespace Go.Proofs.YtlpfdjfneipgiaaDoor
open Go Go.RowKit
open Wb

theorem own_but {B : Nat} {w w' : World} {d : Value} {l : List Nat} {t : Nat} {ty : TypeId} {C : List Value} (h : Own B w d l) (L : LB w t ty C) (h2 : ty ≠ 5) (ho : ExT t w w') : Own B w' d l := own_keptB h fun g e => ho g (by rintro rfl; obtain ⟨cs, z, h9⟩ := own_typed h g e; rw [L] at h9; simp at h9; exact h2 h9.2.1) (own_block h g e).2
theorem rcs_ge : ∀ rs : List Rec, rs.length ≤ (Ar.rcs recC rs).length
  | [] => Nat.zero_le _
  | r :: rs => by
    have ih := rcs_ge rs
    have hp := Ar.fr_pos (Ar.rcb recC r)
    have e : Ar.rcs recC (r :: rs) = fr (Ar.rcb recC r) ++ Ar.rcs recC rs := by
      unfold Ar.rcs
      rw [List.flatMap_cons]
    rw [e, List.length_append, List.length_cons]
    omega
theorem absI (z : Int) (h : -9223372036854775808 ≤ z ∧ z ≤ 9223372036854775807) : ∃ n : Nat, (n : Int) ≤ 9223372036854775807 ∧ (z < 0 → -(z + 1) = (n : Int)) ∧ (¬ z < 0 → z = (n : Int)) := by
  by_cases hz : z < 0
  · exact ⟨(-(z + 1)).toNat, by omega, fun _ => by omega, fun h => absurd hz h⟩
  · exact ⟨z.toNat, by omega, fun h => absurd h hz, fun _ => by omega⟩
set_option maxRecDepth 100000 in
set_option maxHeartbeats 16000000 in
theorem archiveOne_walk (top kk : Int) (v : Value) (rs : List Rec) (bv : Value) (bl : List Nat) (w : World) (ht : -9223372036854775808 ≤ top ∧ top ≤ 9223372036854775807) (hkk : -9223372036854775808 ≤ kk ∧ kk ≤ 9223372036854775807) (hR : RecsAt w v rs) (hcap : ∀ ao n cap, v = .slice ao n cap → n ≤ cap ∧ cap ≤ maxLen) (hg : LGood rs) (hb : Bs w bv bl) (hT : Tab w) (hTs : Tabs w) :
    Calls Tryd.prog 3 #[.int .i64 top, v, bv, .int .i64 kk] w fun e w' => e = .returned (.bool true) ∧ Below w.heap.size w w' := by
  have hin := infoR12
  have HIR : Hid ((Tryd.prog.info? 28).map (·.size) = some 12) := infoRec
  obtain ⟨tn, htn, ht1, ht2⟩ := absI top ht
  obtain ⟨kn, hkn, hk1, hk2⟩ := absI kk hkk
  have HAT : Hid ((top < 0 → -(top + 1) = (tn : Int)) ∧ (0 ≤ top → top = (tn : Int)) ∧ (kk < 0 → -(kk + 1) = (kn : Int)) ∧ (0 ≤ kk → kk = (kn : Int)) ∧ -9223372036854775808 ≤ top ∧ -9223372036854775808 ≤ kk) := ⟨ht1, fun h => ht2 (by omega), hk1, fun h => hk2 (by omega), ht.1, hkk.1⟩
  clear ht1 ht2 hk1 hk2 ht hkk
  have HTB : Hid (∀ W, Below w.heap.size w W → Tab W ∧ Tabs W) := fun W hW => ⟨hT.kept hW, hTs.kept hW⟩
  have HAW : Hid (Calls Tryd.prog 4 #[] w fun e w' => e = .returned (.bool true) ∧ Below w.heap.size w w') := arawake_any w hT hTs.lets hTs.tags
  have HCR : Hid (∀ W, Below w.heap.size w W → Calls Tryd.prog 5 #[v] W fun e w' => ∃ v' ps, e = .returned v' ∧ Rws W.heap.size w' v' ps ∧ ps.map Prod.fst = rs.take 120 ∧ Below W.heap.size W w') := fun W hW => arcutr_any v rs W (hR.kept hW) hcap hg
  have HCB : Hid (∀ W, Below w.heap.size w W → Calls Tryd.prog 10 #[bv] W fun e w' => ∃ a c, ∃ m : Nat, e = .returned (.slice a m c) ∧ Own W.heap.size w' (.slice a m c) (bl.take 262144) ∧ Below W.heap.size W w') := fun W hW => arcutb_any bv bl W (hb.kept hW)
  have HPK : Hid (∀ (t : Nat) (qs : List Rec) (u : Value) (W : World), Below w.heap.size w W → RecsAt W u qs → (∀ r ∈ qs, r.good) → t ≤ 9223372036854775807 → qs.length ≤ 10000000 → (Ar.pack recC t qs).length ≤ 8388608 → Calls Tryd.prog 7 #[.agg #[.int .i64 (t : Int), u]] W fun e w' => ∃ a c, ∃ m : Nat, e = .returned (.tuple #[.slice a m c, .int .i64 0]) ∧ Own W.heap.size w' (.slice a m c) (Ar.pack recC t qs) ∧ Below W.heap.size W w') := fun t qs u W hW h1 h2 h3 h4 h5 => arpack_ok t qs u W h1 h2 h3 h4 h5 (hT.kept hW) (hTs.kept hW).lets (hTs.kept hW).tags
  have HRD : Hid (∀ (u : Value) (l : List Nat) (W : World), Below w.heap.size w W → Bs W u l → Calls Tryd.prog 8 #[u] W fun e w' => RdPost (Ar.read recC l) W e w') := fun u l W hW h => arread_any u l W h (hT.kept hW) (hTs.kept hW).lets (hTs.kept hW).tags
  have HR1 : Hid (∀ r ∈ rs.take 120, r.nm.size ≤ 1048576 ∧ r.x.fit ∧ ok r.l) := fun r hr => ⟨(hg.each r (List.mem_of_mem_take hr)).1, (hg.each r (List.mem_of_mem_take hr)).2.1, recsAt_ok hR r (List.mem_of_mem_take hr)⟩
  have HRL : Hid ((rs.take 120).length ≤ 120) := by show _ ≤ _; rw [List.length_take]; omega
  have HOB : Hid (ok (bl.take 262144)) := fun x hx => hb.good x (List.mem_of_mem_take hx)
  obtain ⟨ao, cap, rfl, -, -⟩ := hR
  obtain ⟨ab, cb, rfl, -⟩ := hb.shape
  generalize rs.take 120 = R1 at *
  clear hcap hg hb hT hTs
  go_enter Tryd.func3, Tryd.ntmps3
  go_wp2_with fail
  refine HAW.out.mono ?_
  rintro e w1 ⟨rfl, b1⟩
  have HB1 : Hid (Below w.heap.size w w1) := b1
  clear b1 HAW
  obtain ⟨tb, htb⟩ : ∃ tb, decide (top < 0) = tb := ⟨_, rfl⟩
  go_upto_if 20 with fail
  go_cut [0] from 21 to 23 (fun s wx => s = .int .i64 (tn : Int) ∧ w1 = wx)
  case first =>
    cases tb with
    | true =>
      have hz : top < 0 := of_decide_eq_true htb
      have e1 := HAT.out.1 hz
      have e0 := HAT.out.2.2.2.2.1
      have hw1 : IntKind.i64.wrap (top + 1) = top + 1 := IntWalk.i64_in _ (by omega)
      have hw2 : IntKind.i64.wrap (-(top + 1)) = -(top + 1) := IntWalk.i64_in _ (by omega)
      have HE : Hid (-(top + 1) = (tn : Int)) := e1
      clear e1 e0 hz htb
      go_wp2_with fail
      go_meet
      refine ⟨?_, rfl⟩
      first | rw [HE.out] | (congr 1; have := HE.out; omega)
    | false =>
      have hz : ¬ top < 0 := of_decide_eq_false htb
      have HE : Hid (top = (tn : Int)) := HAT.out.2.1 (by omega)
      clear hz htb
      go_wp2_with fail
      go_meet
      exact ⟨by rw [HE.out], rfl⟩
  case rest =>
    obtain ⟨rfl, rfl⟩ := hcut
    clear htb
    have hrl := HRL.out
    go_wp2_with fail
    refine (HCR.out _ HB1.out).mono ?_
    rintro e w2 ⟨v2, ps2, rfl, o2, m2, b2⟩
    have HC2 : Hid (RecsAt w2 v2 R1 ∧ Below w.heap.size w w2) := ⟨m2 ▸ o2.recs.recsAt, andThen HB1.out b2⟩
    obtain ⟨av, cv, e2, -, -⟩ := id HC2.out.1
    subst e2
    clear o2 b2 m2 HCR HB1
    go_wp2_with fail
    go_loopw [9, 10] (fun o i wr => ∃ (k : Nat) (ps : List (Rec × Value)), k ≤ R1.length ∧ i = .int .i64 (k : Int) ∧ Outs w2.heap.size wr o ps ∧ ps.map Prod.fst = (R1.take k).filter okR ∧ Below w2.heap.size w2 wr) (fun _ i _ => R1.length - (intOf i).toNat)
    case atStart => exact ⟨0, [], Nat.zero_le _, rfl, Outs.nil _ _, rfl, Below.refl _ _⟩
    case round =>
      obtain ⟨k, ps, hk, rfl, hown, hmap, hbel⟩ := hrel
      by_cases hlt : k < R1.length
      · obtain ⟨r, hr⟩ : ∃ r, R1[k]? = some r := ⟨R1[k], List.getElem?_eq_getElem hlt⟩
        have hbw : Below w.heap.size w wr := HC2.out.2.trans (hbel.mono HC2.out.2.size)
        obtain ⟨ao', cap', e', _, hcr⟩ := HC2.out.1
        simp only [Value.slice.injEq] at e'
        obtain ⟨rfl, _, rfl⟩ := e'
        obtain ⟨b, off, d, rfl, hrg, hbs⟩ := hcr k r hr
        have hgr := HR1.out r (List.mem_of_getElem? hr)
        have HCK : Hid (∀ W, Below wr.heap.size wr W → Calls Tryd.prog 6 #[rv r.x r.nm d] W fun e w' => e = .returned (.int .i64 (chk r.x r.nm r.l)) ∧ Below W.heap.size W w') := fun W hW => refcheck_any r.x r.nm d r.l W ((hbs.kept hbel).kept hW) (HTB.out _ (andThen hbw hW)).2.rlets (HTB.out _ (andThen hbw hW)).2.rows hgr.2.1.c (by omega)
        have hof : ∀ g, w2.heap.size ≤ g → Off g d r.l := fun g hg => off_of hbs g hg
        obtain ⟨ar, cr, rfl, _⟩ := hbs.shape
        have HR0 : Hid (∀ W, Below wr.heap.size wr W → W.rangeAt b (off + k * 12) [.int .i64 r.x.v, .int .i64 r.x.k, .int .i64 r.x.s, .int .i64 r.x.p, .int .i64 r.x.t, .int .i64 r.x.a, .int .i64 r.x.l, .int .i64 r.x.c, .int .i64 r.x.n, .int .i64 r.x.i, .string r.nm, .slice ar r.l.length cr]) := fun W hW => range_kept (range_kept hrg hbel) hW
        have HBS : Hid (Bs wr (.slice ar r.l.length cr) r.l ∧ ∀ g, u9.ownBlock = some g → Off g (.slice ar r.l.length cr) r.l) := ⟨hbs.kept hbel, fun g e => hof g (World.ownsRow.lt hown.1 g e).1⟩
        have HTK : Hid ((R1.take (k + 1)).filter okR = (R1.take k).filter okR ++ (if okR r = true then [r] else [])) := filt_snoc R1 k r hr
        have HMP : Hid (ps.map Prod.fst = (R1.take k).filter okR ∧ ps.length ≤ 120) := ⟨hmap, by
          have e1 := congrArg List.length hmap
          have e2 := List.length_filter_le okR (R1.take k)
          rw [List.length_map] at e1
          rw [List.length_take] at e2
          have := HRL.out
          omega⟩
        have HOW : Hid (Outs w2.heap.size wr u9 ps ∧ Below w2.heap.size w2 wr) := ⟨hown, hbel⟩
        clear hcr hrg hbs hof hown hbel hgr hmap hr hbw
        unfold rv at *
        by_cases hz : chk r.x r.nm r.l = 0
        · have HOK : Hid (okR r = true) := decide_eq_true hz
          rw [hz] at HCK
          clear hz
          go_wp2_with (refine wpList_load_mid rfl 28 _ rfl b (off + k * 12) rfl [.int .i64 r.x.v, .int .i64 r.x.k, .int .i64 r.x.s, .int .i64 r.x.p, .int .i64 r.x.t, .int .i64 r.x.a, .int .i64 r.x.l, .int .i64 r.x.c, .int .i64 r.x.n, .int .i64 r.x.i, .string r.nm, .slice ar r.l.length cr] _ (HR0.out _ (Below.refl _ _)) Tryd.underlying28 rfl HIR.out ?_)
          refine (HCK.out _ (Below.refl _ _)).mono ?_
          rintro e w3 ⟨rfl, b3⟩
          have H3 : Hid (∀ o, Outs w2.heap.size (w3.alloc o) u9 ps ∧ Bs (w3.alloc o) (.slice ar r.l.length cr) r.l ∧ Below w2.heap.size w2 (w3.alloc o) ∧ w2.heap.size ≤ (w3.alloc o).heap.size) := fun o => ⟨(HOW.out.1.kept b3).kept (up0 _ _), (HBS.out.1.kept b3).alloc _, up (andThen HOW.out.2 b3) _, (up (andThen HOW.out.2 b3) _).size⟩
          have HRB : Hid (w3.rangeAt b (off + k * 12) [.int .i64 r.x.v, .int .i64 r.x.k, .int .i64 r.x.s, .int .i64 r.x.p, .int .i64 r.x.t, .int .i64 r.x.a, .int .i64 r.x.l, .int .i64 r.x.c, .int .i64 r.x.n, .int .i64 r.x.i, .string r.nm, .slice ar r.l.length cr]) := HR0.out _ b3
          have HR3 : Hid ((w3.alloc (.cells #[.int .i64 r.x.v, .int .i64 r.x.k, .int .i64 r.x.s, .int .i64 r.x.p, .int .i64 r.x.t, .int .i64 r.x.a, .int .i64 r.x.l, .int .i64 r.x.c, .int .i64 r.x.n, .int .i64 r.x.i, .string r.nm, .slice ar r.l.length cr] 28)).rangeAt w3.heap.size 0 [.int .i64 r.x.v, .int .i64 r.x.k, .int .i64 r.x.s, .int .i64 r.x.p, .int .i64 r.x.t, .int .i64 r.x.a, .int .i64 r.x.l, .int .i64 r.x.c, .int .i64 r.x.n, .int .i64 r.x.i, .string r.nm, .slice ar r.l.length cr]) := new_range w3 #[.int .i64 r.x.v, .int .i64 r.x.k, .int .i64 r.x.s, .int .i64 r.x.p, .int .i64 r.x.t, .int .i64 r.x.a, .int .i64 r.x.l, .int .i64 r.x.c, .int .i64 r.x.n, .int .i64 r.x.i, .string r.nm, .slice ar r.l.length cr]
          have hln := HMP.out.2
          clear b3 HCK HR0 HOW
          go_wp2_with (first
            | (refine wpList_load_mid rfl 28 _ rfl b (off + k * 12) rfl [.int .i64 r.x.v, .int .i64 r.x.k, .int .i64 r.x.s, .int .i64 r.x.p, .int .i64 r.x.t, .int .i64 r.x.a, .int .i64 r.x.l, .int .i64 r.x.c, .int .i64 r.x.n, .int .i64 r.x.i, .string r.nm, .slice ar r.l.length cr] _ HRB.out Tryd.underlying28 rfl HIR.out ?_)
            | (at_builtin; refine wpList_append_rec _ rfl (.tmp 38) (.tmp 43) 22 rfl w2.heap.size hin Tryd.underlying22 _ ps (r, .slice ar r.l.length cr) rfl (H3.out _).1 _ rfl HR3.out rfl (H3.out _).2.1 HBS.out.2 (by omega) (H3.out _).2.2.2 ?_))
          intro v4 w4 o4 b4 _
          have R4 : Hid (Outs w2.heap.size w4 v4 (ps ++ [(r, .slice ar r.l.length cr)]) ∧ Below w2.heap.size w2 w4) := ⟨o4, (H3.out _).2.2.1.trans b4⟩
          clear o4 b4 H3 HRB HR3 hln HBS
          go_wp2_with fail
          go_roundw
          case rel => exact ⟨k + 1, ps ++ [(r, .slice ar r.l.length cr)], by omega, by go_num, R4.out.1, by rw [HTK.out, List.map_append, HMP.out.1, if_pos HOK.out]; rfl, R4.out.2⟩
          case measure => simp [intOf]; omega
        · have HOK : Hid (¬ okR r = true) := by
            intro h9
            exact hz (of_decide_eq_true h9)
          have hzb : (chk r.x r.nm r.l == 0) = false := by simp [hz]
          generalize chk r.x r.nm r.l = z at *
          clear hz
          go_wp2_with (refine wpList_load_mid rfl 28 _ rfl b (off + k * 12) rfl [.int .i64 r.x.v, .int .i64 r.x.k, .int .i64 r.x.s, .int .i64 r.x.p, .int .i64 r.x.t, .int .i64 r.x.a, .int .i64 r.x.l, .int .i64 r.x.c, .int .i64 r.x.n, .int .i64 r.x.i, .string r.nm, .slice ar r.l.length cr] _ (HR0.out _ (Below.refl _ _)) Tryd.underlying28 rfl HIR.out ?_)
          refine (HCK.out _ (Below.refl _ _)).mono ?_
          rintro e w3 ⟨rfl, b3⟩
          have R4 : Hid (Outs w2.heap.size w3 u9 ps ∧ Below w2.heap.size w2 w3) := ⟨HOW.out.1.kept b3, andThen HOW.out.2 b3⟩
          clear b3 HCK HR0 HOW HBS
          go_wp2_with fail
          go_roundw
          case rel => exact ⟨k + 1, ps, by omega, by go_num, R4.out.1, by rw [HTK.out, HMP.out.1, if_neg HOK.out, List.append_nil], R4.out.2⟩
          case measure => simp [intOf]; omega
      · obtain rfl : k = R1.length := by omega
        rw [List.take_length] at hmap
        have HG : Hid (RecsAt wr u9 (R1.filter okR) ∧ Below w.heap.size w wr) := ⟨hmap ▸ hown.recsAt, HC2.out.2.trans (hbel.mono HC2.out.2.size)⟩
        have HGG : Hid (∀ r ∈ R1.filter okR, r.good) := filt_good (fun r hr => (HR1.out r hr).2.1) (fun r hr => (HR1.out r hr).2.2)
        have HGL : Hid ((R1.filter okR).length ≤ 120) := Nat.le_trans (List.length_filter_le okR R1) HRL.out
        obtain ⟨ag, cg, e3, -, -⟩ := id HG.out.1
        generalize R1.filter okR = G at *
        subst e3
        clear hown hmap hbel hk hlt HC2 HR1 HRL
        have HPL : Hid ((Ar.pack recC tn G).length ≤ 8388608 ∧ 0 < (Ar.pack recC tn G).length ∧ (ok (Ar.pack recC tn G) → ∀ q : Nat, q < (Ar.pack recC tn G).length → Ar.read recC ((Ar.pack recC tn G).take q) = none) ∧ Ar.read recC (Ar.pack recC tn G) = some (tn, G)) := by
          have h1 := pack_small tn G (by omega) HGG.out HGL.out
          have h2 : G.length < 18446744073709551616 := by have := HGL.out; omega
          exact ⟨h1, pack_pos tn G, fun hok q hq => Ar.read_part recC tn G q HGG.out (by omega) h2 h1 hok hq, read_pk tn G HGG.out (by omega) h2 h1⟩
        go_wp2_with fail
        refine (HPK.out tn G _ wr HG.out.2 HG.out.1 HGG.out (by omega) (by have := HGL.out; omega) HPL.out.1).mono ?_
        rintro e w5 ⟨a5, c5, m5, rfl, o5, b5⟩
        obtain ⟨P, hP⟩ : ∃ P, Ar.pack recC tn G = P := ⟨_, rfl⟩
        rw [hP] at o5 HPL
        have hmm : m5 = P.length := by
          obtain ⟨_, _, e, -⟩ := o5.bs.shape
          simp only [Value.slice.injEq] at e
          exact e.2.1
        have hc5 : m5 ≤ c5 ∧ c5 ≤ 9223372036854775807 := by
          obtain ⟨_, _, e, h1, h2, -⟩ := o5.bs.shape
          simp only [Value.slice.injEq] at e
          obtain ⟨-, -, rfl⟩ := e
          unfold maxLen at h2
          omega
        have HPP : Hid (m5 = P.length ∧ (∀ q : Nat, q < P.length → Ar.read recC (P.take q) = none) ∧ Ar.read recC P = some (tn, G)) := ⟨hmm, HPL.out.2.2.1 o5.good, HPL.out.2.2.2⟩
        have hm5 : 0 < m5 ∧ m5 ≤ 8388608 := by have := HPL.out.1; have := HPL.out.2.1; omega
        obtain ⟨hm51, hm52⟩ := hm5
        obtain ⟨hc51, hc52⟩ := hc5
        have d5 : ((m5 : Int) == 0) = false := by simp; omega
        have K5 : Hid (Bs w5 (.slice a5 m5 c5) P ∧ RecsAt w5 (.slice ag G.length cg) G ∧ Below w.heap.size w w5) := ⟨o5.bs, HG.out.1.kept b5, andThen HG.out.2 b5⟩
        clear o5 b5 HG HGG HPL hP hmm
        go_wp2_with fail
        refine (HRD.out _ P w5 K5.out.2.2 K5.out.1).mono ?_
        intro e w6 hp
        rw [HPP.out.2.2] at hp
        obtain ⟨b6, vr6, ps6, rfl, o6, hm6⟩ := hp
        obtain ⟨a6, c6, e6⟩ := o6.shape
        have hl6 : ps6.length = G.length := by
          have := congrArg List.length hm6
          simpa using this
        rw [hl6] at e6
        subst e6
        have K6 : Hid (∀ o, Bs (w6.alloc o) (.slice a5 m5 c5) P ∧ RecsAt (w6.alloc o) (.slice ag G.length cg) G ∧ RecsAt (w6.alloc o) (.slice a6 G.length c6) G ∧ Below w.heap.size w (w6.alloc o)) := fun o => ⟨(K5.out.1.kept b6).alloc _, (K5.out.2.1.kept b6).kept (up0 _ _), (hm6 ▸ o6.outs.recsAt : RecsAt w6 _ G).kept (up0 _ _), up (andThen K5.out.2.2 b6) _⟩
        have L6 : Hid (LB (w6.alloc (.cells #[.int .i64 (tn : Int), .slice a6 G.length c6] 33)) w6.heap.size 33 [.int .i64 (tn : Int), .slice a6 G.length c6]) := lb_new _ _ _
        have y0 := L6.out.cell 0 _ rfl
        have y1 := L6.out.cell 1 _ rfl
        have d6 : ((tn : Int) != (tn : Int)) = false := by simp
        have HW6 : Hid (w.heap.size ≤ w6.heap.size) := (andThen K5.out.2.2 b6).size
        clear b6 o6 hm6 hl6 K5
        go_wp2_with fail
        refine (sameAll3_ok _ _ G _ (K6.out _).2.2.1 (K6.out _).2.1).mono ?_
        rintro e w7 ⟨rfl, b7⟩
        have K7 : Hid (Bs w7 (.slice a5 m5 c5) P ∧ LB w7 w6.heap.size 33 [.int .i64 (tn : Int), .slice a6 G.length c6] ∧ Below w.heap.size w w7) := ⟨(K6.out _).1.kept b7, L6.out.kept b7, andThen (K6.out _).2.2.2 b7⟩
        clear b7 K6 L6 y0 y1
        obtain ⟨kb, hkb⟩ : ∃ kb, decide (kk < 0) = kb := ⟨_, rfl⟩
        go_upto_if 81 with fail
        go_cut [3] from 82 to 84 (fun s wx => s = .int .i64 (kn : Int) ∧ w7 = wx)
        case first =>
          cases kb with
          | true =>
            have hz : kk < 0 := of_decide_eq_true hkb
            have e1 := HAT.out.2.2.1 hz
            have e0 := HAT.out.2.2.2.2.2
            have hw1 : IntKind.i64.wrap (kk + 1) = kk + 1 := IntWalk.i64_in _ (by omega)
            have hw2 : IntKind.i64.wrap (-(kk + 1)) = -(kk + 1) := IntWalk.i64_in _ (by omega)
            have HE : Hid (-(kk + 1) = (kn : Int)) := e1
            clear e1 e0 hz hkb
            go_wp2_with fail
            go_meet
            refine ⟨?_, rfl⟩
            first | rw [HE.out] | (congr 1; have := HE.out; omega)
          | false =>
            have hz : ¬ kk < 0 := of_decide_eq_false hkb
            have HE : Hid (kk = (kn : Int)) := HAT.out.2.2.2.1 (by omega)
            clear hz hkb
            go_wp2_with fail
            go_meet
            exact ⟨by rw [HE.out], rfl⟩
        case rest =>
          obtain ⟨rfl, rfl⟩ := hcut
          clear hkb
          have hq0 : kn % m5 < m5 := Nat.mod_lt _ hm51
          have hq1 : ((kn : Int) % (m5 : Int) ≤ (c5 : Int)) = True := by
            simp only [eq_iff_iff, iff_true]
            omega
          have HQ : Hid (Bs w7 (.slice a5 (kn % m5) c5) (P.take (kn % m5)) ∧ Ar.read recC (P.take (kn % m5)) = none) := ⟨bs_take (HPP.out.1 ▸ K7.out.1 : Bs w7 (.slice a5 P.length c5) P) _ (by have := HPP.out.1; omega), HPP.out.2.1 _ (by have := HPP.out.1; omega)⟩
          go_wp2_with fail
          refine (HRD.out _ _ w7 K7.out.2.2 HQ.out.1).mono ?_
          intro e w8 hp
          rw [HQ.out.2] at hp
          obtain ⟨b8, z8, t8, hz8, rfl⟩ := hp
          have dz : (z8 == 0) = false := by simp [hz8]
          have K8 : Hid (∀ o, LB (w8.alloc o) w6.heap.size 33 [.int .i64 (tn : Int), .slice a6 G.length c6] ∧ Below w.heap.size w (w8.alloc o)) := fun o => ⟨(K7.out.2.1.kept b8).kept (up0 _ _), up (andThen K7.out.2.2 b8) _⟩
          have L8 : Hid (LB (w8.alloc (.cells #[.int .i64 0, .slice none 0 0] 33)) w8.heap.size 33 [.int .i64 0, .slice none 0 0]) := lb_new _ _ _
          have y0 := L8.out.cell 0 _ rfl
          have y1 := L8.out.cell 1 _ rfl
          clear b8 K7 HQ hq0 hq1 HPP
          go_wp2_with fail
          refine (HCB.out _ (K8.out _).2).mono ?_
          rintro e w9 ⟨a9, c9, m9, rfl, o9, b9⟩
          have K9 : Hid (LB w9 w6.heap.size 33 [.int .i64 (tn : Int), .slice a6 G.length c6] ∧ (∃ B, Own B w9 (.slice a9 m9 c9) (bl.take 262144)) ∧ Below w.heap.size w w9) := ⟨(K8.out _).1.kept b9, ⟨_, o9⟩, andThen (K8.out _).2 b9⟩
          obtain ⟨Q, hQ⟩ : ∃ Q, bl.take 262144 = Q := ⟨_, rfl⟩
          rw [hQ] at K9 HOB
          clear b9 o9 K8 L8 y0 y1 hQ HCB dz hz8
          go_wp2_with fail
          obtain ⟨BQ, oQ⟩ := K9.out.2.1
          refine (HRD.out _ Q w9 K9.out.2.2 oQ.bs).mono ?_
          intro e wa hp
          cases hrd : Ar.read recC Q with
          | none =>
            rw [hrd] at hp
            obtain ⟨ba, za, ta, hza, rfl⟩ := hp
            have dza : (za != 0) = true := by simp [hza]
            have La := K9.out.1.kept ba
            have x0 := La.cell 0 _ rfl
            have x1 := La.cell 1 _ rfl
            have f0 := La.free 0
            have f1 := La.free 1
            have HW : Hid (∃ W, W = (wa.setCell ⟨w6.heap.size, 0, none⟩ (.int .i64 0)).setCell ⟨w6.heap.size, 1, none⟩ (.slice none 0 0) ∧ LB W w6.heap.size 33 [.int .i64 0, .slice none 0 0] ∧ Below w.heap.size w W) := ⟨_, rfl, (La.set 0 _).set 1 _, Below.setCell (Below.setCell (andThen K9.out.2.2 ba) HW6.out _) HW6.out _⟩
            clear La ba K9 oQ
            go_upto_region 25 with fail
            obtain ⟨W, hW, LW, BW⟩ := HW.out
            rw [← hW]
            have v0 := LW.cell 0 _ rfl
            have v1 := LW.cell 1 _ rfl
            have HBW : Hid (Below w.heap.size w W) := BW
            clear hW LW BW HW x0 x1 f0 f1
            go_wp2_with fail
            go_ret
            exact ⟨rfl, HBW.out⟩
          | some tr =>
            obtain ⟨t2, rs2⟩ := tr
            rw [hrd] at hp
            obtain ⟨ba, vra, psa, rfl, oa, hma⟩ := hp
            obtain ⟨ep, eg, et, en, el⟩ := Ar.read_there recC HOB.out hrd
            obtain ⟨aa, ca, ea⟩ := oa.shape
            generalize psa.length = na at ea
            subst ea
            have hbox := K9.out.1.kept ba
            have x0 := hbox.cell 0 _ rfl
            have x1 := hbox.cell 1 _ rfl
            have f0 := hbox.free 0
            have f1 := hbox.free 1
            have HW : Hid (∃ W, W = (wa.setCell ⟨w6.heap.size, 0, none⟩ (.int .i64 (t2 : Int))).setCell ⟨w6.heap.size, 1, none⟩ (.slice aa na ca) ∧ LB W w6.heap.size 33 [.int .i64 (t2 : Int), .slice aa na ca] ∧ RecsAt W (.slice aa na ca) rs2 ∧ Bs W (.slice a9 m9 c9) Q ∧ Below w.heap.size w W) := by
              have hx : ExT w6.heap.size wa ((wa.setCell ⟨w6.heap.size, 0, none⟩ (.int .i64 (t2 : Int))).setCell ⟨w6.heap.size, 1, none⟩ (.slice aa na ca)) := fun b hb _ => (set_other _ _ _ _ hb).trans (set_other _ _ _ _ hb)
              exact ⟨_, rfl, (hbox.set 0 _).set 1 _, hma ▸ (oa.but hbox (by decide) (by decide) hx).outs.recsAt, (own_but (oQ.kept ba) hbox (by decide) hx).bs, Below.setCell (Below.setCell (andThen K9.out.2.2 ba) HW6.out _) HW6.out _⟩
            have HP2 : Hid ((∀ r ∈ rs2, r.good) ∧ t2 ≤ 9223372036854775807 ∧ rs2.length ≤ 10000000 ∧ (Ar.pack recC t2 rs2).length ≤ 8388608 ∧ Ar.pack recC t2 rs2 = Q) := ⟨eg, et, by
              have h1 := rcs_ge rs2
              have h2 := pack_len t2 rs2 rs2.length
              rw [List.take_length, List.length_append, ep] at h2
              omega, by rw [ep]; exact el, ep⟩
            clear hbox ba K9 oQ oa hma ep eg et en el hrd
            go_upto_region 25 with fail
            obtain ⟨W, hW, LW, RW, QW, BW⟩ := HW.out
            rw [← hW]
            have v0 := LW.cell 0 _ rfl
            have v1 := LW.cell 1 _ rfl
            have HBW : Hid (RecsAt W (.slice aa na ca) rs2 ∧ Bs W (.slice a9 m9 c9) Q ∧ Below w.heap.size w W) := ⟨RW, QW, BW⟩
            clear hW LW RW QW BW HW x0 x1 f0 f1
            go_wp2_with fail
            refine (HPK.out t2 rs2 _ W HBW.out.2.2 HBW.out.1 HP2.out.1 HP2.out.2.1 HP2.out.2.2.1 HP2.out.2.2.2.1).mono ?_
            rintro e wb ⟨ab2, cb2, mb2, rfl, ob, bb⟩
            rw [HP2.out.2.2.2.2] at ob
            have HSB : Hid (Calls Tryd.prog 11 #[.slice ab2 mb2 cb2, .slice a9 m9 c9] wb fun e w' => e = .returned (.bool true) ∧ Below w.heap.size w w') := (arsameb_any _ _ Q Q wb ob.bs (HBW.out.2.1.kept bb)).mono fun e w' ⟨he, b⟩ => ⟨by rw [he, decide_eq_true rfl], andThen (andThen HBW.out.2.2 bb) b⟩
            clear ob bb HBW HP2
            go_wp2_with fail
            refine HSB.out.mono ?_
            rintro e wd ⟨rfl, bd⟩
            go_wp2_with fail
            go_ret
            exact ⟨rfl, bd⟩
end Go.Proofs.YtlpfdjfneipgiaaDoor
