/-
  RewriteNobody: the walk.
-/
import Derived.Test.YtfbldghhmjenlaaGreatDoorRn3
namespace Go.Proofs.YtfbldghhmjenlaaGreatDoor
open Go Go.RowKit Go.Extern.Stop Go.Stop Go.Extern
open Wb

theorem i64_bounds {n : Int} (h : (Lit.int .i64 n).wf = true) : -9223372036854775808 ≤ n ∧ n ≤ 9223372036854775807 := by
  have e : IntKind.i64.min = -9223372036854775808 := by decide
  simp [Lit.wf] at h
  omega
/-- what stands when the three answers are there -/
structure NB (w W : World) (g1 g2 g3 b1 b2 ba bn : Nat) : Prop where
  f1 : LB W g1 37 (flt ⟨#[99, 111, 109, 112, 97, 99, 116]⟩)
  f2 : LB W g2 37 (flt ⟨#[117, 112, 103, 114, 97, 100, 101]⟩)
  f3 : LB W g3 37 (flt ⟨#[100, 101, 97, 100]⟩)
  r1 : LB W b1 23 rp7
  r2 : LB W b2 23 rp7
  ra : LB W ba 32 [.int .i64 1, .string ⟨#[99, 111, 109, 112, 97, 99, 116]⟩, .string ⟨#[]⟩, .string ⟨#[]⟩, .int .i64 0, .int .i64 0, .int .i64 1, .string ⟨#[117, 112, 103, 114, 97, 100, 101]⟩, .string ⟨#[]⟩, .string ⟨#[]⟩, .int .i64 0, .int .i64 0, .int .i64 1, .string ⟨#[100, 101, 97, 100]⟩, .string ⟨#[]⟩, .string ⟨#[]⟩, .int .i64 0, .int .i64 0]
  rn : LB W bn 23 rp7
  bl : Below w.heap.size w W
theorem NB.up {w W W' : World} {g1 g2 g3 b1 b2 ba bn : Nat} (h : NB w W g1 g2 g3 b1 b2 ba bn) (hb : Below W.heap.size W W') : NB w W' g1 g2 g3 b1 b2 ba bn :=
  ⟨h.f1.kept hb, h.f2.kept hb, h.f3.kept hb, h.r1.kept hb, h.r2.kept hb, h.ra.kept hb, h.rn.kept hb, andThen h.bl hb⟩
theorem NB.a0 {w W : World} {g1 g2 g3 b1 b2 ba bn : Nat} (h : NB w W g1 g2 g3 b1 b2 ba bn) : W.rangeAt ba 0 (ans ⟨#[99, 111, 109, 112, 97, 99, 116]⟩) := fun j v hv => by
  have hj : j < 6 := (List.getElem?_eq_some_iff.1 hv).1
  rw [Nat.zero_add]
  refine h.ra.cell j v ?_
  match j, hj, hv with
  | 0, _, hv | 1, _, hv | 2, _, hv | 3, _, hv | 4, _, hv | 5, _, hv => exact hv
theorem NB.a1 {w W : World} {g1 g2 g3 b1 b2 ba bn : Nat} (h : NB w W g1 g2 g3 b1 b2 ba bn) : W.rangeAt ba 6 (ans ⟨#[117, 112, 103, 114, 97, 100, 101]⟩) := fun j v hv => by
  have hj : j < 6 := (List.getElem?_eq_some_iff.1 hv).1
  refine h.ra.cell (6 + j) v ?_
  match j, hj, hv with
  | 0, _, hv | 1, _, hv | 2, _, hv | 3, _, hv | 4, _, hv | 5, _, hv => exact hv
theorem NB.a2 {w W : World} {g1 g2 g3 b1 b2 ba bn : Nat} (h : NB w W g1 g2 g3 b1 b2 ba bn) : W.rangeAt ba 12 (ans ⟨#[100, 101, 97, 100]⟩) := fun j v hv => by
  have hj : j < 6 := (List.getElem?_eq_some_iff.1 hv).1
  refine h.ra.cell (12 + j) v ?_
  match j, hj, hv with
  | 0, _, hv | 1, _, hv | 2, _, hv | 3, _, hv | 4, _, hv | 5, _, hv => exact hv
theorem neqRep (w : World) : (binOp .neq 23 (.agg rp7.toArray) (.agg rp7.toArray)).run Tryz.prog w = .ok (.bool false) w := by kernel_rfl
set_option maxRecDepth 100000 in
set_option maxHeartbeats 8000000 in
theorem rewriteNobody_walk (why : ByteArray) (u : Int) (w : World) (hs : why.size ≤ 140737488355328) (h0 : -9223372036854775808 ≤ u) (h1 : u ≤ 9223372036854775807) (hT : PTab w) :
    Calls Tryz.prog 3 #[.string why, .int .i64 u] w fun e w' => e = .returned (.bool true) ∧ Below w.heap.size w w' := by
  have HSA : Hid (∀ (x : ByteArray) (g : Nat) (W : World), LB W g 37 (flt x) → x.size ≤ 1000 → Below w.heap.size w W → Calls Tryz.prog 7 #[.iface 34 (.pointer (some ⟨g, 0, none⟩)), .agg #[.int .i64 1, .string x, .string ⟨#[]⟩, .string ⟨#[]⟩, .int .i64 0, .int .i64 0]] W fun e w' => e = .returned (.bool true) ∧ Below W.heap.size W w') := fun x g W h hx hb => rnsays g x W h hx (hT.kept hb)
  have HBE : Hid (∀ (x : ByteArray) (g : Nat) (W : World), LB W g 37 (flt x) → Calls Tryz.prog 8 #[.iface 34 (.pointer (some ⟨g, 0, none⟩)), .agg #[.int .i64 1, .string x, .string ⟨#[]⟩, .string ⟨#[]⟩, .int .i64 0, .int .i64 0]] W fun e w' => e = .returned (.bool true) ∧ Below W.heap.size W w') := fun x g W h => rnbelow g x W h
  have HTT : Hid (∀ W, Below w.heap.size w W → PTab W) := fun W hb => hT.kept hb
  clear hT
  go_enter Tryz.func3, Tryz.ntmps3
  go_wp2_with fail
  refine (rncompact _).mono ?_
  rintro e w1 ⟨g1, rfl, l1, k1, -⟩
  have H1 : Hid (∀ o, o = .cells #[.int .i64 0, .int .i64 0, .int .i64 0, .int .i64 0, .int .i64 0, .int .i64 0, .int .i64 0] 23 → LB (w1.alloc o) g1 37 (flt ⟨#[99, 111, 109, 112, 97, 99, 116]⟩) ∧ LB (w1.alloc o) w1.heap.size 23 rp7 ∧ Below w.heap.size w (w1.alloc o)) := fun o ho => by subst ho; exact ⟨l1.kept (up0 _ _), lb_new w1 rp7 23, up k1 _⟩
  clear l1 k1
  go_wp2_with fail
  refine (rnupgrade _).mono ?_
  rintro e w2 ⟨g2, rfl, l2, k2, -⟩
  have H2 : Hid (∀ o, o = .cells #[.int .i64 0, .int .i64 0, .int .i64 0, .int .i64 0, .int .i64 0, .int .i64 0, .int .i64 0] 23 → LB (w2.alloc o) g1 37 (flt ⟨#[99, 111, 109, 112, 97, 99, 116]⟩) ∧ LB (w2.alloc o) w1.heap.size 23 rp7 ∧ LB (w2.alloc o) g2 37 (flt ⟨#[117, 112, 103, 114, 97, 100, 101]⟩) ∧ LB (w2.alloc o) w2.heap.size 23 rp7 ∧ Below w.heap.size w (w2.alloc o)) := fun o ho => by
    subst ho
    obtain ⟨q1, q2, q3⟩ := H1.out _ rfl
    exact ⟨(q1.kept k2).kept (up0 _ _), (q2.kept k2).kept (up0 _ _), l2.kept (up0 _ _), lb_new w2 rp7 23, up (andThen q3 k2) _⟩
  clear l2 k2 H1
  go_wp2_with fail
  refine (rndead _).mono ?_
  rintro e w3 ⟨g3, rfl, l3, k3, -⟩
  have H3 : Hid (∀ o p, o = .cells #[.int .i64 1, .string ⟨#[99, 111, 109, 112, 97, 99, 116]⟩, .string ⟨#[]⟩, .string ⟨#[]⟩, .int .i64 0, .int .i64 0, .int .i64 1, .string ⟨#[117, 112, 103, 114, 97, 100, 101]⟩, .string ⟨#[]⟩, .string ⟨#[]⟩, .int .i64 0, .int .i64 0, .int .i64 1, .string ⟨#[100, 101, 97, 100]⟩, .string ⟨#[]⟩, .string ⟨#[]⟩, .int .i64 0, .int .i64 0] 32 → p = .cells #[.int .i64 0, .int .i64 0, .int .i64 0, .int .i64 0, .int .i64 0, .int .i64 0, .int .i64 0] 23 → NB w ((w3.alloc o).alloc p) g1 g2 g3 w1.heap.size w2.heap.size w3.heap.size (w3.heap.size + 1)) := fun o p ho hp => by
    subst ho hp
    obtain ⟨q1, q2, q3, q4, q5⟩ := H2.out _ rfl
    obtain ⟨z1, z2, z3⟩ := lb_new2 w3 [.int .i64 1, .string ⟨#[99, 111, 109, 112, 97, 99, 116]⟩, .string ⟨#[]⟩, .string ⟨#[]⟩, .int .i64 0, .int .i64 0, .int .i64 1, .string ⟨#[117, 112, 103, 114, 97, 100, 101]⟩, .string ⟨#[]⟩, .string ⟨#[]⟩, .int .i64 0, .int .i64 0, .int .i64 1, .string ⟨#[100, 101, 97, 100]⟩, .string ⟨#[]⟩, .string ⟨#[]⟩, .int .i64 0, .int .i64 0] rp7 32 23
    exact ⟨(q1.kept k3).kept z3, (q3.kept k3).kept z3, l3.kept z3, (q2.kept k3).kept z3, (q4.kept k3).kept z3, z1, z2, andThen (andThen q5 k3) z3⟩
  clear l3 k3 H2
  go_upto_region 6 with fail
  have H4 : Hid _ := H3.out _ _ rfl rfl
  clear H3
  generalize (w3.alloc (.cells #[.int .i64 1, .string ⟨#[99, 111, 109, 112, 97, 99, 116]⟩, .string ⟨#[]⟩, .string ⟨#[]⟩, .int .i64 0, .int .i64 0, .int .i64 1, .string ⟨#[117, 112, 103, 114, 97, 100, 101]⟩, .string ⟨#[]⟩, .string ⟨#[]⟩, .int .i64 0, .int .i64 0, .int .i64 1, .string ⟨#[100, 101, 97, 100]⟩, .string ⟨#[]⟩, .string ⟨#[]⟩, .int .i64 0, .int .i64 0] 32)).alloc (.cells #[.int .i64 0, .int .i64 0, .int .i64 0, .int .i64 0, .int .i64 0, .int .i64 0, .int .i64 0] 23) = W at *
  generalize hq3 : w3.heap.size + 1 = bn at *
  generalize w3.heap.size = ba at *
  generalize w1.heap.size = b1 at *
  generalize w2.heap.size = b2 at *
  clear hq3
  have nR := neqRep
  go_wp2_with (first | (refine wpList_load_mid rfl 23 _ rfl b1 0 rfl rp7 _ H4.out.r1.range Tryz.underlying23 rfl infoRep ?_) | (refine wpList_load_midG rfl 23 _ rfl b1 0 rfl rp7 _ H4.out.r1.range Tryz.underlying23 rfl infoRep ?_) | (refine wpList_load_mid rfl 23 _ rfl b2 0 rfl rp7 _ H4.out.r2.range Tryz.underlying23 rfl infoRep ?_) | (refine wpList_load_midG rfl 23 _ rfl b2 0 rfl rp7 _ H4.out.r2.range Tryz.underlying23 rfl infoRep ?_) | (refine wpList_load_mid rfl 23 _ rfl bn 0 rfl rp7 _ H4.out.rn.range Tryz.underlying23 rfl infoRep ?_) | (refine wpList_load_midG rfl 23 _ rfl bn 0 rfl rp7 _ H4.out.rn.range Tryz.underlying23 rfl infoRep ?_) | (refine wpList_load_mid rfl 31 _ rfl ba 0 rfl (ans ⟨#[99, 111, 109, 112, 97, 99, 116]⟩) _ H4.out.a0 Tryz.underlying31 rfl infoAns ?_) | (refine wpList_load_midG rfl 31 _ rfl ba 0 rfl (ans ⟨#[99, 111, 109, 112, 97, 99, 116]⟩) _ H4.out.a0 Tryz.underlying31 rfl infoAns ?_) | (refine wpList_load_mid rfl 31 _ rfl ba 6 rfl (ans ⟨#[117, 112, 103, 114, 97, 100, 101]⟩) _ H4.out.a1 Tryz.underlying31 rfl infoAns ?_) | (refine wpList_load_midG rfl 31 _ rfl ba 6 rfl (ans ⟨#[117, 112, 103, 114, 97, 100, 101]⟩) _ H4.out.a1 Tryz.underlying31 rfl infoAns ?_) | (refine wpList_load_mid rfl 31 _ rfl ba 12 rfl (ans ⟨#[100, 101, 97, 100]⟩) _ H4.out.a2 Tryz.underlying31 rfl infoAns ?_) | (refine wpList_load_midG rfl 31 _ rfl ba 12 rfl (ans ⟨#[100, 101, 97, 100]⟩) _ H4.out.a2 Tryz.underlying31 rfl infoAns ?_) | fail)
  refine (HSA.out ⟨#[99, 111, 109, 112, 97, 99, 116]⟩ g1 _ H4.out.f1 (by decide) H4.out.bl).mono ?_
  rintro e w5 ⟨rfl, k5⟩
  have H5 : Hid _ := H4.out.up k5
  clear k5 H4
  go_wp2_with (first | (refine wpList_load_mid rfl 23 _ rfl b1 0 rfl rp7 _ H5.out.r1.range Tryz.underlying23 rfl infoRep ?_) | (refine wpList_load_midG rfl 23 _ rfl b1 0 rfl rp7 _ H5.out.r1.range Tryz.underlying23 rfl infoRep ?_) | (refine wpList_load_mid rfl 23 _ rfl b2 0 rfl rp7 _ H5.out.r2.range Tryz.underlying23 rfl infoRep ?_) | (refine wpList_load_midG rfl 23 _ rfl b2 0 rfl rp7 _ H5.out.r2.range Tryz.underlying23 rfl infoRep ?_) | (refine wpList_load_mid rfl 23 _ rfl bn 0 rfl rp7 _ H5.out.rn.range Tryz.underlying23 rfl infoRep ?_) | (refine wpList_load_midG rfl 23 _ rfl bn 0 rfl rp7 _ H5.out.rn.range Tryz.underlying23 rfl infoRep ?_) | (refine wpList_load_mid rfl 31 _ rfl ba 0 rfl (ans ⟨#[99, 111, 109, 112, 97, 99, 116]⟩) _ H5.out.a0 Tryz.underlying31 rfl infoAns ?_) | (refine wpList_load_midG rfl 31 _ rfl ba 0 rfl (ans ⟨#[99, 111, 109, 112, 97, 99, 116]⟩) _ H5.out.a0 Tryz.underlying31 rfl infoAns ?_) | (refine wpList_load_mid rfl 31 _ rfl ba 6 rfl (ans ⟨#[117, 112, 103, 114, 97, 100, 101]⟩) _ H5.out.a1 Tryz.underlying31 rfl infoAns ?_) | (refine wpList_load_midG rfl 31 _ rfl ba 6 rfl (ans ⟨#[117, 112, 103, 114, 97, 100, 101]⟩) _ H5.out.a1 Tryz.underlying31 rfl infoAns ?_) | (refine wpList_load_mid rfl 31 _ rfl ba 12 rfl (ans ⟨#[100, 101, 97, 100]⟩) _ H5.out.a2 Tryz.underlying31 rfl infoAns ?_) | (refine wpList_load_midG rfl 31 _ rfl ba 12 rfl (ans ⟨#[100, 101, 97, 100]⟩) _ H5.out.a2 Tryz.underlying31 rfl infoAns ?_) | fail)
  refine (HSA.out ⟨#[117, 112, 103, 114, 97, 100, 101]⟩ g2 _ H5.out.f2 (by decide) H5.out.bl).mono ?_
  rintro e w6 ⟨rfl, k6⟩
  have H6 : Hid _ := H5.out.up k6
  clear k6 H5
  go_wp2_with (first | (refine wpList_load_mid rfl 23 _ rfl b1 0 rfl rp7 _ H6.out.r1.range Tryz.underlying23 rfl infoRep ?_) | (refine wpList_load_midG rfl 23 _ rfl b1 0 rfl rp7 _ H6.out.r1.range Tryz.underlying23 rfl infoRep ?_) | (refine wpList_load_mid rfl 23 _ rfl b2 0 rfl rp7 _ H6.out.r2.range Tryz.underlying23 rfl infoRep ?_) | (refine wpList_load_midG rfl 23 _ rfl b2 0 rfl rp7 _ H6.out.r2.range Tryz.underlying23 rfl infoRep ?_) | (refine wpList_load_mid rfl 23 _ rfl bn 0 rfl rp7 _ H6.out.rn.range Tryz.underlying23 rfl infoRep ?_) | (refine wpList_load_midG rfl 23 _ rfl bn 0 rfl rp7 _ H6.out.rn.range Tryz.underlying23 rfl infoRep ?_) | (refine wpList_load_mid rfl 31 _ rfl ba 0 rfl (ans ⟨#[99, 111, 109, 112, 97, 99, 116]⟩) _ H6.out.a0 Tryz.underlying31 rfl infoAns ?_) | (refine wpList_load_midG rfl 31 _ rfl ba 0 rfl (ans ⟨#[99, 111, 109, 112, 97, 99, 116]⟩) _ H6.out.a0 Tryz.underlying31 rfl infoAns ?_) | (refine wpList_load_mid rfl 31 _ rfl ba 6 rfl (ans ⟨#[117, 112, 103, 114, 97, 100, 101]⟩) _ H6.out.a1 Tryz.underlying31 rfl infoAns ?_) | (refine wpList_load_midG rfl 31 _ rfl ba 6 rfl (ans ⟨#[117, 112, 103, 114, 97, 100, 101]⟩) _ H6.out.a1 Tryz.underlying31 rfl infoAns ?_) | (refine wpList_load_mid rfl 31 _ rfl ba 12 rfl (ans ⟨#[100, 101, 97, 100]⟩) _ H6.out.a2 Tryz.underlying31 rfl infoAns ?_) | (refine wpList_load_midG rfl 31 _ rfl ba 12 rfl (ans ⟨#[100, 101, 97, 100]⟩) _ H6.out.a2 Tryz.underlying31 rfl infoAns ?_) | fail)
  refine (HSA.out ⟨#[100, 101, 97, 100]⟩ g3 _ H6.out.f3 (by decide) H6.out.bl).mono ?_
  rintro e w7 ⟨rfl, k7⟩
  have H7 : Hid _ := H6.out.up k7
  clear k7 H6
  go_wp2_with (first | (refine wpList_load_mid rfl 23 _ rfl b1 0 rfl rp7 _ H7.out.r1.range Tryz.underlying23 rfl infoRep ?_) | (refine wpList_load_midG rfl 23 _ rfl b1 0 rfl rp7 _ H7.out.r1.range Tryz.underlying23 rfl infoRep ?_) | (refine wpList_load_mid rfl 23 _ rfl b2 0 rfl rp7 _ H7.out.r2.range Tryz.underlying23 rfl infoRep ?_) | (refine wpList_load_midG rfl 23 _ rfl b2 0 rfl rp7 _ H7.out.r2.range Tryz.underlying23 rfl infoRep ?_) | (refine wpList_load_mid rfl 23 _ rfl bn 0 rfl rp7 _ H7.out.rn.range Tryz.underlying23 rfl infoRep ?_) | (refine wpList_load_midG rfl 23 _ rfl bn 0 rfl rp7 _ H7.out.rn.range Tryz.underlying23 rfl infoRep ?_) | (refine wpList_load_mid rfl 31 _ rfl ba 0 rfl (ans ⟨#[99, 111, 109, 112, 97, 99, 116]⟩) _ H7.out.a0 Tryz.underlying31 rfl infoAns ?_) | (refine wpList_load_midG rfl 31 _ rfl ba 0 rfl (ans ⟨#[99, 111, 109, 112, 97, 99, 116]⟩) _ H7.out.a0 Tryz.underlying31 rfl infoAns ?_) | (refine wpList_load_mid rfl 31 _ rfl ba 6 rfl (ans ⟨#[117, 112, 103, 114, 97, 100, 101]⟩) _ H7.out.a1 Tryz.underlying31 rfl infoAns ?_) | (refine wpList_load_midG rfl 31 _ rfl ba 6 rfl (ans ⟨#[117, 112, 103, 114, 97, 100, 101]⟩) _ H7.out.a1 Tryz.underlying31 rfl infoAns ?_) | (refine wpList_load_mid rfl 31 _ rfl ba 12 rfl (ans ⟨#[100, 101, 97, 100]⟩) _ H7.out.a2 Tryz.underlying31 rfl infoAns ?_) | (refine wpList_load_midG rfl 31 _ rfl ba 12 rfl (ans ⟨#[100, 101, 97, 100]⟩) _ H7.out.a2 Tryz.underlying31 rfl infoAns ?_) | fail)
  refine (HBE.out ⟨#[99, 111, 109, 112, 97, 99, 116]⟩ g1 _ H7.out.f1).mono ?_
  rintro e w8 ⟨rfl, k8⟩
  have H8 : Hid _ := H7.out.up k8
  clear k8 H7
  go_wp2_with (first | (refine wpList_load_mid rfl 23 _ rfl b1 0 rfl rp7 _ H8.out.r1.range Tryz.underlying23 rfl infoRep ?_) | (refine wpList_load_midG rfl 23 _ rfl b1 0 rfl rp7 _ H8.out.r1.range Tryz.underlying23 rfl infoRep ?_) | (refine wpList_load_mid rfl 23 _ rfl b2 0 rfl rp7 _ H8.out.r2.range Tryz.underlying23 rfl infoRep ?_) | (refine wpList_load_midG rfl 23 _ rfl b2 0 rfl rp7 _ H8.out.r2.range Tryz.underlying23 rfl infoRep ?_) | (refine wpList_load_mid rfl 23 _ rfl bn 0 rfl rp7 _ H8.out.rn.range Tryz.underlying23 rfl infoRep ?_) | (refine wpList_load_midG rfl 23 _ rfl bn 0 rfl rp7 _ H8.out.rn.range Tryz.underlying23 rfl infoRep ?_) | (refine wpList_load_mid rfl 31 _ rfl ba 0 rfl (ans ⟨#[99, 111, 109, 112, 97, 99, 116]⟩) _ H8.out.a0 Tryz.underlying31 rfl infoAns ?_) | (refine wpList_load_midG rfl 31 _ rfl ba 0 rfl (ans ⟨#[99, 111, 109, 112, 97, 99, 116]⟩) _ H8.out.a0 Tryz.underlying31 rfl infoAns ?_) | (refine wpList_load_mid rfl 31 _ rfl ba 6 rfl (ans ⟨#[117, 112, 103, 114, 97, 100, 101]⟩) _ H8.out.a1 Tryz.underlying31 rfl infoAns ?_) | (refine wpList_load_midG rfl 31 _ rfl ba 6 rfl (ans ⟨#[117, 112, 103, 114, 97, 100, 101]⟩) _ H8.out.a1 Tryz.underlying31 rfl infoAns ?_) | (refine wpList_load_mid rfl 31 _ rfl ba 12 rfl (ans ⟨#[100, 101, 97, 100]⟩) _ H8.out.a2 Tryz.underlying31 rfl infoAns ?_) | (refine wpList_load_midG rfl 31 _ rfl ba 12 rfl (ans ⟨#[100, 101, 97, 100]⟩) _ H8.out.a2 Tryz.underlying31 rfl infoAns ?_) | fail)
  refine (HBE.out ⟨#[117, 112, 103, 114, 97, 100, 101]⟩ g2 _ H8.out.f2).mono ?_
  rintro e w9 ⟨rfl, k9⟩
  have H9 : Hid _ := H8.out.up k9
  clear k9 H8
  go_wp2_with (first | (refine wpList_load_mid rfl 23 _ rfl b1 0 rfl rp7 _ H9.out.r1.range Tryz.underlying23 rfl infoRep ?_) | (refine wpList_load_midG rfl 23 _ rfl b1 0 rfl rp7 _ H9.out.r1.range Tryz.underlying23 rfl infoRep ?_) | (refine wpList_load_mid rfl 23 _ rfl b2 0 rfl rp7 _ H9.out.r2.range Tryz.underlying23 rfl infoRep ?_) | (refine wpList_load_midG rfl 23 _ rfl b2 0 rfl rp7 _ H9.out.r2.range Tryz.underlying23 rfl infoRep ?_) | (refine wpList_load_mid rfl 23 _ rfl bn 0 rfl rp7 _ H9.out.rn.range Tryz.underlying23 rfl infoRep ?_) | (refine wpList_load_midG rfl 23 _ rfl bn 0 rfl rp7 _ H9.out.rn.range Tryz.underlying23 rfl infoRep ?_) | (refine wpList_load_mid rfl 31 _ rfl ba 0 rfl (ans ⟨#[99, 111, 109, 112, 97, 99, 116]⟩) _ H9.out.a0 Tryz.underlying31 rfl infoAns ?_) | (refine wpList_load_midG rfl 31 _ rfl ba 0 rfl (ans ⟨#[99, 111, 109, 112, 97, 99, 116]⟩) _ H9.out.a0 Tryz.underlying31 rfl infoAns ?_) | (refine wpList_load_mid rfl 31 _ rfl ba 6 rfl (ans ⟨#[117, 112, 103, 114, 97, 100, 101]⟩) _ H9.out.a1 Tryz.underlying31 rfl infoAns ?_) | (refine wpList_load_midG rfl 31 _ rfl ba 6 rfl (ans ⟨#[117, 112, 103, 114, 97, 100, 101]⟩) _ H9.out.a1 Tryz.underlying31 rfl infoAns ?_) | (refine wpList_load_mid rfl 31 _ rfl ba 12 rfl (ans ⟨#[100, 101, 97, 100]⟩) _ H9.out.a2 Tryz.underlying31 rfl infoAns ?_) | (refine wpList_load_midG rfl 31 _ rfl ba 12 rfl (ans ⟨#[100, 101, 97, 100]⟩) _ H9.out.a2 Tryz.underlying31 rfl infoAns ?_) | fail)
  refine (HBE.out ⟨#[100, 101, 97, 100]⟩ g3 _ H9.out.f3).mono ?_
  rintro e w10 ⟨rfl, k10⟩
  have H10 : Hid _ := H9.out.up k10
  clear k10 H9
  have HB10 : Hid (Below w.heap.size w w10) := H10.out.bl
  clear H10 HSA HBE nR
  have hz := itoaB_size u h0 h1
  have HF : Hid (∀ o p, o = .cells #[.string why, .iface 35 (.int .i64 u)] 37 → p = .cells #[.string why, .nilIface] 37 → LB ((w10.alloc o).alloc p) w10.heap.size 37 [.string why, .iface 35 (.int .i64 u)] ∧ LB ((w10.alloc o).alloc p) (w10.heap.size + 1) 37 [.string why, .nilIface] ∧ Below w.heap.size w ((w10.alloc o).alloc p)) := fun o p ho hp => by
    subst ho hp
    obtain ⟨z1, z2, z3⟩ := lb_new2 w10 [.string why, .iface 35 (.int .i64 u)] [.string why, .nilIface] 37 37
    exact ⟨z1, z2, andThen HB10.out z3⟩
  clear HB10
  go_upto_region 12 with fail
  have H11 : Hid _ := HF.out _ _ rfl rfl
  clear HF
  generalize (w10.alloc (.cells #[.string why, .iface 35 (.int .i64 u)] 37)).alloc (.cells #[.string why, .nilIface] 37) = W at *
  generalize hq10 : w10.heap.size + 1 = gb at *
  generalize w10.heap.size = ga at *
  clear hq10
  obtain ⟨T, hT⟩ : ∃ T, why ++ ⟨#[58, 32]⟩ ++ (⟨#[101, 114, 114, 111, 114, 32]⟩ ++ itoaB u) = T := ⟨_, rfl⟩
  have HE : Hid (∀ W, LB W ga 37 [.string why, .iface 35 (.int .i64 u)] → Below w.heap.size w W → Calls Tryz.prog 9 #[.pointer (some ⟨ga, 0, none⟩)] W fun e w' => e = .returned (.string T) ∧ Below W.heap.size W w') := fun W h hb => by
    have e := rnerror ga why u W h hs h0 h1 (HTT.out _ hb)
    rw [hT] at e
    exact e
  have hq : (T.toList == (why ++ ⟨#[58, 32, 101, 114, 114, 111, 114, 32]⟩ ++ itoaB u).toList) = true := by
    rw [← hT, show why ++ ⟨#[58, 32]⟩ ++ (⟨#[101, 114, 114, 111, 114, 32]⟩ ++ itoaB u) = why ++ ⟨#[58, 32, 101, 114, 114, 111, 114, 32]⟩ ++ itoaB u by rw [show (⟨#[58, 32, 101, 114, 114, 111, 114, 32]⟩ : ByteArray) = ⟨#[58, 32]⟩ ++ ⟨#[101, 114, 114, 111, 114, 32]⟩ from rfl]; simp only [ByteArray.append_assoc]]
    simp
  have HI : Hid (∀ W, Below w.heap.size w W → Calls Tryz.prog 10 #[.int .i64 u] W fun e w' => e = .returned (.string (itoaB u)) ∧ Below W.heap.size W w') := fun W hb => itoa_all u h0 h1 W (HTT.out _ hb)
  have HEN : Hid (∀ W, LB W gb 37 [.string why, .nilIface] → Calls Tryz.prog 9 #[.pointer (some ⟨gb, 0, none⟩)] W fun e w' => e = .returned (.string (why ++ ⟨#[58, 32, 110, 111, 116, 104, 105, 110, 103]⟩)) ∧ Below W.heap.size W w') := fun W h => rnerror_nil gb why W h hs
  have HUA : Hid (∀ W, LB W ga 37 [.string why, .iface 35 (.int .i64 u)] → Calls Tryz.prog 11 #[.pointer (some ⟨ga, 0, none⟩)] W fun e w' => e = .returned (.iface 35 (.int .i64 u)) ∧ w' = W) := fun W h => rnunwrap ga _ _ W h
  have HUB : Hid (∀ W, LB W gb 37 [.string why, .nilIface] → Calls Tryz.prog 11 #[.pointer (some ⟨gb, 0, none⟩)] W fun e w' => e = .returned .nilIface ∧ w' = W) := fun W h => rnunwrap gb _ _ W h
  have eqE := eqlEno u
  have HUP : Hid (∀ W W' : World, (LB W ga 37 [.string why, .iface 35 (.int .i64 u)] ∧ LB W gb 37 [.string why, .nilIface] ∧ Below w.heap.size w W) → Below W.heap.size W W' → (LB W' ga 37 [.string why, .iface 35 (.int .i64 u)] ∧ LB W' gb 37 [.string why, .nilIface] ∧ Below w.heap.size w W')) := fun W W' h hb => ⟨h.1.kept hb, h.2.1.kept hb, andThen h.2.2 hb⟩
  generalize itoaB u = I at *
  clear hT HTT
  go_wp2_with fail
  refine (HE.out _ H11.out.1 H11.out.2.2).mono ?_
  rintro e w12 ⟨rfl, k12⟩
  have H12 : Hid _ := HUP.out _ _ H11.out k12
  clear k12 H11 HE
  go_wp2_with fail
  refine (HI.out _ H12.out.2.2).mono ?_
  rintro e w13 ⟨rfl, k13⟩
  have H13 : Hid _ := HUP.out _ _ H12.out k13
  clear k13 H12 HI
  go_wp2_with fail
  refine (HUA.out _ H13.out.1).mono ?_
  rintro e w14 ⟨rfl, rfl⟩
  go_wp2_with fail
  refine (HEN.out _ H13.out.2.1).mono ?_
  rintro e w15 ⟨rfl, k15⟩
  have H15 : Hid _ := HUP.out _ _ H13.out k15
  clear k15 H13 HEN
  go_wp2_with fail
  refine (HUB.out _ H15.out.2.1).mono ?_
  rintro e w16 ⟨rfl, rfl⟩
  go_wp2_with fail
  go_ret
  exact ⟨rfl, H15.out.2.2⟩
end Go.Proofs.YtfbldghhmjenlaaGreatDoor
