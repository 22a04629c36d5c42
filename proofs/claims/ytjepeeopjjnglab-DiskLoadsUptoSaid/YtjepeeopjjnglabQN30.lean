import Derived.Test.YtjepeeopjjnglabQN29
import Derived.Test.YtjepeeopjjnglabQN10
/-
  The laws' own functions: plays.
-/
namespace Go.Proofs.Ytjepeeopjjnglab
open Go Go.RowKit Go.ChangeShapes
open Wb
open Rd
/-- two pairs in their boxes, apart -/
structure F2 (B N : Nat) (K : Nat → Prop) (W : World) (p p' g : Nat) (S : Dk.DS) (M : Mm) (R : RS) (y : PVal) (g' : Nat) (S' : Dk.DS) (M' : Mm) (R' : RS) (y' : PVal) : Prop where
  a : FS B N K W p g S M R y
  b : FS B N K W p' g' S' M' R' y'
  ap : ∀ q, Ft g S M q → ¬ Ft g' S' M' q
  x1 : ¬ Ft g S M p'
  x2 : ¬ Ft g' S' M' p
  ne : p ≠ p'
section
variable {B N N' p p' g g' h : Nat} {K K' : Nat → Prop} {W w w' : World} {S S' T : Dk.DS} {M M' Mt : Mm} {R R' Q : RS} {y y' z : PVal}
theorem F2.swap (f : F2 B N K W p p' g S M R y g' S' M' R' y') : F2 B N K W p' p g' S' M' R' y' g S M R y := ⟨f.b, f.a, fun q h1 h2 => f.ap q h2 h1, f.x2, f.x1, Ne.symm f.ne⟩
theorem F2.kept (f : F2 B N K W p p' g S M R y g' S' M' R' y') (hb : Below W.heap.size W w') : F2 B N K w' p p' g S M R y g' S' M' R' y' := ⟨f.a.kept hb, f.b.kept hb, f.ap, f.x1, f.x2, f.ne⟩
theorem F2.mono (f : F2 B N K W p p' g S M R y g' S' M' R' y') (hN : N ≤ N') : F2 B N' K W p p' g S M R y g' S' M' R' y' := ⟨f.a.mono hN, f.b.mono hN, f.ap, f.x1, f.x2, f.ne⟩
theorem F2.step (f : F2 B N K W p p' g S M R y g' S' M' R' y') (hz : z.pa = some ⟨h, 0, none⟩) (pt : PT B N' K W W.heap.size g S M w' h T Mt Q (pvw z) K') (hN : N ≤ N') : LB w' p 56 (pvc y) ∧ F2 B N' K' (putAll w' p 0 (pvc z)) p p' h T Mt Q z g' S' M' R' y' := by
  obtain ⟨h1, h2⟩ := f.a.step hz pt
  obtain ⟨h3, h4⟩ := pt.other f.a.pm f.b.pm f.ap
  have hl := f.b.box.lt
  have hl2 := f.a.box.lt
  have hk : ¬ K' p := h2.nk
  have hk' : ¬ K' p' := fun e => by
    rcases pt.kl p' e with e2 | e2
    · exact f.b.nk e2
    · omega
  refine ⟨h1, h2, ⟨(h3.far f.x2 hk _ _).mono hN, f.b.pa, (putAll_far (Ne.symm f.ne) _ _ _).trans ((pt.fr.block p' hl f.x1).trans f.b.box), f.b.nf, hk', h2.kb⟩, h4, fun e => ?_, f.x2, f.ne⟩
  rcases pt.fl p' e with e2 | e2
  · exact f.x1 e2
  · omega
end
/-- steps to be read -/
def OpsF (w : World) (v : Value) (n : Nat) : Prop := ∃ a c, v = .slice a n c ∧ n ≤ c ∧ c ≤ maxLen ∧ ∀ k, k < n → ∃ b off o, a = some ⟨b, off, none⟩ ∧ (∀ i x, (opc o)[i]? = some x → w.cell? ⟨b, off + k * 8 + i, none⟩ = some x) ∧ OpF w o
/-- two firsts, one behind the other, are apart -/
theorem f2_new {w W1 W3 : World} {K1 K2 : Nat → Prop} {g1 g2 : Nat} {S1 S2 : Dk.DS} {M1 M2 : Mm} {R1 R2 : RS} {y1 y2 : PVal} (m1 : PM w.heap.size 1048579 K1 W1 g1 S1 M1 R1 (pvw y1)) (k1 : ∀ q, K1 q → w.heap.size ≤ q) (hb1 : Below w.heap.size w W1) (e1 : y1.pa = some ⟨g1, 0, none⟩) (e2 : y2.pa = some ⟨g2, 0, none⟩) (hb : Below (W1.alloc (.cells (pvc y1).toArray 56)).heap.size (W1.alloc (.cells (pvc y1).toArray 56)) W3) (m2 : PM (W1.alloc (.cells (pvc y1).toArray 56)).heap.size 1048579 K2 W3 g2 S2 M2 R2 (pvw y2)) (k2 : ∀ q, K2 q → (W1.alloc (.cells (pvc y1).toArray 56)).heap.size ≤ q) : F2 w.heap.size 1048579 (fun q => K1 q ∨ K2 q) (W3.alloc (.cells (pvc y2).toArray 56)) W1.heap.size W3.heap.size g1 S1 M1 R1 y1 g2 S2 M2 R2 y2 ∧ Below w.heap.size w (W3.alloc (.cells (pvc y2).toArray 56)) := by
  have b1 := up0 W1 (.cells (pvc y1).toArray 56)
  have b3 := up0 W3 (.cells (pvc y2).toArray 56)
  have l1 := lb_new W1 (pvc y1) 56
  have l3 := lb_new W3 (pvc y2) 56
  have s1 := heap_one W1 (.cells (pvc y1).toArray 56)
  have z1 := hb1.size
  have z2 := hb.size
  rw [s1] at z2
  have hA := ((m1.kept b1).kept hb).kept b3
  have hB := (m2.low (B2 := w.heap.size) (by rw [s1]; omega)).kept b3
  have lo2 : ∀ q, Ft g2 S2 M2 q → W1.heap.size < q ∧ q < W3.heap.size := fun q e => by
    have h9 := m2.dm.ft e
    rw [s1] at h9
    omega
  have lo1 : ∀ q, Ft g1 S1 M1 q → q < W1.heap.size := fun q e => (m1.dm.ft e).2
  have kk1 : ∀ q, K1 q → q < W1.heap.size := m1.lt
  have kk2 : ∀ q, K2 q → W1.heap.size < q ∧ q < W3.heap.size := fun q e => by
    have h8 := k2 q e
    have h9 := m2.lt q e
    rw [s1] at h8
    omega
  refine ⟨⟨⟨⟨hA.dm, hA.rd.mono fun q e => .inl e, hA.sy, fun q e => ?_, fun q e e2 => ?_⟩, e1, (l1.kept hb).kept b3, fun e => ?_, fun e => ?_, fun q e => ?_⟩, ⟨⟨hB.dm, hB.rd.mono fun q e => .inr e, hB.sy, fun q e => ?_, fun q e e2 => ?_⟩, e2, l3, fun e => ?_, fun e => ?_, fun q e => ?_⟩, fun q h1 h2 => ?_, fun e => ?_, fun e => ?_, ?_⟩, ((hb1.trans (b1.mono z1)).trans (hb.mono (by rw [s1]; omega))).trans (b3.mono (by omega))⟩
  · rcases e with e | e
    · exact hA.lt q e
    · exact hB.lt q e
  · rcases e with e | e
    · exact m1.ap q e e2
    · have := kk2 q e
      have := lo1 q e2
      omega
  · have := lo1 _ e
    omega
  · rcases e with e | e
    · have := kk1 _ e
      omega
    · have := kk2 _ e
      omega
  · rcases e with e | e
    · exact k1 q e
    · have := kk2 q e
      omega
  · rcases e with e | e
    · exact hA.lt q e
    · exact hB.lt q e
  · rcases e with e | e
    · have := kk1 q e
      have := lo2 q e2
      omega
    · exact m2.ap q e e2
  · have := lo2 _ e
    omega
  · rcases e with e | e
    · have := kk1 _ e
      omega
    · have := kk2 _ e
      omega
  · rcases e with e | e
    · exact k1 q e
    · have := kk2 q e
      omega
  · have := lo1 q h1
    have := lo2 q h2
    omega
  · have := lo1 _ e
    omega
  · have := lo2 _ e
    omega
  · omega
set_option maxRecDepth 100000 in
set_option maxHeartbeats 64000000 in
theorem dlplays_any (q1 q2 : Int) (vs : Value) (n : Nat) (lo hi : Int) (w : World) (hs : OpsF w vs n) (hn : n ≤ 1048576) :
    Calls Try.prog 29 #[.int .i64 q1, .int .i64 q2, vs, .int .i64 lo, .int .i64 hi] w fun e w' => e = .returned (.bool true) ∧ Below w.heap.size w w' := by
  obtain ⟨sa, sc, hve, hs1, hs2, hs3⟩ := hs
  subst hve
  have HS : Hid (∀ k, k < n → ∃ b off o, sa = some ⟨b, off, none⟩ ∧ (∀ i x, (opc o)[i]? = some x → w.cell? ⟨b, off + k * 8 + i, none⟩ = some x) ∧ OpF w o) := hs3
  unfold maxLen at hs2
  clear hs3
  have HFI : Hid (∀ (q : Int) (W : World), Calls Try.prog 20 #[.int .i64 q] W fun e w' => ∃ gx Sx Mx Rx Kx xq xa1 xn1 xc1 xa2 xn2 xc2 xa3 xn3 xc3 xa4 xn4 xc4 xl xd, e = .returned (.tuple #[.agg #[.pointer (some ⟨gx, 0, none⟩), .int .i64 xq, .slice xa1 xn1 xc1, .slice xa2 xn2 xc2, .slice xa3 xn3 xc3, .slice xa4 xn4 xc4, .int .i64 xl, .bool xd], .bool true]) ∧ PM W.heap.size 1048579 Kx w' gx Sx Mx Rx (pvw ⟨some ⟨gx, 0, none⟩, xq, xa1, xn1, xc1, xa2, xn2, xc2, xa3, xn3, xc3, xa4, xn4, xc4, xl, xd⟩) ∧ (∀ q, Kx q → W.heap.size ≤ q) ∧ Below W.heap.size W w') := fun q W => (dlfirst_any q W).mono fun e w' ⟨hb, g, S, M, R, K, y, h1, h2, h3, h4⟩ => by
    obtain ⟨pa, xq, xa1, xn1, xc1, xa2, xn2, xc2, xa3, xn3, xc3, xa4, xn4, xc4, xl, xd⟩ := y
    have hpa : pa = some ⟨g, 0, none⟩ := h2
    subst hpa
    exact ⟨g, S, M, R, K, _, _, _, _, _, _, _, _, _, _, _, _, _, _, _, h1, h3, h4, hb⟩
  go_enter Try.func29, Try.ntmps29
  go_wp2_with fail
  refine (HFI.out q1 w).mono ?_
  rintro e W1 ⟨gx, Sx, Mx, Rx, Kx, xq, xa1, xn1, xc1, xa2, xn2, xc2, xa3, xn3, xc3, xa4, xn4, xc4, xl, xd, rfl, m1, k1, b1⟩
  obtain ⟨p11, hp11⟩ : ∃ p, p = W1.heap.size := ⟨_, rfl⟩
  obtain ⟨W2, hW2⟩ : ∃ W, W = W1.alloc (.cells #[.pointer (some ⟨gx, 0, none⟩), .int .i64 xq, .slice xa1 xn1 xc1, .slice xa2 xn2 xc2, .slice xa3 xn3 xc3, .slice xa4 xn4 xc4, .int .i64 xl, .bool xd] 56) := ⟨_, rfl⟩
  have HW2 : Hid (W1.alloc (.cells #[.pointer (some ⟨gx, 0, none⟩), .int .i64 xq, .slice xa1 xn1 xc1, .slice xa2 xn2 xc2, .slice xa3 xn3 xc3, .slice xa4 xn4 xc4, .int .i64 xl, .bool xd] 56) = W2 ∧ W1.heap.size = p11) := ⟨hW2.symm, hp11.symm⟩
  have H2 : Hid (PM w.heap.size 1048579 Kx W1 gx Sx Mx Rx (pvw ⟨some ⟨gx, 0, none⟩, xq, xa1, xn1, xc1, xa2, xn2, xc2, xa3, xn3, xc3, xa4, xn4, xc4, xl, xd⟩) ∧ (∀ q, Kx q → w.heap.size ≤ q) ∧ Below w.heap.size w W1) := ⟨m1, k1, b1⟩
  clear hW2 hp11 m1 k1 b1
  go_upto_region 2 with fail
  rw [HW2.out.1, HW2.out.2]
  go_wp2_with fail
  refine (HFI.out q2 W2).mono ?_
  rintro e W3 ⟨gz, Sz, Mz, Rz, Kz, zq, za1, zn1, zc1, za2, zn2, zc2, za3, zn3, zc3, za4, zn4, zc4, zl, zd, rfl, m2, k2, b2⟩
  obtain ⟨p13, hp13⟩ : ∃ p, p = W3.heap.size := ⟨_, rfl⟩
  obtain ⟨W4, hW4⟩ : ∃ W, W = W3.alloc (.cells #[.pointer (some ⟨gz, 0, none⟩), .int .i64 zq, .slice za1 zn1 zc1, .slice za2 zn2 zc2, .slice za3 zn3 zc3, .slice za4 zn4 zc4, .int .i64 zl, .bool zd] 56) := ⟨_, rfl⟩
  have HW4 : Hid (W3.alloc (.cells #[.pointer (some ⟨gz, 0, none⟩), .int .i64 zq, .slice za1 zn1 zc1, .slice za2 zn2 zc2, .slice za3 zn3 zc3, .slice za4 zn4 zc4, .int .i64 zl, .bool zd] 56) = W4 ∧ W3.heap.size = p13) := ⟨hW4.symm, hp13.symm⟩
  have HF0 : Hid (F2 w.heap.size 1048579 (fun q => Kx q ∨ Kz q) W4 p11 p13 gx Sx Mx Rx ⟨some ⟨gx, 0, none⟩, xq, xa1, xn1, xc1, xa2, xn2, xc2, xa3, xn3, xc3, xa4, xn4, xc4, xl, xd⟩ gz Sz Mz Rz ⟨some ⟨gz, 0, none⟩, zq, za1, zn1, zc1, za2, zn2, zc2, za3, zn3, zc3, za4, zn4, zc4, zl, zd⟩ ∧ Below w.heap.size w W4) := by
    have e2 := HW2.out
    rw [← e2.1] at m2 k2 b2
    rw [← e2.2, hp13, hW4]
    exact f2_new H2.out.1 H2.out.2.1 H2.out.2.2 rfl rfl b2 m2 k2
  have HPP : Hid (w.heap.size ≤ p11 ∧ w.heap.size ≤ p13) := by
    have e1 := H2.out.2.2.size
    have e2 := HW2.out.2
    have e3 := b2.size
    have e4 := heap_one W1 (.cells #[.pointer (some ⟨gx, 0, none⟩), .int .i64 xq, .slice xa1 xn1 xc1, .slice xa2 xn2 xc2, .slice xa3 xn3 xc3, .slice xa4 xn4 xc4, .int .i64 xl, .bool xd] 56)
    rw [HW2.out.1] at e4
    exact ⟨by omega, by omega⟩
  clear hW4 hp13 m2 k2 b2 HFI H2
  go_upto_region 5 with fail
  rw [HW4.out.1, HW4.out.2]
  clear HW2 HW4
  go_wp2_with fail
  go_loopw [14] (fun i wr => ∃ (k gx : Nat) (Sx : Dk.DS) (Mx : Mm) (Rx : RS) (xq : Int) (xa1 : Option Addr) (xn1 xc1 : Nat) (xa2 : Option Addr) (xn2 xc2 : Nat) (xa3 : Option Addr) (xn3 xc3 : Nat) (xa4 : Option Addr) (xn4 xc4 : Nat) (xl : Int) (xd : Bool) (gz : Nat) (Sz : Dk.DS) (Mz : Mm) (Rz : RS) (zq : Int) (za1 : Option Addr) (zn1 zc1 : Nat) (za2 : Option Addr) (zn2 zc2 : Nat) (za3 : Option Addr) (zn3 zc3 : Nat) (za4 : Option Addr) (zn4 zc4 : Nat) (zl : Int) (zd : Bool) (K : Nat → Prop), k ≤ n ∧ i = .int .i64 (k : Int) ∧ F2 w.heap.size (1048579 + k) K wr p11 p13 gx Sx Mx Rx ⟨some ⟨gx, 0, none⟩, xq, xa1, xn1, xc1, xa2, xn2, xc2, xa3, xn3, xc3, xa4, xn4, xc4, xl, xd⟩ gz Sz Mz Rz ⟨some ⟨gz, 0, none⟩, zq, za1, zn1, zc1, za2, zn2, zc2, za3, zn3, zc3, za4, zn4, zc4, zl, zd⟩ ∧ Below w.heap.size w wr) (fun i _ => n - (intOf i).toNat)
  case atStart => exact ⟨0, gx, Sx, Mx, Rx, xq, xa1, xn1, xc1, xa2, xn2, xc2, xa3, xn3, xc3, xa4, xn4, xc4, xl, xd, gz, Sz, Mz, Rz, zq, za1, zn1, zc1, za2, zn2, zc2, za3, zn3, zc3, za4, zn4, zc4, zl, zd, _, Nat.zero_le _, rfl, HF0.out.1, HF0.out.2⟩
  case round =>
    clear HF0
    obtain ⟨k, gx, Sx, Mx, Rx, xq, xa1, xn1, xc1, xa2, xn2, xc2, xa3, xn3, xc3, xa4, xn4, xc4, xl, xd, gz, Sz, Mz, Rz, zq, za1, zn1, zc1, za2, zn2, zc2, za3, zn3, zc3, za4, zn4, zc4, zl, zd, K, hk, rfl, hf, hb⟩ := hrel
    have HR : Hid (F2 w.heap.size (1048579 + k) K wr p11 p13 gx Sx Mx Rx ⟨some ⟨gx, 0, none⟩, xq, xa1, xn1, xc1, xa2, xn2, xc2, xa3, xn3, xc3, xa4, xn4, xc4, xl, xd⟩ gz Sz Mz Rz ⟨some ⟨gz, 0, none⟩, zq, za1, zn1, zc1, za2, zn2, zc2, za3, zn3, zc3, za4, zn4, zc4, zl, zd⟩ ∧ Below w.heap.size w wr) := ⟨hf, hb⟩
    clear hf hb
    by_cases hlt : k < n
    · obtain ⟨b, off, o, hsa, hcell, hok⟩ := HS.out k hlt
      subst hsa
      have key : ∀ i x, (opc o)[i]? = some x → wr.cell? ⟨b, off + k * 8 + i, none⟩ = some x := fun i x hx => (HR.out.2.cell (p := ⟨b, _, none⟩) (World.block_lt_of_cell? _ _ (hcell i x hx))).trans (hcell i x hx)
      have r0 := key 0 _ rfl
      have r1 := key 1 _ rfl
      have r2 := key 2 _ rfl
      have r3 := key 3 _ rfl
      have r4 := key 4 _ rfl
      have r5 := key 5 _ rfl
      have r6 := key 6 _ rfl
      have r7 := key 7 _ rfl
      simp only [Nat.add_zero] at r0
      have HOK : Hid (OpF w o) := hok
      clear hcell hok key
      obtain ⟨p15, hp15⟩ : ∃ p, p = wr.heap.size := ⟨_, rfl⟩
      obtain ⟨W15, hW15⟩ : ∃ W, W = wr.alloc (.cells #[.int .i64 o.k, .bool o.two, .string o.a, .string o.b, .int .i64 o.n, .slice o.da o.data.length o.dc, .slice o.ca o.cs.length o.cc, .slice o.fa o.fn o.fc] 37) := ⟨_, rfl⟩
      have HL15 : Hid (LB W15 p15 37 (opc o)) := by
        rw [hW15, hp15]
        exact lb_new wr (opc o) 37
      have hbu : Below wr.heap.size wr W15 := by
        rw [hW15]
        exact up0 _ _
      have HF : Hid (F2 w.heap.size (1048579 + k) K W15 p11 p13 gx Sx Mx Rx ⟨some ⟨gx, 0, none⟩, xq, xa1, xn1, xc1, xa2, xn2, xc2, xa3, xn3, xc3, xa4, xn4, xc4, xl, xd⟩ gz Sz Mz Rz ⟨some ⟨gz, 0, none⟩, zq, za1, zn1, zc1, za2, zn2, zc2, za3, zn3, zc3, za4, zn4, zc4, zl, zd⟩) := HR.out.1.kept hbu
      have HBW : Hid (Below w.heap.size w W15) := andThen HR.out.2 hbu
      have HW15 : Hid (wr.alloc (.cells #[.int .i64 o.k, .bool o.two, .string o.a, .string o.b, .int .i64 o.n, .slice o.da o.data.length o.dc, .slice o.ca o.cs.length o.cc, .slice o.fa o.fn o.fc] 37) = W15 ∧ wr.heap.size = p15) := ⟨hW15.symm, hp15.symm⟩
      clear hW15 hp15 hbu
      go_upto_region 11 with fail
      rw [HW15.out.1, HW15.out.2]
      clear r0 r1 r2 r3 r4 r5 r6 r7
      generalize (Value.agg #[.int .i64 o.k, .bool o.two, .string o.a, .string o.b, .int .i64 o.n, .slice o.da o.data.length o.dc, .slice o.ca o.cs.length o.cc, .slice o.fa o.fn o.fc]) = AG
      have q0 := HL15.out.cell 0 _ rfl
      have q1 := HL15.out.cell 1 _ rfl
      have q2 := HL15.out.cell 2 _ rfl
      have q3 := HL15.out.cell 3 _ rfl
      have q4 := HL15.out.cell 4 _ rfl
      have q5 := HL15.out.cell 5 _ rfl
      have q6 := HL15.out.cell 6 _ rfl
      have q7 := HL15.out.cell 7 _ rfl
      go_cut [16] from 41 to 68 (fun s wx => (∃ bb, s = .bool bb) ∧ W15 = wx)
      case first =>
        go_wp2_with fail
        all_goals go_meet
        all_goals exact ⟨⟨_, rfl⟩, rfl⟩
      case rest =>
        obtain ⟨⟨bb, rfl⟩, rfl⟩ := hcut
        go_upto_region 12 with fail
        go_cut [81] from 69 to 81 (fun s wx => (∃ bb, s = .bool bb) ∧ W15 = wx)
        case first =>
          cases bb
          all_goals go_wp2_with fail
          all_goals go_meet
          all_goals exact ⟨⟨_, rfl⟩, rfl⟩
        case rest =>
          obtain ⟨⟨cc, rfl⟩, rfl⟩ := hcut
          cases cc with
          | true =>
            go_wp2_with fail
            go_roundw
            case rel => exact ⟨k + 1, gx, Sx, Mx, Rx, xq, xa1, xn1, xc1, xa2, xn2, xc2, xa3, xn3, xc3, xa4, xn4, xc4, xl, xd, gz, Sz, Mz, Rz, zq, za1, zn1, zc1, za2, zn2, zc2, za3, zn3, zc3, za4, zn4, zc4, zl, zd, K, by omega, by go_num, HF.out.mono (by omega), HBW.out⟩
            case measure => simp [intOf]; omega
          | false =>
            cases htwo : o.two with
            | true =>
              rw [htwo] at q1
              have HST : Hid (Calls Try.prog 46 #[.agg #[.pointer (some ⟨gz, 0, none⟩), .int .i64 zq, .slice za1 zn1 zc1, .slice za2 zn2 zc2, .slice za3 zn3 zc3, .slice za4 zn4 zc4, .int .i64 zl, .bool zd], .agg #[.int .i64 o.k, .bool o.two, .string o.a, .string o.b, .int .i64 o.n, .slice o.da o.data.length o.dc, .slice o.ca o.cs.length o.cc, .slice o.fa o.fn o.fc]] W15 fun e w' => ∃ gv Sv Mv Rv Kv vq va1 vn1 vc1 va2 vn2 vc2 va3 vn3 vc3 va4 vn4 vc4 vl vd, e = .returned (.tuple #[.agg #[.pointer (some ⟨gv, 0, none⟩), .int .i64 vq, .slice va1 vn1 vc1, .slice va2 vn2 vc2, .slice va3 vn3 vc3, .slice va4 vn4 vc4, .int .i64 vl, .bool vd], .bool true]) ∧ LB w' p13 56 [.pointer (some ⟨gz, 0, none⟩), .int .i64 zq, .slice za1 zn1 zc1, .slice za2 zn2 zc2, .slice za3 zn3 zc3, .slice za4 zn4 zc4, .int .i64 zl, .bool zd] ∧ F2 w.heap.size (1048579 + k + 1) Kv (putAll w' p13 0 [.pointer (some ⟨gv, 0, none⟩), .int .i64 vq, .slice va1 vn1 vc1, .slice va2 vn2 vc2, .slice va3 vn3 vc3, .slice va4 vn4 vc4, .int .i64 vl, .bool vd]) p13 p11 gv Sv Mv Rv ⟨some ⟨gv, 0, none⟩, vq, va1, vn1, vc1, va2, vn2, vc2, va3, vn3, vc3, va4, vn4, vc4, vl, vd⟩ gx Sx Mx Rx ⟨some ⟨gx, 0, none⟩, xq, xa1, xn1, xc1, xa2, xn2, xc2, xa3, xn3, xc3, xa4, xn4, xc4, xl, xd⟩ ∧ Below w.heap.size w (putAll w' p13 0 [.pointer (some ⟨gv, 0, none⟩), .int .i64 vq, .slice va1 vn1 vc1, .slice va2 vn2 vc2, .slice va3 vn3 vc3, .slice va4 vn4 vc4, .int .i64 vl, .bool vd])) := by
                have f := HF.out.swap
                have h9 := fs_step o f.a (HBW.out.size) ⟨by omega, by omega⟩ (HOK.out.kept HBW.out) (fun hne q z e hq => by
                  have h1 := Bs.old HOK.out.ok.2.1 hne q z e
                  have h2 := (f.a.pm.dm.ft hq).1
                  omega)
                unfold opv pvv at h9
                exact h9.mono fun e w' ⟨gv, Sv, Mv, Rv, Kv, vq, va1, vn1, vc1, va2, vn2, vc2, va3, vn3, vc3, va4, vn4, vc4, vl, vd, h1, h2⟩ => by
                  obtain ⟨h3, h4⟩ := f.step (z := ⟨some ⟨gv, 0, none⟩, vq, va1, vn1, vc1, va2, vn2, vc2, va3, vn3, vc3, va4, vn4, vc4, vl, vd⟩) rfl h2 (Nat.le_succ _)
                  exact ⟨gv, Sv, Mv, Rv, Kv, _, _, _, _, _, _, _, _, _, _, _, _, _, _, _, h1, h3, h4, putAll_bel (HBW.out.trans (h2.fr.below _ HBW.out.size fun q hq => (f.a.pm.dm.ft hq).1)) HPP.out.2 _ _⟩
              rw [htwo] at HST
              have l8 := HF.out.b.box
              have d0 := l8.cell 0 _ rfl
              have d1 := l8.cell 1 _ rfl
              have d2 := l8.cell 2 _ rfl
              have d3 := l8.cell 3 _ rfl
              have d4 := l8.cell 4 _ rfl
              have d5 := l8.cell 5 _ rfl
              have d6 := l8.cell 6 _ rfl
              have d7 := l8.cell 7 _ rfl
              clear l8
              go_wp2_with fail
              refine HST.out.mono ?_
              rintro e w' ⟨gv, Sv, Mv, Rv, Kv, vq, va1, vn1, vc1, va2, vn2, vc2, va3, vn3, vc3, va4, vn4, vc4, vl, vd, rfl, l9, f9, b9⟩
              have H9 : Hid (F2 w.heap.size (1048579 + k + 1) Kv (putAll w' p13 0 [.pointer (some ⟨gv, 0, none⟩), .int .i64 vq, .slice va1 vn1 vc1, .slice va2 vn2 vc2, .slice va3 vn3 vc3, .slice va4 vn4 vc4, .int .i64 vl, .bool vd]) p13 p11 gv Sv Mv Rv ⟨some ⟨gv, 0, none⟩, vq, va1, vn1, vc1, va2, vn2, vc2, va3, vn3, vc3, va4, vn4, vc4, vl, vd⟩ gx Sx Mx Rx ⟨some ⟨gx, 0, none⟩, xq, xa1, xn1, xc1, xa2, xn2, xc2, xa3, xn3, xc3, xa4, xn4, xc4, xl, xd⟩ ∧ Below w.heap.size w (putAll w' p13 0 [.pointer (some ⟨gv, 0, none⟩), .int .i64 vq, .slice va1 vn1 vc1, .slice va2 vn2 vc2, .slice va3 vn3 vc3, .slice va4 vn4 vc4, .int .i64 vl, .bool vd])) := ⟨f9, b9⟩
              clear f9 b9 HST d0 d1 d2 d3 d4 d5 d6 d7
              have d0 := l9.cell 0 _ rfl
              have d1 := l9.cell 1 _ rfl
              have d2 := l9.cell 2 _ rfl
              have d3 := l9.cell 3 _ rfl
              have d4 := l9.cell 4 _ rfl
              have d5 := l9.cell 5 _ rfl
              have d6 := l9.cell 6 _ rfl
              have d7 := l9.cell 7 _ rfl
              have u0 := l9.free 0
              have u1 := l9.free 1
              have u2 := l9.free 2
              have u3 := l9.free 3
              have u4 := l9.free 4
              have u5 := l9.free 5
              have u6 := l9.free 6
              have u7 := l9.free 7
              clear l9
              obtain ⟨W9, hW9⟩ : ∃ W, W = putAll w' p13 0 [.pointer (some ⟨gv, 0, none⟩), .int .i64 vq, .slice va1 vn1 vc1, .slice va2 vn2 vc2, .slice va3 vn3 vc3, .slice va4 vn4 vc4, .int .i64 vl, .bool vd] := ⟨_, rfl⟩
              have HW9 : Hid (((((((((w'.setCell ⟨p13, 0, none⟩ (.pointer (some ⟨gv, 0, none⟩))).setCell ⟨p13, 1, none⟩ (.int .i64 vq)).setCell ⟨p13, 2, none⟩ (.slice va1 vn1 vc1)).setCell ⟨p13, 3, none⟩ (.slice va2 vn2 vc2)).setCell ⟨p13, 4, none⟩ (.slice va3 vn3 vc3)).setCell ⟨p13, 5, none⟩ (.slice va4 vn4 vc4)).setCell ⟨p13, 6, none⟩ (.int .i64 vl)).setCell ⟨p13, 7, none⟩ (.bool vd)) = W9) := hW9.symm
              rw [← hW9] at H9
              clear hW9
              go_upto_region 16 with fail
              rw [HW9.out]
              clear HW9 d0 d1 d2 d3 d4 d5 d6 d7 u0 u1 u2 u3 u4 u5 u6 u7
              go_wp2_with fail
              go_roundw
              case rel => exact ⟨k + 1, gx, Sx, Mx, Rx, xq, xa1, xn1, xc1, xa2, xn2, xc2, xa3, xn3, xc3, xa4, xn4, xc4, xl, xd, gv, Sv, Mv, Rv, vq, va1, vn1, vc1, va2, vn2, vc2, va3, vn3, vc3, va4, vn4, vc4, vl, vd, Kv, by omega, by go_num, H9.out.1.swap, H9.out.2⟩
              case measure => simp [intOf]; omega
            | false =>
              rw [htwo] at q1
              have HST : Hid (Calls Try.prog 46 #[.agg #[.pointer (some ⟨gx, 0, none⟩), .int .i64 xq, .slice xa1 xn1 xc1, .slice xa2 xn2 xc2, .slice xa3 xn3 xc3, .slice xa4 xn4 xc4, .int .i64 xl, .bool xd], .agg #[.int .i64 o.k, .bool o.two, .string o.a, .string o.b, .int .i64 o.n, .slice o.da o.data.length o.dc, .slice o.ca o.cs.length o.cc, .slice o.fa o.fn o.fc]] W15 fun e w' => ∃ gv Sv Mv Rv Kv vq va1 vn1 vc1 va2 vn2 vc2 va3 vn3 vc3 va4 vn4 vc4 vl vd, e = .returned (.tuple #[.agg #[.pointer (some ⟨gv, 0, none⟩), .int .i64 vq, .slice va1 vn1 vc1, .slice va2 vn2 vc2, .slice va3 vn3 vc3, .slice va4 vn4 vc4, .int .i64 vl, .bool vd], .bool true]) ∧ LB w' p11 56 [.pointer (some ⟨gx, 0, none⟩), .int .i64 xq, .slice xa1 xn1 xc1, .slice xa2 xn2 xc2, .slice xa3 xn3 xc3, .slice xa4 xn4 xc4, .int .i64 xl, .bool xd] ∧ F2 w.heap.size (1048579 + k + 1) Kv (putAll w' p11 0 [.pointer (some ⟨gv, 0, none⟩), .int .i64 vq, .slice va1 vn1 vc1, .slice va2 vn2 vc2, .slice va3 vn3 vc3, .slice va4 vn4 vc4, .int .i64 vl, .bool vd]) p11 p13 gv Sv Mv Rv ⟨some ⟨gv, 0, none⟩, vq, va1, vn1, vc1, va2, vn2, vc2, va3, vn3, vc3, va4, vn4, vc4, vl, vd⟩ gz Sz Mz Rz ⟨some ⟨gz, 0, none⟩, zq, za1, zn1, zc1, za2, zn2, zc2, za3, zn3, zc3, za4, zn4, zc4, zl, zd⟩ ∧ Below w.heap.size w (putAll w' p11 0 [.pointer (some ⟨gv, 0, none⟩), .int .i64 vq, .slice va1 vn1 vc1, .slice va2 vn2 vc2, .slice va3 vn3 vc3, .slice va4 vn4 vc4, .int .i64 vl, .bool vd])) := by
                have f := HF.out
                have h9 := fs_step o f.a (HBW.out.size) ⟨by omega, by omega⟩ (HOK.out.kept HBW.out) (fun hne q z e hq => by
                  have h1 := Bs.old HOK.out.ok.2.1 hne q z e
                  have h2 := (f.a.pm.dm.ft hq).1
                  omega)
                unfold opv pvv at h9
                exact h9.mono fun e w' ⟨gv, Sv, Mv, Rv, Kv, vq, va1, vn1, vc1, va2, vn2, vc2, va3, vn3, vc3, va4, vn4, vc4, vl, vd, h1, h2⟩ => by
                  obtain ⟨h3, h4⟩ := f.step (z := ⟨some ⟨gv, 0, none⟩, vq, va1, vn1, vc1, va2, vn2, vc2, va3, vn3, vc3, va4, vn4, vc4, vl, vd⟩) rfl h2 (Nat.le_succ _)
                  exact ⟨gv, Sv, Mv, Rv, Kv, _, _, _, _, _, _, _, _, _, _, _, _, _, _, _, h1, h3, h4, putAll_bel (HBW.out.trans (h2.fr.below _ HBW.out.size fun q hq => (f.a.pm.dm.ft hq).1)) HPP.out.1 _ _⟩
              rw [htwo] at HST
              have l8 := HF.out.a.box
              have d0 := l8.cell 0 _ rfl
              have d1 := l8.cell 1 _ rfl
              have d2 := l8.cell 2 _ rfl
              have d3 := l8.cell 3 _ rfl
              have d4 := l8.cell 4 _ rfl
              have d5 := l8.cell 5 _ rfl
              have d6 := l8.cell 6 _ rfl
              have d7 := l8.cell 7 _ rfl
              clear l8
              go_wp2_with fail
              refine HST.out.mono ?_
              rintro e w' ⟨gv, Sv, Mv, Rv, Kv, vq, va1, vn1, vc1, va2, vn2, vc2, va3, vn3, vc3, va4, vn4, vc4, vl, vd, rfl, l9, f9, b9⟩
              have H9 : Hid (F2 w.heap.size (1048579 + k + 1) Kv (putAll w' p11 0 [.pointer (some ⟨gv, 0, none⟩), .int .i64 vq, .slice va1 vn1 vc1, .slice va2 vn2 vc2, .slice va3 vn3 vc3, .slice va4 vn4 vc4, .int .i64 vl, .bool vd]) p11 p13 gv Sv Mv Rv ⟨some ⟨gv, 0, none⟩, vq, va1, vn1, vc1, va2, vn2, vc2, va3, vn3, vc3, va4, vn4, vc4, vl, vd⟩ gz Sz Mz Rz ⟨some ⟨gz, 0, none⟩, zq, za1, zn1, zc1, za2, zn2, zc2, za3, zn3, zc3, za4, zn4, zc4, zl, zd⟩ ∧ Below w.heap.size w (putAll w' p11 0 [.pointer (some ⟨gv, 0, none⟩), .int .i64 vq, .slice va1 vn1 vc1, .slice va2 vn2 vc2, .slice va3 vn3 vc3, .slice va4 vn4 vc4, .int .i64 vl, .bool vd])) := ⟨f9, b9⟩
              clear f9 b9 HST d0 d1 d2 d3 d4 d5 d6 d7
              have d0 := l9.cell 0 _ rfl
              have d1 := l9.cell 1 _ rfl
              have d2 := l9.cell 2 _ rfl
              have d3 := l9.cell 3 _ rfl
              have d4 := l9.cell 4 _ rfl
              have d5 := l9.cell 5 _ rfl
              have d6 := l9.cell 6 _ rfl
              have d7 := l9.cell 7 _ rfl
              have u0 := l9.free 0
              have u1 := l9.free 1
              have u2 := l9.free 2
              have u3 := l9.free 3
              have u4 := l9.free 4
              have u5 := l9.free 5
              have u6 := l9.free 6
              have u7 := l9.free 7
              clear l9
              obtain ⟨W9, hW9⟩ : ∃ W, W = putAll w' p11 0 [.pointer (some ⟨gv, 0, none⟩), .int .i64 vq, .slice va1 vn1 vc1, .slice va2 vn2 vc2, .slice va3 vn3 vc3, .slice va4 vn4 vc4, .int .i64 vl, .bool vd] := ⟨_, rfl⟩
              have HW9 : Hid (((((((((w'.setCell ⟨p11, 0, none⟩ (.pointer (some ⟨gv, 0, none⟩))).setCell ⟨p11, 1, none⟩ (.int .i64 vq)).setCell ⟨p11, 2, none⟩ (.slice va1 vn1 vc1)).setCell ⟨p11, 3, none⟩ (.slice va2 vn2 vc2)).setCell ⟨p11, 4, none⟩ (.slice va3 vn3 vc3)).setCell ⟨p11, 5, none⟩ (.slice va4 vn4 vc4)).setCell ⟨p11, 6, none⟩ (.int .i64 vl)).setCell ⟨p11, 7, none⟩ (.bool vd)) = W9) := hW9.symm
              rw [← hW9] at H9
              clear hW9
              go_upto_region 16 with fail
              rw [HW9.out]
              clear HW9 d0 d1 d2 d3 d4 d5 d6 d7 u0 u1 u2 u3 u4 u5 u6 u7
              go_wp2_with fail
              go_roundw
              case rel => exact ⟨k + 1, gv, Sv, Mv, Rv, vq, va1, vn1, vc1, va2, vn2, vc2, va3, vn3, vc3, va4, vn4, vc4, vl, vd, gz, Sz, Mz, Rz, zq, za1, zn1, zc1, za2, zn2, zc2, za3, zn3, zc3, za4, zn4, zc4, zl, zd, Kv, by omega, by go_num, H9.out.1, H9.out.2⟩
              case measure => simp [intOf]; omega
    · go_wp2_with fail
      go_returns
      exact ⟨rfl, HR.out.2⟩
end Go.Proofs.Ytjepeeopjjnglab

/-
  DiskReads and its kin: the arguments; the walks.
-/
namespace Go.Proofs.Ytjepeeopjjnglab
open Go.ChangeShapes Go.WideShapes Go.ChangeAt Go.RowKit
open Wb
open Rd
theorem bulk_mem {H : Type} {x : DataW H} : ∀ {l : List (DataW H)}, x ∈ l → Rows.uptoBulk x ≤ Rows.uptoBulkAll l
  | y :: r, h => by
    rw [Rows.uptoBulkAll]
    rcases List.mem_cons.1 h with e | e
    · rw [e]
      omega
    · have := bulk_mem e
      omega
theorem bulk_sum {H : Type} (f : Nat → Nat) (D : Nat → DataW H) : ∀ l : List Nat, (∀ k ∈ l, f k ≤ Rows.uptoBulk (D k)) → (l.map f).sum ≤ Rows.uptoBulkAll (l.map D)
  | [], _ => by simp
  | k :: r, h => by
    rw [List.map_cons, List.map_cons, List.sum_cons, Rows.uptoBulkAll]
    have h1 := h k (List.mem_cons_self ..)
    have h2 := bulk_sum f D r fun j hj => h j (List.mem_cons_of_mem _ hj)
    omega
/-- a slice has no more elements than its bulk -/
theorem slice_bulk {H : Type} {enc : TypeId × Value → H} {W : World} {fuel : Nat} {t e : TypeId} {v : Value} {d : DataW H} {p : List MemPlace} (ht : Try.prog.underlying t = some (.slice e)) (h : DataW.trod enc Try.prog W 0 (fun _ => true) true fuel t [v] = some (d, p)) : ∃ a n c, v = .slice a n c ∧ n ≤ Rows.uptoBulk d := by
  rcases Deep.open_slice ht h with ⟨hcs, hx⟩ | ⟨a, len, cap, m, n, D, Pl, hcs, _, hl, hm, hmm, hx, hel⟩
  · simp at hcs
    exact ⟨_, _, _, hcs, Nat.zero_le _⟩
  · simp at hcs
    simp only [Prod.mk.injEq] at hx
    refine ⟨_, _, _, hcs, ?_⟩
    rw [hx.1]
    simp only [Rows.uptoBulk]
    have h9 := bulk_count ((List.range len).map D)
    simp only [List.length_map, List.length_range] at h9
    omega
theorem open_bsB {H : Type} {enc : TypeId × Value → H} {W : World} {fuel : Nat} {v : Value} {d : DataW H} {p : List MemPlace}
    (h : DataW.trod enc Try.prog W 0 (fun _ => true) true fuel 29 [v] = some (d, p)) : ∃ l, Bs W v l ∧ l.length ≤ Rows.uptoBulk d := by
  obtain ⟨l, hb⟩ := open_bs6 h
  obtain ⟨a, n, c, e, hn⟩ := slice_bulk Try.underlying29 h
  obtain ⟨a2, c2, e2, -⟩ := hb.shape
  rw [e] at e2
  simp only [Value.slice.injEq] at e2
  exact ⟨l, hb, by omega⟩
theorem open_cutsB {H : Type} {enc : TypeId × Value → H} {W : World} {fuel : Nat} {v : Value} {d : DataW H} {p : List MemPlace} (h : DataW.trod enc Try.prog W 0 (fun _ => true) true fuel 23 [v] = some (d, p)) : ∃ cs, CtS W v cs ∧ cs.length ≤ Rows.uptoBulk d := by
  obtain ⟨l, hb⟩ := open_cuts h
  obtain ⟨a, n, c, e, hn⟩ := slice_bulk Try.underlying23 h
  obtain ⟨a2, c2, e2, -⟩ := id hb
  rw [e] at e2
  simp only [Value.slice.injEq] at e2
  exact ⟨l, hb, by omega⟩
theorem cellsTAFILE6 : Try.prog.cellsOf 65 = 2 := by kernel_rfl
set_option maxRecDepth 100000 in
theorem open_file {H : Type} {enc : TypeId × Value → H} {W : World} {fuel : Nat} {cs : List Value} {d : DataW H} {p : List MemPlace} (hf : DataW.trod enc Try.prog W 0 (fun _ => true) true fuel 65 cs = some (d, p)) (hlen : cs.length = 2) :
    ∃ (s : List UInt8) (dv : Value) (l : List Nat), cs = [enS s, dv] ∧ s.length ≤ maxLen ∧ Bs W dv l ∧ l.length ≤ Rows.uptoBulk d := by
  obtain ⟨xs, k', _, hxy, _, hxl, hfs⟩ := DataW.trod_struct Try.underlying65 hf
  match xs, hxl, cs, hlen with
  | [y0, y1], _, [v0, v1], _ =>
    have g0 := hfs 0 _ rfl
    have g1 := hfs 1 _ rfl
    simp [cellsTSTR6, cellsTBS6] at g0 g1
    obtain ⟨z0, e0, _, b0⟩ := DataW.trod_string Try.underlying9 g0
    obtain ⟨l, hl, hb⟩ := open_bsB (d := y1.1) (p := y1.2) g1
    simp only [List.cons.injEq, and_true] at e0
    simp only [Prod.mk.injEq] at hxy
    refine ⟨z0.data.toList, v1, l, ?_, ?_, hl, ?_⟩
    · rw [e0]
      simp [enS]
    · simpa using b0
    · rw [hxy.1]
      simp only [Rows.uptoBulk, List.map_cons, List.map_nil, Rows.uptoBulkAll]
      omega
set_option maxRecDepth 100000 in
theorem open_filesB {H : Type} {enc : TypeId × Value → H} {W : World} {fuel : Nat} {v : Value} {d : DataW H} {p : List MemPlace} (hf : DataW.trod enc Try.prog W 0 (fun _ => true) true fuel 35 [v] = some (d, p)) : ∃ fs, Fls (fun _ => True) W v fs ∧ fs.length ≤ Rows.uptoBulk d ∧ (∀ x ∈ fs, x.1.length ≤ maxLen) ∧ Dk.flen fs ≤ Rows.uptoBulk d := by
  rcases Deep.open_slice Try.underlying35 hf with ⟨hcs, _⟩ | ⟨a, len, cap, m, n, D, Pl, hcs, _, hl, hm, hmm, hx, hel⟩
  · simp at hcs
    subst hcs
    exact ⟨[], fls_nil W, Nat.zero_le _, (fun x hx => by cases hx), Nat.zero_le _⟩
  · simp at hcs
    subst hcs
    have each : ∀ k, k < len → ∃ q : List UInt8 × List Nat, (∃ b off, a = ⟨b, off, none⟩ ∧ W.cell? ⟨b, off + k * 2, none⟩ = some (enS q.1) ∧ ∃ dv, W.cell? ⟨b, off + k * 2 + 1, none⟩ = some dv ∧ Bs W dv q.2) ∧ q.1.length ≤ maxLen ∧ q.2.length ≤ Rows.uptoBulk (D k) := fun k hk => by
      have hkm : k < m := by rw [hmm]; simp; omega
      obtain ⟨cs', h1, h2⟩ := hel k hkm
      rw [cellsTAFILE6] at h1
      obtain ⟨_, hlen, hcell⟩ := World.cells?_some h1
      obtain ⟨s, dv, l, rfl, i1, i2, i3⟩ := open_file h2 hlen
      have r0 := hcell 0 (by omega)
      have r1 := hcell 1 (by omega)
      rw [Deep.add_add] at r0 r1
      have hspot : a.spot = none := by
        obtain ⟨cs0, h10, _⟩ := hel 0 (by omega)
        rw [cellsTAFILE6] at h10
        obtain ⟨_, hl0, hc0⟩ := World.cells?_some h10
        have r9 := hc0 0 (by omega)
        rw [List.getElem?_eq_getElem (show 0 < cs0.length by omega)] at r9
        simpa [Addr.add] using World.cell?_spot r9
      obtain ⟨b, off, spot⟩ := a
      obtain rfl : spot = none := hspot
      rw [Go.WideShapes.add_plain] at r0 r1
      exact ⟨(s, l), ⟨b, off, rfl, by simpa using r0, dv, by simpa [Nat.add_assoc] using r1, i2⟩, i1, i3⟩
    obtain ⟨q, hq⟩ := Deep.choose_lt each
    have hql : ((List.range len).map q).length = len := by simp
    simp only [Prod.mk.injEq] at hx
    have hbk : Rows.uptoBulkAll ((List.range len).map D) ≤ Rows.uptoBulk d := by
      rw [hx.1]
      simp only [Rows.uptoBulk]
      omega
    refine ⟨(List.range len).map q, ⟨some a, cap, by rw [hql], by rw [hql]; exact hl, hm, fun hne => ?_⟩, ?_, fun x hx2 => ?_, ?_⟩
    · have hpos : 0 < len := by
        rw [← hql]
        exact List.length_pos_iff.2 hne
      obtain ⟨⟨b, off, rfl, -⟩, -⟩ := hq 0 hpos
      refine ⟨b, off, rfl, trivial, fun j hj => ?_⟩
      rw [hql] at hj
      obtain ⟨⟨b2, off2, e, c0, dv, c1, c2⟩, -⟩ := hq j hj
      simp only [Addr.mk.injEq, and_true] at e
      obtain ⟨rfl, rfl⟩ := e
      simp only [List.getElem_map, List.getElem_range]
      exact ⟨c0, dv, c1, c2, fun _ _ _ _ _ => trivial⟩
    · rw [hql]
      have h9 := bulk_count ((List.range len).map D)
      simp only [List.length_map, List.length_range] at h9
      omega
    · obtain ⟨k, hk, rfl⟩ := List.mem_map.1 hx2
      exact (hq k (List.mem_range.1 hk)).2.1
    · unfold Dk.flen
      rw [List.map_map]
      refine Nat.le_trans (bulk_sum _ D _ fun k hk => ?_) hbk
      exact (hq k (List.mem_range.1 hk)).2.2
set_option maxRecDepth 100000 in
set_option maxHeartbeats 2000000 in
theorem open_opF {H : Type} {enc : TypeId × Value → H} {W : World} {fuel : Nat} {cs : List Value} {d : DataW H} {p : List MemPlace} (hf : DataW.trod enc Try.prog W 0 (fun _ => true) true fuel 37 cs = some (d, p)) (hlen : cs.length = 8) (hbk : Rows.uptoBulk d ≤ 1048576) :
    ∃ o : Rop, cs = opc o ∧ OpF W o := by
  obtain ⟨xs, k', _, hxy, _, hxl, hfs⟩ := DataW.trod_struct Try.underlying37 hf
  match xs, hxl, cs, hlen with
  | [y0, y1, y2, y3, y4, y5, y6, y7], _, [v0, v1, v2, v3, v4, v5, v6, v7], _ =>
    have g0 := hfs 0 _ rfl
    have g1 := hfs 1 _ rfl
    have g2 := hfs 2 _ rfl
    have g3 := hfs 3 _ rfl
    have g4 := hfs 4 _ rfl
    have g5 := hfs 5 _ rfl
    have g6 := hfs 6 _ rfl
    have g7 := hfs 7 _ rfl
    simp [cellsTI6, cellsTBOOL6, cellsTSTR6, cellsTBS6, cellsTCUTS6, cellsTAFILES6] at g0 g1 g2 g3 g4 g5 g6 g7
    simp only [Prod.mk.injEq] at hxy
    rw [hxy.1] at hbk
    simp only [Rows.uptoBulk, List.map_cons, List.map_nil, Rows.uptoBulkAll] at hbk
    obtain ⟨z0, e0, _, b0⟩ := DataW.trod_int Try.underlying3 g0
    obtain ⟨z1, e1, _⟩ := DataW.trod_bool Try.underlying4 g1
    obtain ⟨z2, e2, _, b2⟩ := DataW.trod_string Try.underlying9 g2
    obtain ⟨z3, e3, _, b3⟩ := DataW.trod_string Try.underlying9 g3
    obtain ⟨z4, e4, _, b4⟩ := DataW.trod_int Try.underlying3 g4
    obtain ⟨l5, hb5, n5⟩ := open_bsB (d := y5.1) (p := y5.2) g5
    obtain ⟨l6, hb6, n6⟩ := open_cutsB (d := y6.1) (p := y6.2) g6
    obtain ⟨fs, hb7, n7, m7, k7⟩ := open_filesB (d := y7.1) (p := y7.2) g7
    obtain ⟨fa, fc, e7, -⟩ := hb7.sh
    obtain ⟨da, dc, e5, -⟩ := hb5.shape
    obtain ⟨ca, cc, e6, -⟩ := id hb6
    simp only [List.cons.injEq, and_true] at e0 e1 e2 e3 e4
    subst e0 e1 e2 e3 e4 e5 e6 e7
    exact ⟨⟨z0, z1, z2, z3, z4, da, dc, l5, ca, cc, l6, fa, fs.length, fc⟩, rfl, ⟨⟨b2, b3⟩, hb5, hb6, by
      have h9 := bounds_i64 b4
      show z4 ≤ _
      omega⟩, by show l5.length ≤ _; omega, by show l6.length ≤ _; omega, fs, hb7, by omega, m7, by omega⟩
set_option maxRecDepth 100000 in
theorem open_opsF {H : Type} {enc : TypeId × Value → H} {W : World} {base : Nat} {v : Value} {d : DataW H} {p : List MemPlace} (hv : Value.okWide Try.prog W .any base 22 v)
    (h : DataW.Trod enc Try.prog W 0 (fun _ => true) true 22 v d p) (hw : Rows.uptoBulk d ≤ 1048576) : ∃ n, OpsF W v n ∧ n ≤ 1048576 := by
  obtain ⟨a0, len0, cap0, rfl⟩ := okWide_slice Try.underlying22 hv
  obtain ⟨fuel, hf⟩ := h
  rcases Deep.open_slice Try.underlying22 hf with ⟨hcs, _⟩ | ⟨a, len, cap, m, n, D, Pl, hcs, _, hl, hm, hmm, hx, hel⟩
  · simp [Value.cells] at hcs
    obtain ⟨rfl, rfl, rfl⟩ := hcs
    exact ⟨0, ⟨none, 0, rfl, Nat.le_refl _, by simp [maxLen], fun k hk => absurd hk (Nat.not_lt_zero _)⟩, Nat.zero_le _⟩
  · simp [Value.cells] at hcs
    obtain ⟨rfl, rfl, rfl⟩ := hcs
    simp only [Prod.mk.injEq] at hx
    rw [hx.1] at hw
    simp only [Rows.uptoBulk] at hw
    refine ⟨len0, ⟨some a, cap0, rfl, hl, hm, fun k hk => ?_⟩, ?_⟩
    · have hkm : k < m := by rw [hmm]; simp; omega
      have hspot : a.spot = none := by
        obtain ⟨cs0, h10, _⟩ := hel 0 (by omega)
        rw [cellsTOP6] at h10
        obtain ⟨_, hl0, hc0⟩ := World.cells?_some h10
        have r0 := hc0 0 (by omega)
        rw [List.getElem?_eq_getElem (show 0 < cs0.length by omega)] at r0
        simpa [Addr.add] using World.cell?_spot r0
      obtain ⟨cs', h1, h2⟩ := hel k hkm
      rw [cellsTOP6] at h1
      obtain ⟨_, hlen, hcell⟩ := World.cells?_some h1
      have hbk : Rows.uptoBulk (D k) ≤ 1048576 := by
        have h9 := bulk_mem (x := D k) (l := (List.range len0).map D) (List.mem_map.2 ⟨k, List.mem_range.2 hk, rfl⟩)
        omega
      obtain ⟨o, rfl, ho⟩ := open_opF h2 hlen hbk
      obtain ⟨b, off, spot⟩ := a
      obtain rfl : spot = none := hspot
      refine ⟨b, off, o, rfl, fun j u hu => ?_, ho⟩
      have hj : j < 8 := by have := (List.getElem?_eq_some_iff.1 hu).1; omega
      have := hcell j hj
      rw [Deep.add_add, Go.WideShapes.add_plain, ← Nat.add_assoc, hu] at this
      exact this
    · have h9 := bulk_count ((List.range len0).map D)
      simp only [List.length_map, List.length_range] at h9
      omega
set_option maxRecDepth 100000 in
theorem open_filesA {H : Type} {enc : TypeId × Value → H} {W : World} {base : Nat} {v : Value} {d : DataW H} {p : List MemPlace} (hv : Value.okWide Try.prog W .any base 35 v)
    (h : DataW.Trod enc Try.prog W 0 (fun _ => true) true 35 v d p) (hw : Rows.uptoBulk d ≤ 1048576) : ∃ fs, Fls (fun _ => True) W v fs ∧ fs.length ≤ 1048576 ∧ (∀ x ∈ fs, x.1.length ≤ maxLen) ∧ Dk.flen fs ≤ 1048576 := by
  obtain ⟨a0, len0, cap0, rfl⟩ := okWide_slice Try.underlying35 hv
  obtain ⟨fuel, hf⟩ := h
  obtain ⟨fs, h1, h2, h3, h4⟩ := open_filesB (v := .slice a0 len0 cap0) hf
  exact ⟨fs, h1, Nat.le_trans h2 hw, h3, Nat.le_trans h4 hw⟩
set_option maxRecDepth 100000 in
theorem diskReads_walk (q1 q2 : Int) (vs : Value) (n : Nat) (w : World) (hs : OpsF w vs n) (hn : n ≤ 1048576) :
    Calls Try.prog 5 #[.int .i64 q1, .int .i64 q2, vs] w fun e w' => e = .returned (.bool true) ∧ Below w.heap.size w w' := by
  have H : Hid (∀ lo hi : Int, Calls Try.prog 29 #[.int .i64 q1, .int .i64 q2, vs, .int .i64 lo, .int .i64 hi] w fun e w' => e = .returned (.bool true) ∧ Below w.heap.size w w') := fun lo hi => dlplays_any q1 q2 vs n lo hi w hs hn
  obtain ⟨sa, sc, rfl, -⟩ := hs
  go_enter Try.func5, Try.ntmps5
  go_wp2_with fail
  refine (H.out _ _).mono ?_
  rintro e W ⟨rfl, hb⟩
  go_wp2_with fail
  go_returns
  exact ⟨rfl, hb⟩
set_option maxRecDepth 100000 in
theorem diskLists_walk (q1 q2 : Int) (vs : Value) (n : Nat) (w : World) (hs : OpsF w vs n) (hn : n ≤ 1048576) :
    Calls Try.prog 6 #[.int .i64 q1, .int .i64 q2, vs] w fun e w' => e = .returned (.bool true) ∧ Below w.heap.size w w' := by
  have H : Hid (∀ lo hi : Int, Calls Try.prog 29 #[.int .i64 q1, .int .i64 q2, vs, .int .i64 lo, .int .i64 hi] w fun e w' => e = .returned (.bool true) ∧ Below w.heap.size w w') := fun lo hi => dlplays_any q1 q2 vs n lo hi w hs hn
  obtain ⟨sa, sc, rfl, -⟩ := hs
  go_enter Try.func6, Try.ntmps6
  go_wp2_with fail
  refine (H.out _ _).mono ?_
  rintro e W ⟨rfl, hb⟩
  go_wp2_with fail
  go_returns
  exact ⟨rfl, hb⟩
set_option maxRecDepth 100000 in
theorem diskCrashes_walk (q1 q2 : Int) (vs : Value) (n : Nat) (w : World) (hs : OpsF w vs n) (hn : n ≤ 1048576) :
    Calls Try.prog 7 #[.int .i64 q1, .int .i64 q2, vs] w fun e w' => e = .returned (.bool true) ∧ Below w.heap.size w w' := by
  have H : Hid (∀ lo hi : Int, Calls Try.prog 29 #[.int .i64 q1, .int .i64 q2, vs, .int .i64 lo, .int .i64 hi] w fun e w' => e = .returned (.bool true) ∧ Below w.heap.size w w') := fun lo hi => dlplays_any q1 q2 vs n lo hi w hs hn
  obtain ⟨sa, sc, rfl, -⟩ := hs
  go_enter Try.func7, Try.ntmps7
  go_wp2_with fail
  refine (H.out _ _).mono ?_
  rintro e W ⟨rfl, hb⟩
  go_wp2_with fail
  go_returns
  exact ⟨rfl, hb⟩
set_option maxRecDepth 100000 in
theorem diskPlays_walk (q1 q2 : Int) (vs : Value) (n : Nat) (w : World) (hs : OpsF w vs n) (hn : n ≤ 1048576) :
    Calls Try.prog 8 #[.int .i64 q1, .int .i64 q2, vs] w fun e w' => e = .returned (.bool true) ∧ Below w.heap.size w w' := by
  have H : Hid (∀ lo hi : Int, Calls Try.prog 29 #[.int .i64 q1, .int .i64 q2, vs, .int .i64 lo, .int .i64 hi] w fun e w' => e = .returned (.bool true) ∧ Below w.heap.size w w') := fun lo hi => dlplays_any q1 q2 vs n lo hi w hs hn
  obtain ⟨sa, sc, rfl, -⟩ := hs
  go_enter Try.func8, Try.ntmps8
  go_wp2_with fail
  refine (H.out _ _).mono ?_
  rintro e W ⟨rfl, hb⟩
  go_wp2_with fail
  go_returns
  exact ⟨rfl, hb⟩
end Go.Proofs.Ytjepeeopjjnglab
