import Derived.Test.YtenhaogheilmoaaDoorQV6
/-
  Package archive: the reader's readFrames, the walk.
-/
namespace Go.Proofs.YtenhaogheilmoaaDoor
open Go Go.RowKit
open Wb

def TfP (B g : Nat) (bv : Value) (l : List Nat) (vr : Value) (w0 : World) (e : Ending) (w' : World) : Prop :=
  (∃ z : Int, z ≠ 0 ∧ e = .returned (.int .i64 z) ∧ rdF l = none ∧ Below B w0 w' ∧ HasAt w' g) ∨ (e = .returned (.int .i64 0) ∧ (rf l 5).2.2 = 0 ∧ ∃ top n, Ar.nums (rf l 5).1 = some (top, n) ∧ ARd w' g bv (rf l 5).2.1 n (top : Int) vr ∧ OutT B w' vr [] ∧ Below B w0 w')
def TrP (B g : Nat) (bv : Value) (l : List Nat) (m lf : Nat) (tp : Int) (ps : List (Rec × Value)) (w0 : World) (e : Ending) (w' : World) : Prop :=
  (∃ z : Int, z ≠ 0 ∧ e = .returned (.int .i64 z) ∧ (∀ k acc, Ar.recs recC l (k + 1) (m : Int) acc = none) ∧ Below B w0 w' ∧ HasAt w' g) ∨ (e = .returned (.int .i64 0) ∧ ∃ (m2 : Nat) (r : Rec) (d vr' : Value), m < m2 ∧ m2 ≤ l.length ∧ (∀ k acc, Ar.recs recC l (k + 1) (m : Int) acc = Ar.recs recC l k (m2 : Int) (acc ++ [r])) ∧ ARd w' g bv (m2 : Int) lf tp vr' ∧ OutT B w' vr' (ps ++ [(r, d)]) ∧ Below B w0 w')
def TlP (B g : Nat) (bv : Value) (l : List Nat) (m lf : Nat) (tp : Int) (vr : Value) (ps : List (Rec × Value)) (top : Nat) (rs : List Rec) (w0 : World) (e : Ending) (w' : World) : Prop :=
  (∃ z : Int, z ≠ 0 ∧ e = .returned (.int .i64 z) ∧ Ar.fin l top rs (m : Int) = none ∧ Below B w0 w' ∧ HasAt w' g) ∨ (e = .returned (.int .i64 0) ∧ ∃ m2 : Nat, m2 ≤ l.length ∧ (Ar.fin l top rs (m : Int) = if m2 < l.length then none else some (top, rs)) ∧ ARd w' g bv (m2 : Int) lf tp vr ∧ OutT B w' vr ps ∧ Below B w0 w')
set_option maxRecDepth 100000 in
set_option maxHeartbeats 8000000 in
theorem arrfr_any (g : Nat) (bv : Value) (l : List Nat) (w0 w : World) (h : ARd w g bv 5 0 0 (.slice none 0 0)) (hB : w0.heap.size ≤ g) (hbv : Bs w0 bv l) (hll : l.length ≤ 8388608) (hT : Tab w0) (hT2 : Text.TabP 3 .i32 Text.Tx.lets w0) (hG : TagsT w0) (hw : Below w0.heap.size w0 w) :
    Calls Tryd.prog 29 #[.pointer (some ⟨g, 0, none⟩)] w fun e w' => RfPost w0.heap.size g bv (rdF l) w0 e w' := by
  have hmf : ∀ (fn : Fn) (first cap : Array Value) (w : World), (Instr.makeFunc fn first cap).run Tryd.prog w = .ok (.func fn first cap) w := fun _ _ _ _ => rfl
  have H1 : Hid (Calls Tryd.prog 50 #[.pointer (some ⟨g, 0, none⟩), .func (.func 51) #[.pointer (some ⟨g, 0, none⟩)] #[]] w fun e w' => TfP w0.heap.size g bv l (.slice none 0 0) w0 e w') := take_first w0.heap.size g bv l (.slice none 0 0) w0 w h (OutT.nil _ _) hB (hbv.kept hw) hll (hT.kept hw) hw
  have H2 : Hid (∀ (W : World) (m lf : Nat) (tp : Int) (vr : Value) (ps : List (Rec × Value)), ARd W g bv (m : Int) lf tp vr → OutT w0.heap.size W vr ps → ps.length ≤ 10000000 → Below w0.heap.size w0 W → Calls Tryd.prog 50 #[.pointer (some ⟨g, 0, none⟩), .func (.func 52) #[.pointer (some ⟨g, 0, none⟩)] #[]] W fun e w' => TrP w0.heap.size g bv l m lf tp ps w0 e w') := fun W m lf tp vr ps a o n b => take_record w0.heap.size g bv l m lf tp vr ps w0 W a o hB (hbv.kept b) hll n (hT.kept b) (hT2.kept b) (hG.kept b) b
  have H3 : Hid (∀ (W : World) (m lf : Nat) (tp : Int) (vr : Value) (ps : List (Rec × Value)) (top : Nat) (rs : List Rec), ARd W g bv (m : Int) lf tp vr → OutT w0.heap.size W vr ps → m ≤ l.length → Below w0.heap.size w0 W → Calls Tryd.prog 50 #[.pointer (some ⟨g, 0, none⟩), .func (.func 53) #[.pointer (some ⟨g, 0, none⟩)] #[]] W fun e w' => TlP w0.heap.size g bv l m lf tp vr ps top rs w0 e w') := fun W m lf tp vr ps top rs a o hm b => take_last w0.heap.size g bv l m lf tp vr ps w0 W a o hB (hbv.kept b) hm hll (hT.kept b) b top rs
  have HR : Hid (∀ (h0 : (rf l 5).2.2 = 0), ∃ m : Nat, (rf l 5).2.1 = (m : Int) ∧ m ≤ l.length) := fun h0 => by
    obtain ⟨q, m, -, e2, e3, -⟩ := rf_there l 5 hbv.good h0
    exact ⟨m, e2, e3⟩
  have HN9 : Hid (∀ top n, (rf l 5).2.2 = 0 → Ar.nums (rf l 5).1 = some (top, n) → n < 18446744073709551616) := fun top n h0 hn => (Ar.nums_there (Ar.rf_body_ok hbv.good h0) hn).2.2
  obtain ⟨X, hX⟩ : ∃ X, rdF l = X := ⟨_, rfl⟩
  have HX : Hid (rdF l = X) := hX
  obtain ⟨al, cl, rfl, hl1, hl2, hl3, -⟩ := hbv.shape
  have HLL : Hid (l.length ≤ 8388608) := hll
  have HB : Hid (w0.heap.size ≤ g) := hB
  unfold maxLen at hl2
  rw [hX]
  clear h hbv hT hT2 hG hw hll hB hX
  go_enter Tryd.func29, Tryd.ntmps29
  go_wp2_with fail
  refine H1.out.mono ?_
  rintro e w1 (⟨z, hz, rfl, k1, k2, k3⟩ | ⟨rfl, k1, top, n, k2, k3, k4, k5⟩)
  · have hzb : (z != 0) = true := by simp [hz]
    rw [k1] at HX
    have hXn : none = X := HX.out
    subst hXn
    have HF : Hid (Below w0.heap.size w0 w1 ∧ HasAt w1 g) := And.intro k2 k3
    clear k1 k2 k3
    go_wp2_with fail
    go_ret
    exact ⟨HF.out.1, z, hz, rfl, HF.out.2⟩
  · obtain ⟨m0, hm0, hm1⟩ := HR.out k1
    have HXX : Hid ((match Ar.recs recC l n (m0 : Int) [] with | none => none | some (rs, at_) => Ar.fin l top rs at_) = X) := by
      show _ = X
      rw [← HX.out]
      unfold rdF
      rw [if_neg (by omega), k2]
      simp only
      rw [hm0]
      rfl
    rw [hm0] at k3
    obtain ⟨T, hTT⟩ : ∃ T, Ar.recs recC l n (m0 : Int) [] = T := ⟨_, rfl⟩
    rw [hTT] at HXX
    have HS : Hid (∃ (m lf : Nat) (vr : Value) (ps : List (Rec × Value)), ARd w1 g (.slice al l.length cl) (m : Int) lf (top : Int) vr ∧ OutT w0.heap.size w1 vr ps ∧ Below w0.heap.size w0 w1 ∧ Ar.recs recC l lf (m : Int) (ps.map Prod.fst) = T ∧ m ≤ l.length ∧ ps.length ≤ m ∧ lf < 18446744073709551616) := ⟨m0, n, _, [], k3, k4, k5, hTT, hm1, Nat.zero_le _, HN9.out _ _ k1 k2⟩
    clear k1 k2 k3 k4 k5 hm0 hm1 hTT H1 HR HX HN9
    go_wp2_with fail
    go_loopw [] (fun wr => ∃ (m lf : Nat) (vr : Value) (ps : List (Rec × Value)), ARd wr g (.slice al l.length cl) (m : Int) lf (top : Int) vr ∧ OutT w0.heap.size wr vr ps ∧ Below w0.heap.size w0 wr ∧ Ar.recs recC l lf (m : Int) (ps.map Prod.fst) = T ∧ m ≤ l.length ∧ ps.length ≤ m ∧ lf < 18446744073709551616) (fun wr => lflA g wr)
    case atStart => exact HS.out
    case round =>
      obtain ⟨m, lf, vr, ps, a1, o1, b1, e1, hm, hp, hlf⟩ := hrel
      have c2 := LB.cell (show LB wr g 60 _ from a1) 2 _ rfl
      cases lf with
      | zero =>
        have e2 : some (ps.map Prod.fst, (m : Int)) = T := by rw [← e1]; rfl
        subst e2
        have H4 : Hid (Calls Tryd.prog 50 #[.pointer (some ⟨g, 0, none⟩), .func (.func 53) #[.pointer (some ⟨g, 0, none⟩)] #[]] wr fun e w' => TlP w0.heap.size g (.slice al l.length cl) l m 0 (top : Int) vr ps top (ps.map Prod.fst) w0 e w') := H3.out wr m 0 (top : Int) vr ps top (ps.map Prod.fst) a1 o1 hm b1
        have HXF : Hid (Ar.fin l top (ps.map Prod.fst) (m : Int) = X) := HXX.out
        clear a1 o1 b1 e1 hp HS HXX H2 H3
        go_wp2_with fail
        refine H4.out.mono ?_
        rintro e w3 (⟨z, hz, rfl, k1, k2, k3⟩ | ⟨rfl, m2, k1, k2, k3, k4, k5⟩)
        · have hzb : (z != 0) = true := by simp [hz]
          rw [k1] at HXF
          have hXn : none = X := HXF.out
          subst hXn
          have HF : Hid (Below w0.heap.size w0 w3 ∧ HasAt w3 g) := And.intro k2 k3
          clear k1 k2 k3 c2
          go_wp2_with fail
          go_ret
          exact ⟨HF.out.1, z, hz, rfl, HF.out.2⟩
        · have d0 := LB.cell (show LB w3 g 60 _ from k3) 0 _ rfl
          have d1 := LB.cell (show LB w3 g 60 _ from k3) 1 _ rfl
          by_cases hlt : m2 < l.length
          · rw [if_pos hlt] at k2
            rw [k2] at HXF
            have hXn : none = X := HXF.out
            subst hXn
            have HF : Hid (∀ n, RfPost w0.heap.size g (.slice al l.length cl) none w0 (.returned (.int .i64 172)) (w3.drewN n)) := fun n => ⟨bel_drewN k5 n, 172, by decide, rfl, (k3.kept (bel_drewN (Below.refl _ _) n)).has⟩
            have hlb : decide (m2 < l.length) = true := decide_eq_true hlt
            clear k1 k2 k3 k4 k5 c2
            go_wp2_with fail
            go_quiet (fail)
            go_wp2_with fail
            go_ret
            exact HF.out _
          · rw [if_neg hlt] at k2
            rw [k2] at HXF
            have hXn : some (top, ps.map Prod.fst) = X := HXF.out
            subst hXn
            have HF : Hid (∀ n, RfPost w0.heap.size g (.slice al l.length cl) (some (top, ps.map Prod.fst)) w0 (.returned (.int .i64 0)) (w3.drewN n)) := fun n => ⟨bel_drewN k5 n, rfl, _, _, _, ps, k3.kept (bel_drewN (Below.refl _ _) n), k4.kept (bel_drewN (Below.refl _ _) n), rfl⟩
            have hlb : decide (m2 < l.length) = false := decide_eq_false hlt
            clear k1 k2 k3 k4 k5 c2
            go_wp2_with fail
            go_quiet (fail)
            go_wp2_with fail
            go_ret
            exact HF.out _
      | succ lf =>
        have H4 : Hid (Calls Tryd.prog 50 #[.pointer (some ⟨g, 0, none⟩), .func (.func 52) #[.pointer (some ⟨g, 0, none⟩)] #[]] wr fun e w' => TrP w0.heap.size g (.slice al l.length cl) l m (lf + 1) (top : Int) ps w0 e w') := H2.out wr m (lf + 1) (top : Int) vr ps a1 o1 (by have := HLL.out; omega) b1
        have HE1 : Hid (Ar.recs recC l (lf + 1) (m : Int) (ps.map Prod.fst) = T) := e1
        have HP : Hid (ps.length ≤ m ∧ lflA g wr = lf + 1 ∧ lf < 18446744073709551616) := ⟨hp, lflA_is a1, by omega⟩
        have hwr : IntKind.u64.wrap (lf : Int) = (lf : Int) := IntWalk.u64_in _ (by omega)
        have hpos : ((0 : Int) < ((lf + 1 : Nat) : Int)) = True := by simp
        clear a1 o1 b1 e1 hp HS H2 H3 hlf
        go_wp2_with fail
        refine H4.out.mono ?_
        rintro e w3 (⟨z, hz, rfl, k1, k2, k3⟩ | ⟨rfl, m2, r, d, vr', k0, k1, k2, k3, k4, k5⟩)
        · have hzb : (z != 0) = true := by simp [hz]
          have e9 := HE1.out
          rw [k1] at e9
          rw [← e9] at HXX
          have hXn : none = X := HXX.out
          subst hXn
          have HF : Hid (Below w0.heap.size w0 w3 ∧ HasAt w3 g) := And.intro k2 k3
          clear k1 k2 k3 c2 e9
          go_wp2_with fail
          go_ret
          exact ⟨HF.out.1, z, hz, rfl, HF.out.2⟩
        · have d2 := LB.cell (show LB w3 g 60 _ from k3) 2 _ rfl
          have f2 := LB.free (show LB w3 g 60 _ from k3) 2
          have e9 := HE1.out
          rw [k2] at e9
          have HN : Hid (∃ W, W = w3.setCell ⟨g, 2, none⟩ (.int .u64 (lf : Int)) ∧ ARd W g (.slice al l.length cl) (m2 : Int) lf (top : Int) vr' ∧ OutT w0.heap.size W vr' (ps ++ [(r, d)]) ∧ Below w0.heap.size w0 W ∧ Ar.recs recC l lf (m2 : Int) ((ps ++ [(r, d)]).map Prod.fst) = T ∧ m2 ≤ l.length ∧ (ps ++ [(r, d)]).length ≤ m2) := ⟨_, rfl, k3.left lf, k4.set k3 2 _, Below.setCell k5 HB.out _, by rw [List.map_append]; exact e9, k1, by rw [List.length_append]; have := HP.out.1; simp; omega⟩
          clear k0 k1 k2 k3 k4 k5 c2 e9
          go_wp2_with fail
          obtain ⟨W, hW, q1, q2, q3, q4, q5, q6⟩ := HN.out
          rw [← hW]
          exact ⟨⟨m2, lf, vr', _, q1, q2, q3, q4, q5, q6, HP.out.2.2⟩, by rw [lflA_is q1, HP.out.2.1]; omega⟩
end Go.Proofs.YtenhaogheilmoaaDoor
