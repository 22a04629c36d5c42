import Derived.Test.YtenhaogheilmoaaDoorQV5
import Derived.Test.YtenhaogheilmoaaDoorQV3
import Derived.Test.YtenhaogheilmoaaDoorQW2
import Derived.Test.YtenhaogheilmoaaDoorQV4
/-
  Package archive: the reader's record, of any body.
-/
namespace Go.Proofs.YtenhaogheilmoaaDoor
open Go Go.RowKit
open Wb

theorem recOf_not (b : List Nat) (h : ∀ v t, b ≠ 82 :: v :: t) : Ar.recOf recC b = none := by
  unfold Ar.recOf
  split
  · exact absurd rfl (h _ _)
  · rfl
set_option maxRecDepth 100000 in
set_option maxHeartbeats 4000000 in
theorem arrecord_any (B g : Nat) (v : Value) (b : List Nat) (bv : Value) (at_ : Int) (lf : Nat) (tp : Int) (vr : Value) (ps : List (Rec × Value)) (w : World) (h : ARd w g bv at_ lf tp vr) (ho : OutT B w vr ps) (hB : B ≤ g) (hb : Bs w v b) (h0 : 0 < b.length) (hl : b.length ≤ 1048576) (hn : ps.length ≤ 10000000) (hT : Text.TabP 3 .i32 Text.Tx.lets w) (hG : TagsT w) :
    Calls Tryd.prog 52 #[.pointer (some ⟨g, 0, none⟩), v] w fun e w' => RcPost B g bv at_ lf tp vr ps (Ar.recOf recC b) w e w' := by
  have hlt : g < w.heap.size := LB.lt (show LB w g 60 _ from h)
  obtain ⟨ao, cap, rfl, hc1, hc2, -, hcl⟩ := hb.shape
  obtain ⟨bb, off, rfl, hcell⟩ := hcl (List.length_pos_iff.1 h0)
  have x0 : w.cell? ⟨bb, off, none⟩ = some (.int .u8 (b[0] : Int)) := by have := hcell 0 h0; simpa using this
  unfold maxLen at hc2
  by_cases h2 : 2 ≤ b.length
  · by_cases k1 : b[0] = 82
    · have x1 : w.cell? ⟨bb, off + 1, none⟩ = some (.int .u8 (b[1] : Int)) := hcell 1 h2
      have hbe : b = 82 :: b[1] :: b.drop 2 := by
        conv => lhs; rw [← List.drop_zero (l := b), List.drop_eq_getElem_cons h0, List.drop_eq_getElem_cons (i := 1) h2, k1]
      obtain ⟨sv, hsb, hsv⟩ := bs_tail hb 2 h2
      have hrec : Ar.recOf recC b = recD b[1] (b.drop 2) := by
        conv => lhs; rw [hbe]
        rfl
      rw [hrec]
      rw [k1] at x0
      have hc : b[1] < 256 := hb.good _ (List.getElem_mem _)
      obtain ⟨A, hA⟩ : ∃ A, dcd (b[1] : Int) (b.drop 2) = A := ⟨_, rfl⟩
      have e := arrecord_dec B g bb off b.length cap b[1] sv A.2.x (bstr A.2.nm) A.2.l A.1 bv at_ lf tp vr ps w h ho hB hn h2 hc1 (by omega) hc hsv x0 x1 (fun W hW => decode_any (b[1] : Int) sv (b.drop 2) W (hsb.kept hW) (by rw [List.length_drop]; omega) (hT.kept hW) (hG.kept hW) A hA)
      refine e.mono ?_
      intro e w' h1
      unfold recD
      rw [hA]
      exact h1
    · have hrec : Ar.recOf recC b = none := recOf_not b fun v t e => k1 (by simp [e])
      rw [hrec]
      have HF : Hid (RcPost B g bv at_ lf tp vr ps none w (.returned (.int .i64 171)) w) := ⟨Below.refl _ _, 171, by decide, rfl, h, ho⟩
      obtain ⟨c, hc⟩ : ∃ c, b[0] = c := ⟨_, rfl⟩
      rw [hc] at x0 k1
      have hk1 : ((c : Int) != 82) = true := by simp; omega
      clear hc hcell hcl hb h ho hrec hT hG
      go_enter Tryd.func52, Tryd.ntmps52
      go_wp2_with fail
      go_ret
      exact HF.out
  · have h1 : b.length = 1 := by omega
    by_cases k1 : b[0] = 82
    · have hrec : Ar.recOf recC b = none := recOf_not b fun v t e => by rw [e] at h1; simp at h1
      rw [hrec]
      have HF : Hid (RcPost B g bv at_ lf tp vr ps none w (.returned (.int .i64 3)) w) := ⟨Below.refl _ _, 3, by decide, rfl, h, ho⟩
      rw [k1] at x0
      rw [h1] at hc1 ⊢
      clear hcell hcl hb h ho hrec hT hG k1 h2
      go_enter Tryd.func52, Tryd.ntmps52
      go_wp2_with fail
      go_ret
      exact HF.out
    · have hrec : Ar.recOf recC b = none := recOf_not b fun v t e => by rw [e] at h1; simp at h1
      rw [hrec]
      have HF : Hid (RcPost B g bv at_ lf tp vr ps none w (.returned (.int .i64 171)) w) := ⟨Below.refl _ _, 171, by decide, rfl, h, ho⟩
      obtain ⟨c, hc⟩ : ∃ c, b[0] = c := ⟨_, rfl⟩
      rw [hc] at x0 k1
      have hk1 : ((c : Int) != 82) = true := by simp; omega
      clear hc hcell hcl hb h ho hrec hT hG
      go_enter Tryd.func52, Tryd.ntmps52
      go_wp2_with fail
      go_ret
      exact HF.out
end Go.Proofs.YtenhaogheilmoaaDoor

/-
  Package archive: the reader's take, of any look.
-/
namespace Go.Proofs.YtenhaogheilmoaaDoor
open Go Go.RowKit
open Wb

def LkPost (Bd Gd : World → Prop) (e : Ending) (w' : World) : Prop := (∃ z : Int, z ≠ 0 ∧ e = .returned (.int .i64 z) ∧ Bd w') ∨ (e = .returned (.int .i64 0) ∧ Gd w')
def TkPost (g : Nat) (R : List Nat × Int × Nat) (Bd Gd : World → Prop) (w : World) (e : Ending) (w' : World) : Prop :=
  (∃ z : Int, z ≠ 0 ∧ e = .returned (.int .i64 z) ∧ ((R.2.2 ≠ 0 ∧ Below w.heap.size w w') ∨ (R.2.2 = 0 ∧ Bd w'))) ∨ (e = .returned (.int .i64 0) ∧ R.2.2 = 0 ∧ ∃ w2, Gd w2 ∧ w' = w2.setCell ⟨g, 1, none⟩ (.int .i64 R.2.1))
set_option maxRecDepth 100000 in
set_option maxHeartbeats 4000000 in
theorem artake_any (F g : Nat) (bv : Value) (l : List Nat) (at_ : Int) (lf : Nat) (tp : Int) (vr : Value) (w : World) (h : ARd w g bv at_ lf tp vr) (hbv : Bs w bv l) (hll : l.length ≤ 8388608) (hT : Tab w)
    (hF : ∀ a W, (callFunc F a).run Tryd.prog W = .ok (.enter F a) W) (Bd Gd : World → Prop) (hGd : ∀ W, Gd W → ∃ C z, LB W g 60 C ∧ C[1]? = some (.int .i64 z))
    (HL : ∀ v W, (rf l at_).2.2 = 0 → Below w.heap.size w W → Bs W v (rf l at_).1 → Calls Tryd.prog F #[.pointer (some ⟨g, 0, none⟩), v] W fun e w' => LkPost Bd Gd e w') :
    Calls Tryd.prog 50 #[.pointer (some ⟨g, 0, none⟩), .func (.func F) #[.pointer (some ⟨g, 0, none⟩)] #[]] w fun e w' => TkPost g (rf l at_) Bd Gd w e w' := by
  have h : LB w g 60 [bv, .int .i64 at_, .int .u64 (lf : Int), .int .i64 tp, vr] := h
  obtain ⟨al, cl, rfl, hl1, hl2, hl3, -⟩ := hbv.shape
  have HRF : Hid (∀ W, Below w.heap.size w W → Calls Tryd.prog 67 #[.slice al l.length cl, .int .i64 at_] W fun e w'' => ∃ ab cb, e = .returned (.tuple #[.slice ab (rf l at_).1.length cb, .int .i64 (rf l at_).2.1, .int .i64 ((rf l at_).2.2 : Int)]) ∧ Bs w'' (.slice ab (rf l at_).1.length cb) (rf l at_).1 ∧ Below W.heap.size W w'') := fun W hW => (readFrame_any _ l at_ W (hT.kept hW) (hbv.kept hW) (by omega)).mono fun e w'' ⟨v', he, o, b⟩ => by
    obtain ⟨ab, cb, rfl, -⟩ := o.bs.shape
    exact ⟨ab, cb, he, o.bs, b⟩
  have HC : Hid (∀ W, Below w.heap.size w W → W.cell? ⟨g, 0, none⟩ = some (.slice al l.length cl) ∧ W.cell? ⟨g, 1, none⟩ = some (.int .i64 at_)) := fun W hW => ⟨(h.kept hW).cell 0 _ rfl, (h.kept hW).cell 1 _ rfl⟩
  have HF : Hid _ := hF
  have HL' : Hid _ := HL
  have HG : Hid _ := hGd
  have hd0 := Below.drew (Below.refl w.heap.size w)
  generalize rf l at_ = R at *
  obtain ⟨bd, en, er⟩ := R
  simp only at *
  clear h hbv hT hF HL hGd hl1 hl2 hl3
  go_enter Tryd.func50, Tryd.ntmps50
  go_upto_region 1 with fail
  refine wp_region_held_drew (S := fun w' : World => w'.cell? ⟨g, 0, none⟩ = some (.slice al l.length cl) ∧ w'.cell? ⟨g, 1, none⟩ = some (.int .i64 at_)) (by kernel_rfl) (HC.out _ hd0) (fun hH => ?_)
  generalize w.drew = W0 at *
  refine zqk 0 rfl hH ?_
  simp only [Act.put, List.setIfInBounds_toArray, List.set_cons_zero, List.set_cons_succ, List.getElem_toArray, List.getElem_cons_zero]
  refine zqk 1 rfl hH ?_
  simp only [Act.put, List.setIfInBounds_toArray, List.set_cons_zero, List.set_cons_succ, List.getElem_toArray, List.getElem_cons_zero, List.getElem_cons_succ]
  refine zqk 2 rfl hH ?_
  simp only [Act.put, List.setIfInBounds_toArray, List.set_cons_zero, List.set_cons_succ, List.getElem_toArray, List.getElem_cons_zero, List.getElem_cons_succ]
  refine zqk 3 rfl hH ?_
  simp only [Act.put, List.setIfInBounds_toArray, List.set_cons_zero, List.set_cons_succ, List.getElem_toArray, List.getElem_cons_zero, List.getElem_cons_succ]
  refine zqk 4 rfl hH ?_
  simp only [Act.put, List.setIfInBounds_toArray, List.set_cons_zero, List.set_cons_succ, List.getElem_toArray, List.getElem_cons_zero, List.getElem_cons_succ]
  refine zqk 5 rfl hH ?_
  simp only [Act.put, List.setIfInBounds_toArray, List.set_cons_zero, List.set_cons_succ, List.getElem_toArray, List.getElem_cons_zero, List.getElem_cons_succ]
  refine zqk 6 rfl hH ?_
  simp only [Act.put, List.setIfInBounds_toArray, List.set_cons_zero, List.set_cons_succ, List.getElem_toArray, List.getElem_cons_zero, List.getElem_cons_succ]
  refine zqk 7 rfl hH ?_
  simp only [Act.put, List.setIfInBounds_toArray, List.set_cons_zero, List.set_cons_succ, List.getElem_toArray, List.getElem_cons_zero, List.getElem_cons_succ]
  refine zqr 8 rfl (fun K hK => ?_)
  go_simp
  refine (HRF.out _ hd0).mono ?_
  rintro e w1 ⟨ab, cb, rfl, o1, b1⟩
  have B1 := andThen hd0 b1
  refine hK.out _ _ (HC.out _ B1) (fun hH2 => ?_)
  clear hK K hH
  have hH := hH2
  clear hH2
  try simp only [Act.put, List.setIfInBounds_toArray, List.set_cons_zero, List.set_cons_succ, List.getElem_toArray, List.getElem_cons_zero, List.getElem_cons_succ]
  refine zqk 9 rfl hH ?_
  simp only [Act.put, List.setIfInBounds_toArray, List.set_cons_zero, List.set_cons_succ, List.getElem_toArray, List.getElem_cons_zero, List.getElem_cons_succ]
  refine zqk 10 rfl hH ?_
  simp only [Act.put, List.setIfInBounds_toArray, List.set_cons_zero, List.set_cons_succ, List.getElem_toArray, List.getElem_cons_zero, List.getElem_cons_succ]
  refine zqk 11 rfl hH ?_
  simp only [Act.put, List.setIfInBounds_toArray, List.set_cons_zero, List.set_cons_succ, List.getElem_toArray, List.getElem_cons_zero, List.getElem_cons_succ]
  refine zqk 12 rfl hH ?_
  simp only [Act.put, List.setIfInBounds_toArray, List.set_cons_zero, List.set_cons_succ, List.getElem_toArray, List.getElem_cons_zero, List.getElem_cons_succ]
  refine zqk 13 rfl hH ?_
  simp only [Act.put, List.setIfInBounds_toArray, List.set_cons_zero, List.set_cons_succ, List.getElem_toArray, List.getElem_cons_zero, List.getElem_cons_succ]
  refine zqk 14 rfl hH ?_
  simp only [Act.put, List.setIfInBounds_toArray, List.set_cons_zero, List.set_cons_succ, List.getElem_toArray, List.getElem_cons_zero, List.getElem_cons_succ]
  refine zqk 15 rfl hH ?_
  simp only [Act.put, List.setIfInBounds_toArray, List.set_cons_zero, List.set_cons_succ, List.getElem_toArray, List.getElem_cons_zero, List.getElem_cons_succ]
  refine wpAnyH_done (by kernel_rfl) ?_ _
  have H1 : Hid (Bs w1 (.slice ab bd.length cb) bd ∧ Below w.heap.size w w1) := ⟨o1, B1⟩
  clear hH o1 b1 B1 HRF HC hd0
  by_cases k1 : er = 0
  · subst k1
    go_wp2_with fail
    rw [HF.out, Oper.upon_enter]
    refine (HL'.out _ _ (by first | trivial | rfl) H1.out.2 H1.out.1).mono ?_
    rintro e w2 (⟨z, hz, rfl, hb⟩ | ⟨rfl, hg⟩)
    · have hzb : (z != 0) = true := by simp [hz]
      go_wp2_with fail
      go_ret
      exact .inl ⟨z, hz, rfl, .inr ⟨rfl, hb⟩⟩
    · obtain ⟨C, y, LC, hC⟩ := HG.out _ hg
      have c1 := LC.cell 1 _ hC
      have f1 := LC.free 1
      have HGG : Hid _ := hg
      clear LC hC hg
      go_wp2_with fail
      go_ret
      exact .inr ⟨rfl, rfl, _, HGG.out, rfl⟩
  · have hzb : ((er : Int) != 0) = true := by simp; exact k1
    go_wp2_with fail
    go_ret
    exact .inl ⟨(er : Int), by omega, rfl, .inl ⟨k1, H1.out.2⟩⟩
end Go.Proofs.YtenhaogheilmoaaDoor

/-
  Package archive: the reader's readFrames.
-/
namespace Go.Proofs.YtenhaogheilmoaaDoor
open Go Go.RowKit
open Wb

/-- what stands behind the head -/
def rdF (l : List Nat) : Option (Nat × List Rec) :=
  if (rf l 5).2.2 ≠ 0 then none
  else match Ar.nums (rf l 5).1 with
    | none => none
    | some (top, n) => match Ar.recs recC l n (rf l 5).2.1 [] with
      | none => none
      | some (rs, at_) => Ar.fin l top rs at_
/-- the reader's place is there -/
def HasAt (w : World) (g : Nat) : Prop := ∃ C z, LB w g 60 C ∧ C[1]? = some (.int .i64 z)
theorem ARd.has {w : World} {g : Nat} {bv : Value} {at_ : Int} {lf : Nat} {tp : Int} {vr : Value} (h : ARd w g bv at_ lf tp vr) : HasAt w g := ⟨_, _, h, rfl⟩
theorem ARd.kept {w w' : World} {g : Nat} {bv : Value} {at_ : Int} {lf : Nat} {tp : Int} {vr : Value} (h : ARd w g bv at_ lf tp vr) (hb : Below w.heap.size w w') : ARd w' g bv at_ lf tp vr := LB.kept (show LB w g 60 _ from h) hb
theorem ARd.at {w : World} {g : Nat} {bv : Value} {at_ : Int} {lf : Nat} {tp : Int} {vr : Value} (h : ARd w g bv at_ lf tp vr) (z : Int) : ARd (w.setCell ⟨g, 1, none⟩ (.int .i64 z)) g bv z lf tp vr := LB.set (show LB w g 60 _ from h) 1 (.int .i64 z)
theorem ARd.left {w : World} {g : Nat} {bv : Value} {at_ : Int} {lf : Nat} {tp : Int} {vr : Value} (h : ARd w g bv at_ lf tp vr) (n : Nat) : ARd (w.setCell ⟨g, 2, none⟩ (.int .u64 (n : Int))) g bv at_ n tp vr := LB.set (show LB w g 60 _ from h) 2 (.int .u64 (n : Int))
theorem ARd.top {w : World} {g : Nat} {bv : Value} {at_ : Int} {lf : Nat} {tp : Int} {vr : Value} (h : ARd w g bv at_ lf tp vr) (n : Int) : ARd (w.setCell ⟨g, 3, none⟩ (.int .i64 n)) g bv at_ lf n vr := LB.set (show LB w g 60 _ from h) 3 (.int .i64 n)
theorem OutT.set {B : Nat} {w : World} {v : Value} {ps : List (Rec × Value)} {g : Nat} {C : List Value} (h : OutT B w v ps) (L : LB w g 60 C) (j : Nat) (u : Value) : OutT B (w.setCell ⟨g, j, none⟩ u) v ps := h.but L (by decide) (by decide) fun b hb _ => set_other _ _ _ _ hb
def lflA (g : Nat) (w : World) : Nat := match w.cell? ⟨g, 2, none⟩ with
  | some (.int _ z) => z.toNat
  | _ => 0
theorem lflA_is {w : World} {g : Nat} {bv : Value} {at_ : Int} {lf : Nat} {tp : Int} {vr : Value} (h : ARd w g bv at_ lf tp vr) : lflA g w = lf := by
  unfold lflA
  rw [LB.cell (show LB w g 60 _ from h) 2 _ rfl]
  simp
theorem last_zero {l b : List Nat} {m : Nat} : lastP l b m = 0 ↔ b = 69 :: le4 (Wm.crc (l.take m)) := by
  unfold lastP
  constructor
  · intro h
    split at h
    · cases h
    · split at h
      · assumption
      · cases h
  · intro h
    rw [if_neg (by rw [h]; simp), if_pos h]
set_option maxRecDepth 100000 in
/-- take, first -/
theorem take_first (B g : Nat) (bv : Value) (l : List Nat) (vr : Value) (w0 w : World) (h : ARd w g bv 5 0 0 vr) (ho : OutT B w vr []) (hB : B ≤ g) (hbv : Bs w bv l) (hll : l.length ≤ 8388608) (hT : Tab w) (hw : Below B w0 w) :
    Calls Tryd.prog 50 #[.pointer (some ⟨g, 0, none⟩), .func (.func 51) #[.pointer (some ⟨g, 0, none⟩)] #[]] w fun e w' =>
      (∃ z : Int, z ≠ 0 ∧ e = .returned (.int .i64 z) ∧ rdF l = none ∧ Below B w0 w' ∧ HasAt w' g) ∨ (e = .returned (.int .i64 0) ∧ (rf l 5).2.2 = 0 ∧ ∃ top n, Ar.nums (rf l 5).1 = some (top, n) ∧ ARd w' g bv (rf l 5).2.1 n (top : Int) vr ∧ OutT B w' vr [] ∧ Below B w0 w') := by
  have hgl : g < w.heap.size := LB.lt (show LB w g 60 _ from h)
  have e := artake_any 51 g bv l 5 0 0 vr w h hbv hll hT (fun a W => rfl) (fun w' => Ar.nums (rf l 5).1 = none ∧ Below w.heap.size w w') (fun w' => ∃ top n, Ar.nums (rf l 5).1 = some (top, n) ∧ ARd w' g bv 5 n (top : Int) vr ∧ OutT B w' vr [] ∧ Below B w0 w')
    (fun W ⟨top, n, _, h1, _⟩ => h1.has) (fun v W h0 hb hv => by
      obtain ⟨q, m, -, -, -, p1, p2, -⟩ := rf_there l 5 hbv.good h0
      refine (arfirst_any g v _ bv 5 0 0 vr W (h.kept hb) hv p1 p2).mono ?_
      intro e w' hp
      unfold FiPost at hp
      cases hN : Ar.nums (rf l 5).1 with
      | none =>
        rw [hN] at hp
        obtain ⟨rfl, rfl⟩ := hp
        exact .inl ⟨170, by decide, rfl, rfl, hb⟩
      | some tn =>
        obtain ⟨top, n⟩ := tn
        rw [hN] at hp
        obtain ⟨rfl, rfl⟩ := hp
        have a1 := (h.kept hb).top (top : Int)
        refine .inr ⟨rfl, top, n, rfl, a1.left n, ?_, ?_⟩
        · exact ((ho.kept hb).set (h.kept hb) 3 _).set a1 2 _
        · exact Below.setCell (Below.setCell (hw.trans (hb.mono (by omega))) hB _) hB _)
  refine e.mono ?_
  rintro e w' (⟨z, hz, rfl, ⟨k1, hb⟩ | ⟨k1, k2, hb⟩⟩ | ⟨rfl, k1, w2, ⟨top, n, k2, k3, k4, k5⟩, rfl⟩)
  · refine .inl ⟨z, hz, rfl, ?_, hw.trans (hb.mono (by omega)), (h.kept hb).has⟩
    unfold rdF
    rw [if_pos k1]
  · refine .inl ⟨z, hz, rfl, ?_, hw.trans (hb.mono (by omega)), (h.kept hb).has⟩
    unfold rdF
    rw [if_neg (by omega), k2]
  · exact .inr ⟨rfl, k1, top, n, k2, k3.at _, k4.set k3 1 _, Below.setCell k5 hB _⟩
set_option maxRecDepth 100000 in
/-- take, record -/
theorem take_record (B g : Nat) (bv : Value) (l : List Nat) (m lf : Nat) (tp : Int) (vr : Value) (ps : List (Rec × Value)) (w0 w : World) (h : ARd w g bv (m : Int) lf tp vr) (ho : OutT B w vr ps) (hB : B ≤ g) (hbv : Bs w bv l) (hll : l.length ≤ 8388608) (hn : ps.length ≤ 10000000) (hT : Tab w) (hT2 : Text.TabP 3 .i32 Text.Tx.lets w) (hG : TagsT w) (hw : Below B w0 w) :
    Calls Tryd.prog 50 #[.pointer (some ⟨g, 0, none⟩), .func (.func 52) #[.pointer (some ⟨g, 0, none⟩)] #[]] w fun e w' =>
      (∃ z : Int, z ≠ 0 ∧ e = .returned (.int .i64 z) ∧ (∀ k acc, Ar.recs recC l (k + 1) (m : Int) acc = none) ∧ Below B w0 w' ∧ HasAt w' g) ∨ (e = .returned (.int .i64 0) ∧ ∃ (m2 : Nat) (r : Rec) (d vr' : Value), m < m2 ∧ m2 ≤ l.length ∧ (∀ k acc, Ar.recs recC l (k + 1) (m : Int) acc = Ar.recs recC l k (m2 : Int) (acc ++ [r])) ∧ ARd w' g bv (m2 : Int) lf tp vr' ∧ OutT B w' vr' (ps ++ [(r, d)]) ∧ Below B w0 w') := by
  have hgl : g < w.heap.size := LB.lt (show LB w g 60 _ from h)
  have e := artake_any 52 g bv l (m : Int) lf tp vr w h hbv hll hT (fun a W => rfl) (fun w' => Ar.recOf recC (rf l (m : Int)).1 = none ∧ Below B w0 w' ∧ HasAt w' g) (fun w' => ∃ r d vr', Ar.recOf recC (rf l (m : Int)).1 = some r ∧ ARd w' g bv (m : Int) lf tp vr' ∧ OutT B w' vr' (ps ++ [(r, d)]) ∧ Below B w0 w')
    (fun W ⟨r, d, vr', _, h1, _⟩ => h1.has) (fun v W h0 hb hv => by
      obtain ⟨q, m2, -, -, -, p1, p2, -⟩ := rf_there l (m : Int) hbv.good h0
      refine (arrecord_any B g v _ bv (m : Int) lf tp vr ps W (h.kept hb) (ho.kept hb) hB hv p1 p2 hn (hT2.kept hb) (hG.kept hb)).mono ?_
      intro e w' hp
      unfold RcPost at hp
      have hbB : Below B w0 W := hw.trans (hb.mono (by omega))
      cases hN : Ar.recOf recC (rf l (m : Int)).1 with
      | none =>
        rw [hN] at hp
        obtain ⟨b1, z, hz, rfl, a1, -⟩ := hp
        exact .inl ⟨z, hz, rfl, rfl, hbB.trans b1, a1.has⟩
      | some r =>
        rw [hN] at hp
        obtain ⟨b1, rfl, vr', d, a1, o1⟩ := hp
        exact .inr ⟨rfl, r, d, vr', rfl, a1, o1, hbB.trans b1⟩)
  refine e.mono ?_
  rintro e w' (⟨z, hz, rfl, ⟨k1, hb⟩ | ⟨k1, k2, hb, ha⟩⟩ | ⟨rfl, k1, w2, ⟨r, d, vr', k2, k3, k4, k5⟩, rfl⟩)
  · refine .inl ⟨z, hz, rfl, fun k acc => ?_, hw.trans (hb.mono (by omega)), (h.kept hb).has⟩
    rw [Ar.recs, if_pos k1]
  · refine .inl ⟨z, hz, rfl, fun k acc => ?_, hb, ha⟩
    rw [Ar.recs, if_neg (by omega), k2]
  · obtain ⟨q, m2, e1, e2, e3, p1, p2, e6⟩ := rf_there l (m : Int) hbv.good k1
    obtain rfl : q = m := by omega
    have hl := Ar.seg_len e3 e6 (Ar.fr_pos _)
    have hpos := Ar.fr_pos (rf l (q : Int)).1
    rw [e2]
    refine .inr ⟨rfl, m2, r, d, vr', by omega, e3, fun k acc => ?_, k3.at _, k4.set k3 1 _, Below.setCell k5 hB _⟩
    rw [Ar.recs, if_neg (by omega), k2]
    simp only
    rw [e2]
set_option maxRecDepth 100000 in
/-- take, last -/
theorem take_last (B g : Nat) (bv : Value) (l : List Nat) (m lf : Nat) (tp : Int) (vr : Value) (ps : List (Rec × Value)) (w0 w : World) (h : ARd w g bv (m : Int) lf tp vr) (ho : OutT B w vr ps) (hB : B ≤ g) (hbv : Bs w bv l) (hm : m ≤ l.length) (hll : l.length ≤ 8388608) (hT : Tab w) (hw : Below B w0 w) (top : Nat) (rs : List Rec) :
    Calls Tryd.prog 50 #[.pointer (some ⟨g, 0, none⟩), .func (.func 53) #[.pointer (some ⟨g, 0, none⟩)] #[]] w fun e w' =>
      (∃ z : Int, z ≠ 0 ∧ e = .returned (.int .i64 z) ∧ Ar.fin l top rs (m : Int) = none ∧ Below B w0 w' ∧ HasAt w' g) ∨ (e = .returned (.int .i64 0) ∧ ∃ m2 : Nat, m2 ≤ l.length ∧ (Ar.fin l top rs (m : Int) = if m2 < l.length then none else some (top, rs)) ∧ ARd w' g bv (m2 : Int) lf tp vr ∧ OutT B w' vr ps ∧ Below B w0 w') := by
  have hgl : g < w.heap.size := LB.lt (show LB w g 60 _ from h)
  have e := artake_any 53 g bv l (m : Int) lf tp vr w h hbv hll hT (fun a W => rfl) (fun w' => lastP l (rf l (m : Int)).1 m ≠ 0 ∧ Below w.heap.size w w') (fun w' => lastP l (rf l (m : Int)).1 m = 0 ∧ Below w.heap.size w w')
    (fun W ⟨_, h1⟩ => (h.kept h1).has) (fun v W h0 hb hv => by
      obtain ⟨q, m2, -, -, -, p1, p2, -⟩ := rf_there l (m : Int) hbv.good h0
      refine (arlast_all g v _ l bv m lf tp vr W (h.kept hb) (hbv.kept hb) hm (hT.kept hb) hv p1 p2 hll).mono ?_
      rintro e w' ⟨rfl, b1⟩
      by_cases hz : lastP l (rf l (m : Int)).1 m = 0
      · exact .inr ⟨by rw [hz], hz, andThen hb b1⟩
      · exact .inl ⟨_, hz, rfl, hz, andThen hb b1⟩)
  refine e.mono ?_
  rintro e w' (⟨z, hz, rfl, ⟨k1, hb⟩ | ⟨k1, k2, hb⟩⟩ | ⟨rfl, k1, w2, ⟨k2, k3⟩, rfl⟩)
  · refine .inl ⟨z, hz, rfl, ?_, hw.trans (hb.mono (by omega)), (h.kept hb).has⟩
    unfold Ar.fin
    rw [if_pos k1]
  · refine .inl ⟨z, hz, rfl, ?_, hw.trans (hb.mono (by omega)), (h.kept hb).has⟩
    unfold Ar.fin
    rw [if_neg (by omega), if_pos]
    intro h9
    exact k2 (last_zero.2 (by rw [Int.toNat_natCast] at h9; exact h9))
  · obtain ⟨q, m2, e1, e2, e3, p1, p2, e6⟩ := rf_there l (m : Int) hbv.good k1
    refine .inr ⟨rfl, m2, e3, ?_, ?_, ((ho.kept k3).set (h.kept k3) 1 _), Below.setCell (hw.trans (k3.mono (by omega))) hB _⟩
    · unfold Ar.fin
      rw [if_neg (by omega), if_neg (by rw [Int.toNat_natCast]; exact fun h9 => h9 (last_zero.1 k2)), e2]
      by_cases h9 : m2 < l.length
      · rw [if_pos h9, if_pos (by omega)]
      · rw [if_neg h9, if_neg (by omega)]
    · rw [e2]
      exact (h.kept k3).at _
def RfPost (B g : Nat) (bv : Value) (O : Option (Nat × List Rec)) (w0 : World) (e : Ending) (w' : World) : Prop :=
  Below B w0 w' ∧ match O with
  | none => ∃ z : Int, z ≠ 0 ∧ e = .returned (.int .i64 z) ∧ HasAt w' g
  | some (top, rs) => e = .returned (.int .i64 0) ∧ ∃ at_ lf vr ps, ARd w' g bv at_ lf (top : Int) vr ∧ OutT B w' vr ps ∧ ps.map Prod.fst = rs
end Go.Proofs.YtenhaogheilmoaaDoor
