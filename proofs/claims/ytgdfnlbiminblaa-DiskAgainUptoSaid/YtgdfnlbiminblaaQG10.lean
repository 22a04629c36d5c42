import Derived.Test.YtgdfnlbiminblaaRows
import Derived.ProofKit
import Derived.OpenShut
import Derived.ShutString
import Derived.ChangeOld
import Derived.ChangeMaps5
import Derived.Deep.DeepHandedRow
import Derived.Deep.Slices
import Derived.LaidLaws
import Derived.Test.YtgdfnlbiminblaaQG9
/-
  DiskStays and its kin: ready.
-/
namespace Go.Proofs.Ytgdfnlbiminblaa
open Go Go.RowKit Go.ChangeShapes
open Wb

theorem DPost.out {B g : Nat} {S S' : Dk.DS} {M : Mm} {w w' : World} (h : DM B w g S M) (hB : B ≤ w.heap.size) (hp : DPost B g S M w S' w') : ∃ M', DM B w' g S' M' ∧ Below B w w' ∧ B ≤ w'.heap.size := by
  obtain ⟨M', h1, h2, -⟩ := hp
  exact ⟨M', h1, h2.below B hB fun q hq => (h.ft hq).1, Nat.le_trans hB h2.size⟩
theorem dkfiles_wf (B g : Nat) (S : Dk.DS) (M : Mm) (N : Nat) (w : World) (h : DM B w g S M) (hW : Dk.WF S N) (hN : N ≤ 400000000) :
    Calls Try.prog 18 #[.pointer (some ⟨g, 0, none⟩)] w fun e w' => ∃ v, e = .returned v ∧ Fls (w.heap.size ≤ ·) w' v (Dk.files S) ∧ Below w.heap.size w w' :=
  dkfiles_any B g S M w h (fun p hp => ⟨hW.ids p hp, by have := (Dk.isNm_len (hW.nm p hp)).2; omega⟩) (fun f hf => by have := (hW.fl f hf).2; omega) (by have := hW.n1; omega)
theorem dkcrash_wf (B g : Nat) (S : Dk.DS) (M : Mm) (N : Nat) (keep : Int) (cv : Value) (cs : List (Int × Int)) (w : World) (h : DM B w g S M) (hcs : CtS w cv cs) (hW : Dk.WF S N) (hN : N ≤ 400000000) :
    Calls Try.prog 12 #[.pointer (some ⟨g, 0, none⟩), .int .i64 keep, cv] w fun e w' => ∃ v, e = .returned v ∧ Fls (w.heap.size ≤ ·) w' v (Dk.crash S keep cs) ∧ Below w.heap.size w w' :=
  dkcrash_any B g S M keep cv cs w h hcs (fun c hc => by
    obtain ⟨h1, h2⟩ := hW.ch c hc
    refine ⟨by omega, ?_, fun e => ?_⟩
    · by_cases e : c.tow = []
      · rw [e]; simp
      · have := (Dk.isNm_len (h2 e).1).2
        omega
    · obtain ⟨-, f, h3, -⟩ := h2 e
      exact ⟨f, h3⟩) (by have := hW.n2; have := hW.n3; omega) (fun p hp => ⟨(hW.left keep p hp).1, by have := (Dk.isNm_len (hW.left keep p hp).2).2; omega⟩) (fun f hf => ⟨(hW.fl f hf).1, by have := (hW.fl f hf).2; omega⟩)
namespace Dk
/-- the name z -/
def Z : List UInt8 := [122]
def fo0 (f : Nat) (x : Fl) : Nat → Fl := upd (fun _ => ⟨[], 0⟩) f x
theorem upd_upd (fo : Nat → Fl) (f : Nat) (x y : Fl) : upd (upd fo f x) f y = upd fo f y := by
  funext k
  unfold upd
  split <;> rfl
def s1 (q : Int) (f : Nat) : DS := ⟨q, 0, [(Z, f)], [], [⟨[], Z, some f⟩], false, 0, false, [f], fo0 f ⟨[], 0⟩⟩
def s2 (q : Int) (f : Nat) : DS := ⟨q, 1, [(Z, f)], [], [⟨[], Z, some f⟩], false, 0, false, [f], fo0 f ⟨[7], 0⟩⟩
def s3 (q : Int) (f : Nat) : DS := ⟨q, 1, [(Z, f)], [], [⟨[], Z, some f⟩], false, 0, false, [f], fo0 f ⟨[7], 1⟩⟩
/-- the disk that is ready -/
def rdy (q : Int) (f : Nat) : DS := ⟨q, 1, [(Z, f)], [(Z, f)], [], false, 0, false, [f], fo0 f ⟨[7], 1⟩⟩
theorem isZ : isNm Z = true := by decide
theorem z1 (q : Int) (f : Nat) : crtE (new q) Z = 0 ∧ crt (new q) Z f = s1 q f := by
  have ha : askE (new q) [Z] = 0 := by simp [askE, new, isZ]
  refine ⟨?_, ?_⟩
  · unfold crtE
    rw [if_pos ha]
    rfl
  · unfold crt
    rw [if_pos ⟨ha, rfl⟩]
    rfl
theorem find_z (S : DS) (f : Nat) (hd : S.down = false) (hn : S.nm = [(Z, f)]) : findE S Z = (0, some f) := by
  unfold findE
  have ha : askE S [Z] = 0 := by simp [askE, hd, isZ]
  rw [if_pos ha, hn]
  rfl
theorem z2 (q : Int) (f : Nat) (hq : 16 ≤ q) : appE (s1 q f) Z [7] = 0 ∧ app (s1 q f) Z [7] = s2 q f := by
  have hf := find_z (s1 q f) f rfl rfl
  have hr : ¬ ((([7] : List Nat).length : Int) > (s1 q f).quota - (s1 q f).taken) := by
    show ¬ ((1 : Int) > q - 0)
    omega
  refine ⟨?_, ?_⟩
  · unfold appE
    rw [hf, if_pos rfl, if_neg hr]
    rfl
  · unfold app fil
    rw [hf, if_pos ⟨rfl, hr⟩]
    show DS.mk q 1 [(Z, f)] [] [⟨[], Z, some f⟩] false 0 false [f] (upd (fo0 f ⟨[], 0⟩) f ⟨(fo0 f ⟨[], 0⟩ f).data ++ [7], (fo0 f ⟨[], 0⟩ f).syn⟩) = _
    unfold fo0
    rw [upd_upd, upd_same]
    rfl
theorem z4 (q : Int) (f : Nat) : synE (s2 q f) Z = 0 ∧ syn (s2 q f) Z = s3 q f := by
  have hf := find_z (s2 q f) f rfl rfl
  refine ⟨?_, ?_⟩
  · unfold synE
    rw [hf, if_pos rfl]
    rfl
  · unfold syn fil
    rw [hf, if_pos rfl]
    show DS.mk q 1 [(Z, f)] [] [⟨[], Z, some f⟩] false 0 false [f] (upd (fo0 f ⟨[7], 0⟩) f ⟨(fo0 f ⟨[7], 0⟩ f).data, (fo0 f ⟨[7], 0⟩ f).data.length⟩) = _
    unfold fo0
    rw [upd_upd, upd_same]
    rfl
theorem z5 (q : Int) (f : Nat) : sdE (s3 q f) = 0 ∧ sd (s3 q f) = rdy q f := by
  refine ⟨rfl, ?_⟩
  show DS.mk q ((tot [(Z, f)] (fo0 f ⟨[7], 1⟩) : Nat) : Int) [(Z, f)] [(Z, f)] [] false 0 false [f] (fo0 f ⟨[7], 1⟩) = _
  have : tot [(Z, f)] (fo0 f ⟨[7], 1⟩) = 1 := by
    unfold tot len fo0
    simp [upd_same]
  rw [this]
  rfl
theorem z3 (q : Int) (f : Nat) : crash (s2 q f) 0 [] = [] := rfl
theorem z6 (q : Int) (f : Nat) : crash (rdy q f) 0 [] = [(Z, [7])] := by
  show [(Z, lv (fo0 f ⟨[7], 1⟩ f) (([] : List (Int × Int)).getD 0 (0, 0)))] = _
  unfold fo0
  rw [upd_same]
  rfl
theorem wf1 (q : Int) (f : Nat) (hq : 0 ≤ q ∧ q ≤ 4194304) : WF (s1 q f) 1 := by
  rw [← (z1 q f).2]
  exact (WF.new (N := 0) q hq.1 hq.2).crt Z f (by simp [new])
theorem wf2 (q : Int) (f : Nat) (hq : 16 ≤ q ∧ q ≤ 4194304) : WF (s2 q f) 1 := by
  rw [← (z2 q f hq.1).2]
  exact (wf1 q f ⟨by omega, hq.2⟩).app Z [7]
theorem wf3 (q : Int) (f : Nat) (hq : 16 ≤ q ∧ q ≤ 4194304) : WF (s3 q f) 1 := by
  rw [← (z4 q f).2]
  exact (wf2 q f hq).syn Z
theorem wf4 (q : Int) (f : Nat) (hq : 16 ≤ q ∧ q ≤ 4194304) : WF (rdy q f) 1 := by
  rw [← (z5 q f).2]
  exact (wf3 q f hq).sd
end Dk
theorem lit7 (w : World) : Bs (w.alloc (.cells #[.int .u8 7] 5)) (.slice (some ⟨w.heap.size, 0, none⟩) 1 1) [7] := (Own.lit (B := 0) w [7] (by unfold ok; decide) (Nat.zero_le _) (by decide) #[.int .u8 7] rfl).bs
theorem cts_nil (w : World) : CtS w (.slice none 0 0) [] := ⟨none, 0, rfl, Nat.le_refl _, by unfold maxLen; omega, fun h => absurd rfl h⟩
set_option maxRecDepth 100000 in
set_option maxHeartbeats 8000000 in
theorem dlready_any (q : Int) (w : World) (hq : 16 ≤ q ∧ q ≤ 4194304) :
    Calls Try.prog 4 #[.int .i64 q] w fun e w' => ∃ g f M, e = .returned (.pointer (some ⟨g, 0, none⟩)) ∧ DM w.heap.size w' g (Dk.rdy q f) M ∧ Below w.heap.size w w' := by
  have HQ : Hid (16 ≤ q ∧ q ≤ 4194304) := hq
  have HNW : Hid (Calls Try.prog 20 #[.int .i64 q] w fun e w' => ∃ g, e = .returned (.tuple #[.pointer (some ⟨g, 0, none⟩), .int .i64 0]) ∧ DM w.heap.size w' g (Dk.new q) mmN ∧ Below w.heap.size w w') := (dknew_any q w).mono fun e w' h => by
    rcases h with ⟨h1, -⟩ | ⟨-, h2, h3, h4⟩
    · exact absurd ⟨by omega, hq.2⟩ h1
    · exact ⟨_, h2, h3, h4⟩
  clear hq
  go_enter Try.func4, Try.ntmps4
  go_wp2_with fail
  refine HNW.out.mono ?_
  rintro e W1 ⟨g, rfl, d1, b1⟩
  have HC1 : Hid (Calls Try.prog 21 #[.pointer (some ⟨g, 0, none⟩), .string ⟨#[122]⟩] W1 fun e w' => ∃ f M, e = .returned (.int .i64 0) ∧ DM w.heap.size w' g (Dk.s1 q f) M ∧ Below w.heap.size w w') := (dkcreate_any _ g _ _ ⟨#[122]⟩ W1 d1 b1.size (by decide) (fun e => by cases e) (Nat.zero_le _) (Nat.zero_le _)).mono fun e w' ⟨f, _, h2, h3⟩ => by
    obtain ⟨M', h4, h5, -⟩ := h3.out d1 b1.size
    exact ⟨f, M', by rw [h2]; exact congrArg (fun x => Ending.returned (.int .i64 x)) (Dk.z1 q f).1, by rw [← (Dk.z1 q f).2]; exact h4, b1.trans h5⟩
  clear d1 b1 HNW
  go_wp2_with fail
  refine (dlnum_any _ _).mono ?_
  rintro e w' ⟨rfl, rfl⟩
  go_wp2_with fail
  refine HC1.out.mono ?_
  rintro e W2 ⟨f, M2, rfl, d2, b2⟩
  have HC2 : Hid (Calls Try.prog 14 #[.pointer (some ⟨g, 0, none⟩), .string ⟨#[122]⟩, .slice (some ⟨W2.heap.size, 0, none⟩) 1 1] (W2.alloc (.cells #[.int .u8 7] 5)) fun e w' => ∃ M, e = .returned (.int .i64 0) ∧ DM w.heap.size w' g (Dk.s2 q f) M ∧ Below w.heap.size w w') := by
    have b9 := up0 W2 (.cells #[.int .u8 7] 5)
    have d9 := d2.kept b9
    have hW := Dk.wf1 q f ⟨by have := HQ.out.1; omega, HQ.out.2⟩
    have hs := Nat.le_trans b2.size b9.size
    refine (dkappend_any _ g _ _ ⟨#[122]⟩ _ [7] _ d9 hs (by decide) hW.ar hW.ids (lit7 W2) (fun _ k ⟨x, y, z, e⟩ hk => ?_) ⟨hW.t0, hW.tk, hW.q⟩ (fun k hk => by have := (hW.fl k hk).2; omega)).mono fun e w' ⟨h2, h3⟩ => ?_
    · simp only [Value.slice.injEq, Option.some.injEq, Addr.mk.injEq] at e
      have h9 := (d2.ft hk).2
      omega
    · obtain ⟨M', h4, h5, -⟩ := h3.out d9 hs
      exact ⟨M', by rw [h2]; exact congrArg (fun x => Ending.returned (.int .i64 x)) (Dk.z2 q f HQ.out.1).1, by rw [← (Dk.z2 q f HQ.out.1).2]; exact h4, (andThen b2 b9).trans h5⟩
  clear d2 b2 HC1
  go_wp2_with fail
  refine (dlnum_any _ _).mono ?_
  rintro e w' ⟨rfl, rfl⟩
  go_wp2_with fail
  refine HC2.out.mono ?_
  rintro e W3 ⟨M3, rfl, d3, b3⟩
  have HC3 : Hid (Calls Try.prog 12 #[.pointer (some ⟨g, 0, none⟩), .int .i64 0, .slice none 0 0] W3 fun e w' => ∃ a c, e = .returned (.slice a 0 c) ∧ DM w.heap.size w' g (Dk.s2 q f) M3 ∧ Below w.heap.size w w') := (dkcrash_wf _ g _ _ 1 0 _ [] W3 d3 (cts_nil _) (Dk.wf2 q f HQ.out) (by omega)).mono fun e w' ⟨v, h1, h2, h3⟩ => by
    obtain ⟨a, c, h4, -⟩ := h2.sh
    rw [Dk.z3] at h4
    exact ⟨a, c, by rw [h1, h4]; rfl, d3.kept h3, andThen b3 h3⟩
  clear d3 b3 HC2
  go_wp2_with fail
  refine (dlnum_any _ _).mono ?_
  rintro e w' ⟨rfl, rfl⟩
  go_wp2_with fail
  refine HC3.out.mono ?_
  rintro e W4 ⟨a4, c4, rfl, d4, b4⟩
  have HC4 : Hid (Calls Try.prog 22 #[.pointer (some ⟨g, 0, none⟩), .string ⟨#[122]⟩] W4 fun e w' => ∃ M, e = .returned (.int .i64 0) ∧ DM w.heap.size w' g (Dk.s3 q f) M ∧ Below w.heap.size w w') := (dksync_any _ g _ _ ⟨#[122]⟩ W4 d4 b4.size (by decide) (fun e => by cases e) (Dk.wf2 q f HQ.out).ids).mono fun e w' ⟨h2, h3⟩ => by
    obtain ⟨M', h4, h5, -⟩ := h3.out d4 b4.size
    exact ⟨M', by rw [h2]; exact congrArg (fun x => Ending.returned (.int .i64 x)) (Dk.z4 q f).1, by rw [← (Dk.z4 q f).2]; exact h4, b4.trans h5⟩
  clear d4 b4 HC3
  go_wp2_with fail
  refine HC4.out.mono ?_
  rintro e W5 ⟨M5, rfl, d5, b5⟩
  have HC5 : Hid (Calls Try.prog 23 #[.pointer (some ⟨g, 0, none⟩)] W5 fun e w' => ∃ M, e = .returned (.int .i64 0) ∧ DM w.heap.size w' g (Dk.rdy q f) M ∧ Below w.heap.size w w') := (dksyncdir_any _ g _ _ W5 d5 b5.size (fun e => by cases e) (Dk.wf3 q f HQ.out).ids (by have hW := Dk.wf3 q f HQ.out; have := hW.tot; have := hW.tk; have := hW.q; omega)).mono fun e w' ⟨h2, h3⟩ => by
    obtain ⟨M', h4, h5, -⟩ := h3.out d5 b5.size
    exact ⟨M', by rw [h2]; exact congrArg (fun x => Ending.returned (.int .i64 x)) (Dk.z5 q f).1, by rw [← (Dk.z5 q f).2]; exact h4, b5.trans h5⟩
  clear d5 b5 HC4
  go_wp2_with fail
  refine (dlnum_any _ _).mono ?_
  rintro e w' ⟨rfl, rfl⟩
  go_wp2_with fail
  refine HC5.out.mono ?_
  rintro e W6 ⟨M6, rfl, d6, b6⟩
  have HC6 : Hid (Calls Try.prog 12 #[.pointer (some ⟨g, 0, none⟩), .int .i64 0, .slice none 0 0] W6 fun e w' => ∃ b x c o2 c2, e = .returned (.slice (some ⟨b, x, none⟩) 1 c) ∧ DM w.heap.size w' g (Dk.rdy q f) M6 ∧ Below w.heap.size w w' ∧ w'.cell? ⟨b, x, none⟩ = some (.string ⟨#[122]⟩) ∧ w'.cell? ⟨b, x + 1, none⟩ = some (.slice o2 1 c2) ∧ Bs w' (.slice o2 1 c2) [7] ∧ 1 ≤ c ∧ c ≤ maxLen) := (dkcrash_wf _ g _ _ 1 0 _ [] W6 d6 (cts_nil _) (Dk.wf4 q f HQ.out) (by omega)).mono fun e w' ⟨v, h1, h2, h3⟩ => by
    rw [Dk.z6] at h2
    obtain ⟨a, c, h4, h5, h6, h7⟩ := h2.sh
    obtain ⟨b, x, h8, -, h9⟩ := h7 (by simp)
    obtain ⟨p1, dv, p2, p3, -⟩ := h9 0 (by simp)
    obtain ⟨o2, c2, e2, -⟩ := p3.shape
    subst e2
    exact ⟨b, x, c, o2, c2, by rw [h1, h4, h8]; rfl, d6.kept h3, andThen b6 h3, p1, p2, p3, h5, h6⟩
  clear d6 b6 HC5
  go_wp2_with fail
  refine (dlnum_any _ _).mono ?_
  rintro e w' ⟨rfl, rfl⟩
  go_wp2_with fail
  refine HC6.out.mono ?_
  rintro e W7 ⟨b, x, c, o2, c2, rfl, d7, b7, p1, p2, p3, p4, p5⟩
  have b9 := up0 W7 (.cells #[.int .u8 7] 5)
  have HC7 : Hid (Calls Try.prog 16 #[.slice o2 1 c2, .slice (some ⟨W7.heap.size, 0, none⟩) 1 1] (W7.alloc (.cells #[.int .u8 7] 5)) fun e w' => e = .returned (.bool true) ∧ Below (W7.alloc (.cells #[.int .u8 7] 5)).heap.size (W7.alloc (.cells #[.int .u8 7] 5)) w') := dlalike_yes _ _ [7] _ (p3.kept b9) (lit7 W7)
  have HD : Hid (∀ W, Below W7.heap.size W7 W → DM w.heap.size W g (Dk.rdy q f) M6 ∧ Below w.heap.size w W) := fun W hW => ⟨d7.kept hW, andThen b7 hW⟩
  have p2a := (b9.cell (p := ⟨b, x + 1, none⟩) (World.block_lt_of_cell? _ _ p2)).trans p2
  have p1a := (b9.cell (p := ⟨b, x, none⟩) (World.block_lt_of_cell? _ _ p1)).trans p1
  unfold maxLen at p5
  clear d7 b7 HC6 p3 b9
  go_wp2_with fail
  refine HC7.out.mono ?_
  rintro e W8 ⟨rfl, b8⟩
  have HE : Hid (DM w.heap.size W8 g (Dk.rdy q f) M6 ∧ Below w.heap.size w W8) := HD.out W8 (andThen (up0 W7 (.cells #[.int .u8 7] 5)) b8)
  clear b8 HC7 HD
  go_wp2_with fail
  go_returns
  exact ⟨g, f, M6, rfl, HE.out.1, HE.out.2⟩
end Go.Proofs.Ytgdfnlbiminblaa

/-
  DiskStays: the walk.
-/
namespace Go.Proofs.Ytgdfnlbiminblaa
open Go Go.RowKit Go.ChangeShapes
open Wb

namespace Dk
section
variable {S : DS}
theorem cnt_un (h : S.armed = false) : cnt S = (0, S) := by simp [cnt, h]
/-- an operation that is refused changes nothing -/
theorem do_ref (h : S.armed = false) (o : Rop) (f : Nat) (he : doE S o ≠ 0) : doS S o f = S := by
  unfold doE at he
  unfold doS
  split
  · rename_i hk
    rw [if_pos hk] at he
    unfold crt
    rw [if_neg]
    rintro ⟨h1, h2⟩
    apply he
    unfold crtE
    rw [if_pos h1, h2, cnt_un h]
    rfl
  rename_i hk1
  rw [if_neg hk1] at he
  split
  · rename_i hk
    rw [if_pos hk] at he
    unfold app
    rw [if_neg]
    rintro ⟨h1, h2⟩
    apply he
    unfold appE
    rw [if_pos h1, if_neg h2, cnt_un h]
  rename_i hk2
  rw [if_neg hk2] at he
  split
  · rename_i hk
    rw [if_pos hk] at he
    unfold syn
    rw [if_neg]
    intro h1
    apply he
    unfold synE
    rw [if_pos h1, cnt_un h]
  rename_i hk3
  rw [if_neg hk3] at he
  split
  · rename_i hk
    rw [if_pos hk] at he
    unfold tru
    rw [if_neg]
    rintro ⟨h1, h2⟩
    apply he
    unfold truE
    rw [if_pos h1, if_neg (by rw [h2]; simp), cnt_un h]
  rename_i hk4
  rw [if_neg hk4] at he
  split
  · rename_i hk
    rw [if_pos hk] at he
    unfold ren
    rw [if_neg]
    rintro ⟨h1, h2⟩
    apply he
    unfold renE synE
    rw [if_pos h1, if_pos h2, cnt_un h]
  rename_i hk5
  rw [if_neg hk5] at he
  split
  · rename_i hk
    rw [if_pos hk] at he
    unfold rem
    rw [if_neg]
    intro h1
    apply he
    unfold synE
    rw [if_pos h1, cnt_un h]
  rename_i hk6
  rw [if_neg hk6] at he
  unfold sd
  rw [if_neg]
  intro h1
  apply he
  unfold sdE
  rw [if_pos h1, cnt_un h]
/-- a disk that is not armed stays so -/
theorem do_arm (h : S.armed = false) (o : Rop) (f : Nat) : (doS S o f).armed = false := by
  unfold doS crt app syn tru ren rem sd mk
  rw [cnt_un h]
  repeat' split
  all_goals exact h
end
end Dk
/-- an operation's names and bytes -/
def OpOk (w : World) (o : Rop) : Prop := (o.a.size ≤ maxLen ∧ o.b.size ≤ maxLen) ∧ Bs w (.slice o.da o.data.length o.dc) o.data ∧ CtS w (.slice o.ca o.cs.length o.cc) o.cs ∧ o.n ≤ 9223372036854775807
/-- operations to be read -/
def OpS (w : World) (v : Value) (n : Nat) : Prop := ∃ a c, v = .slice a n c ∧ n ≤ c ∧ c ≤ maxLen ∧ ∀ k, k < n → ∃ b off o, a = some ⟨b, off, none⟩ ∧ (∀ i x, (opc o)[i]? = some x → w.cell? ⟨b, off + k * 8 + i, none⟩ = some x) ∧ OpOk w o
theorem OpOk.kept {w w' : World} {o : Rop} (h : OpOk w o) (hb : Below w.heap.size w w') : OpOk w' o := ⟨h.1, h.2.1.kept hb, h.2.2.1.kept hb, h.2.2.2⟩
theorem Bs.old {w : World} {a : Option Addr} {c : Nat} {l : List Nat} (h : Bs w (.slice a l.length c) l) (hne : l ≠ []) (q x : Nat) (e : a = some ⟨q, x, none⟩) : q < w.heap.size := by
  subst e
  exact h.lt (List.length_pos_iff.2 hne)
end Go.Proofs.Ytgdfnlbiminblaa

/-
  DiskStays and its kin: the arguments.
-/
namespace Go.Proofs.Ytgdfnlbiminblaa
open Go.ChangeShapes Go.WideShapes Go.ChangeAt Go.RowKit
open Wb

theorem own : ownKnob Try.prog.godebug = none := by kernel_rfl
theorem laidOut : laidOutB Try.prog = true := by kernel_rfl
theorem cellsTB : Try.prog.cellsOf 5 = 1 := by kernel_rfl
theorem cellsTI6 : Try.prog.cellsOf 3 = 1 := by kernel_rfl
theorem cellsTBOOL6 : Try.prog.cellsOf 4 = 1 := by kernel_rfl
theorem cellsTSTR6 : Try.prog.cellsOf 9 = 1 := by kernel_rfl
theorem cellsTBS6 : Try.prog.cellsOf 23 = 1 := by kernel_rfl
theorem cellsTCUTS6 : Try.prog.cellsOf 24 = 1 := by kernel_rfl
theorem cellsTAFILES6 : Try.prog.cellsOf 22 = 1 := by kernel_rfl
theorem cellsTCUT6 : Try.prog.cellsOf 32 = 2 := by kernel_rfl
theorem u8_bounds {n : Int} (h : (Lit.int .u8 n).wf = true) : 0 ≤ n ∧ n < 256 := by
  have := bounds_u8 h
  omega
/-- the bytes of a row of numbers -/
theorem bs_of_row {W : World} {a : Addr} {len cap : Nat} {zs : List Int} (hl : len ≤ cap) (hm : cap ≤ maxLen) (hz : zs.length = cap) (hcell : ∀ i, i < zs.length → W.cell? (a.add i) = some (.int .u8 (zs.getD i 0)))
    (hwz : ∀ n ∈ zs, (Lit.int .u8 n).wf = true) : Bs W (.slice (some a) len cap) ((zs.take len).map Int.toNat) := by
  have hlen : ((zs.take len).map Int.toNat).length = len := by simp; omega
  refine ⟨⟨some a, cap, by rw [hlen], by omega, hm, fun e => (by cases e), fun hne => ?_⟩, fun x hx => ?_⟩
  · have hpos : 0 < len := by rw [← hlen]; exact List.length_pos_iff.2 hne
    obtain ⟨b, off, rfl, hc⟩ := ints_at hcell (by omega)
    refine ⟨b, off, rfl, fun j hj => ?_⟩
    rw [hlen] at hj
    rw [hc j (by omega)]
    have hb := u8_bounds (hwz (zs[j]'(by omega)) (List.getElem_mem _))
    have e : zs.getD j 0 = zs[j]'(by omega) := by simp [List.getD, show j < zs.length by omega]
    rw [e]
    simp only [List.getElem_map, List.getElem_take]
    congr 2
    omega
  · obtain ⟨n, hn, rfl⟩ := List.mem_map.1 hx
    have := u8_bounds (hwz n (List.mem_of_mem_take hn))
    omega
theorem open_bs6 {H : Type} {enc : TypeId × Value → H} {W : World} {fuel : Nat} {v : Value} {x : DataW H × List MemPlace}
    (h : DataW.trod enc Try.prog W 0 (fun _ => true) true fuel 23 [v] = some x) : ∃ l, Bs W v l := by
  obtain ⟨d, p⟩ := x
  rcases open_ints Try.underlying23 Try.underlying5 cellsTB h with ⟨hcs, _⟩ | ⟨xx, l, c, zs, hcs, _, hl, hm, hz, hx, hcell, hwz⟩
  · simp at hcs
    subst hcs
    exact ⟨[], Bs.nil W⟩
  · simp at hcs
    subst hcs
    exact ⟨_, bs_of_row hl hm (by simpa using hz) hcell hwz⟩
theorem trod_lt {H : Type} {enc : TypeId × Value → H} {W : World} {t : TypeId} {v : Value} {d : DataW H} {p : List MemPlace} (h : DataW.Trod enc Try.prog W 0 (fun _ => true) true t v d p) : ∀ x ∈ p, x.block < W.heap.size := by
  obtain ⟨m, hm⟩ := h
  exact DataW.trod_lt m _ _ _ hm
theorem bulk_pos {H : Type} (d : DataW H) : 1 ≤ Rows.uptoBulk d := by
  cases d with
  | lit x => cases x <;> simp [Rows.uptoBulk]
  | _ => simp [Rows.uptoBulk]
theorem bulk_count {H : Type} : ∀ l : List (DataW H), l.length ≤ Rows.uptoBulkAll l
  | [] => Nat.zero_le _
  | x :: r => by
    have := bulk_count r
    have := bulk_pos x
    simp only [Rows.uptoBulkAll, List.length_cons]
    omega
set_option maxRecDepth 100000 in
theorem open_cut {H : Type} {enc : TypeId × Value → H} {W : World} {fuel : Nat} {cs : List Value} {d : DataW H} {p : List MemPlace} (hf : DataW.trod enc Try.prog W 0 (fun _ => true) true fuel 32 cs = some (d, p)) (hlen : cs.length = 2) :
    ∃ q : Int × Int, cs = [.int .i64 q.1, .int .i64 q.2] := by
  obtain ⟨xs, k', _, hxy, _, hxl, hfs⟩ := DataW.trod_struct Try.underlying32 hf
  match xs, hxl, cs, hlen with
  | [y0, y1], _, [v0, v1], _ =>
    have g0 := hfs 0 _ rfl
    have g1 := hfs 1 _ rfl
    simp [cellsTI6] at g0 g1
    obtain ⟨z0, e0, _, b0⟩ := DataW.trod_int Try.underlying3 g0
    obtain ⟨z1, e1, _, b1⟩ := DataW.trod_int Try.underlying3 g1
    simp only [List.cons.injEq, and_true] at e0 e1
    exact ⟨(z0, z1), by simp only [e0, e1]⟩
set_option maxRecDepth 100000 in
theorem open_cuts {H : Type} {enc : TypeId × Value → H} {W : World} {fuel : Nat} {v : Value} {x : DataW H × List MemPlace} (hf : DataW.trod enc Try.prog W 0 (fun _ => true) true fuel 24 [v] = some x) : ∃ cs, CtS W v cs := by
  rcases Deep.open_slice Try.underlying24 hf with ⟨hcs, _⟩ | ⟨a, len, cap, m, n, D, Pl, hcs, _, hl, hm, hmm, hx, hel⟩
  · simp at hcs
    subst hcs
    exact ⟨[], cts_nil W⟩
  · simp at hcs
    subst hcs
    have each : ∀ k, k < len → ∃ q : Int × Int, ∃ b off, a = ⟨b, off, none⟩ ∧ W.cell? ⟨b, off + k * 2, none⟩ = some (.int .i64 q.1) ∧ W.cell? ⟨b, off + k * 2 + 1, none⟩ = some (.int .i64 q.2) := fun k hk => by
      have hkm : k < m := by rw [hmm]; simp; omega
      obtain ⟨cs', h1, h2⟩ := hel k hkm
      rw [cellsTCUT6] at h1
      obtain ⟨_, hlen, hcell⟩ := World.cells?_some h1
      obtain ⟨q, rfl⟩ := open_cut h2 hlen
      have r0 := hcell 0 (by omega)
      have r1 := hcell 1 (by omega)
      rw [Deep.add_add] at r0 r1
      have hspot : a.spot = none := by
        obtain ⟨cs0, h10, _⟩ := hel 0 (by omega)
        rw [cellsTCUT6] at h10
        obtain ⟨_, hl0, hc0⟩ := World.cells?_some h10
        have r9 := hc0 0 (by omega)
        rw [List.getElem?_eq_getElem (show 0 < cs0.length by omega)] at r9
        simpa [Addr.add] using World.cell?_spot r9
      obtain ⟨b, off, spot⟩ := a
      obtain rfl : spot = none := hspot
      rw [Go.WideShapes.add_plain] at r0 r1
      exact ⟨q, b, off, rfl, by simpa using r0, by simpa [Nat.add_assoc] using r1⟩
    obtain ⟨q, hq⟩ := Deep.choose_lt each
    have hql : ((List.range len).map q).length = len := by simp
    refine ⟨(List.range len).map q, some a, cap, by rw [hql], by rw [hql]; exact hl, hm, fun hne => ?_⟩
    have hpos : 0 < len := by
      rw [← hql]
      exact List.length_pos_iff.2 hne
    obtain ⟨b, off, rfl, -⟩ := hq 0 hpos
    refine ⟨b, off, rfl, fun j hj => ?_⟩
    rw [hql] at hj
    obtain ⟨b2, off2, e, c0, c1⟩ := hq j hj
    simp only [Addr.mk.injEq, and_true] at e
    obtain ⟨rfl, rfl⟩ := e
    simp only [List.getElem_map, List.getElem_range]
    exact ⟨c0, c1⟩
set_option maxRecDepth 100000 in
theorem open_cutsA {H : Type} {enc : TypeId × Value → H} {W : World} {base : Nat} {v : Value} {d : DataW H} {p : List MemPlace} (hv : Value.okWide Try.prog W .any base 24 v)
    (h : DataW.Trod enc Try.prog W 0 (fun _ => true) true 24 v d p) : ∃ cs, CtS W v cs := by
  obtain ⟨a0, len0, cap0, rfl⟩ := okWide_slice Try.underlying24 hv
  obtain ⟨fuel, hf⟩ := h
  exact open_cuts hf
theorem open_some {H : Type} {enc : TypeId × Value → H} {W : World} {fuel : Nat} {v : Value} {x : DataW H × List MemPlace} (hf : DataW.trod enc Try.prog W 0 (fun _ => true) true fuel 22 [v] = some x) : ∃ a n c, v = .slice a n c := by
  rcases Deep.open_slice Try.underlying22 hf with ⟨hcs, _⟩ | ⟨a, len, cap, m, n, D, Pl, hcs, _⟩
  · simp at hcs
    exact ⟨_, _, _, hcs⟩
  · simp at hcs
    exact ⟨_, _, _, hcs⟩
end Go.Proofs.Ytgdfnlbiminblaa

/-
  DiskRoom: lengths; the walk.
-/
namespace Go.Proofs.Ytgdfnlbiminblaa
open Go Go.RowKit Go.ChangeShapes
open Wb

namespace Dk
section
variable {S : DS}
theorem do_keep (h : S.armed = false) (o : Rop) (f : Nat) : (doS S o f).quota = S.quota ∧ (doS S o f).down = S.down := by
  unfold doS crt app syn tru ren rem sd mk
  rw [cnt_un h]
  repeat' split
  all_goals exact ⟨rfl, rfl⟩
theorem room_app (h : S.armed = false) (o : Rop) (f : Nat) (hk : o.k = 2) (hm : (findE S o.a.data.toList).1 = 0) : ((o.data.length : Int) > S.quota - S.taken → doE S o = 64) ∧ (¬ (o.data.length : Int) > S.quota - S.taken → doE S o = 0 ∧ (doS S o f).taken = S.taken + o.data.length) := by
  unfold doE doS
  rw [hk]
  simp only [if_true, show ¬ ((2 : Int) = 1) by omega, if_false]
  unfold appE app
  rw [cnt_un h]
  refine ⟨fun h1 => by rw [if_pos hm, if_pos h1], fun h1 => ⟨by rw [if_pos hm, if_neg h1], by rw [if_pos ⟨hm, h1⟩]; rfl⟩⟩
theorem room_sd (h : S.armed = false) (hd : S.down = false) (o : Rop) (f : Nat) (hk : o.k = 7) : doE S o = 0 ∧ (doS S o f).taken = (tot (doS S o f).nm (doS S o f).fo : Int) := by
  have ha : askE S [] = 0 := by simp [askE, hd]
  unfold doE doS
  rw [hk]
  simp only [show ¬ ((7 : Int) = 1) by omega, show ¬ ((7 : Int) = 2) by omega, show ¬ ((7 : Int) = 3) by omega, show ¬ ((7 : Int) = 4) by omega, show ¬ ((7 : Int) = 5) by omega, show ¬ ((7 : Int) = 6) by omega, if_false]
  unfold sdE sd
  rw [if_pos ha, if_pos ha, cnt_un h]
  exact ⟨rfl, rfl⟩
theorem room_tru (h : S.armed = false) (o : Rop) (f : Nat) (hk : o.k = 4) : (doS S o f).taken ≤ S.taken := by
  unfold doS
  rw [hk]
  simp only [show ¬ ((4 : Int) = 1) by omega, show ¬ ((4 : Int) = 2) by omega, show ¬ ((4 : Int) = 3) by omega, if_true, if_false]
  unfold tru
  rw [cnt_un h]
  split
  · rename_i hf
    have hb := hf.2
    unfold bad at hb
    have hb2 := of_decide_eq_false hb
    rw [if_pos rfl]
    show S.taken - _ ≤ _
    omega
  · exact Int.le_refl _
theorem room_same (h : S.armed = false) (o : Rop) (f : Nat) (hc : 1 ≤ o.k ∧ o.k ≤ 7) (h2 : o.k = 2 → (findE S o.a.data.toList).1 ≠ 0) (h4 : o.k = 4 → doE S o ≠ 0) (h7 : o.k ≠ 7) : (doS S o f).taken = S.taken := by
  by_cases hk4 : o.k = 4
  · rw [do_ref h o f (h4 hk4)]
  · unfold doS
    split
    · unfold crt mk
      rw [cnt_un h]
      repeat' split
      all_goals rfl
    split
    · rename_i hk
      unfold app
      rw [if_neg fun e => h2 hk e.1]
    split
    · unfold syn
      rw [cnt_un h]
      repeat' split
      all_goals rfl
    split
    · unfold ren
      rw [cnt_un h]
      repeat' split
      all_goals rfl
    split
    · unfold rem
      rw [cnt_un h]
      repeat' split
      all_goals rfl
    · omega
theorem files_sum (S : DS) : ((files S).map fun x => x.2.length).sum = tot S.nm S.fo := by
  unfold files tot
  rw [List.map_map]
  rfl
end
end Dk
theorem sum_take (l : List Nat) : ∀ k, (l.take k).sum ≤ l.sum := by
  induction l with
  | nil => intro k; simp
  | cons x r ih =>
    intro k
    cases k with
    | zero => simp
    | succ k =>
      have := ih k
      simp only [List.take_succ_cons, List.sum_cons]
      omega
end Go.Proofs.Ytgdfnlbiminblaa
