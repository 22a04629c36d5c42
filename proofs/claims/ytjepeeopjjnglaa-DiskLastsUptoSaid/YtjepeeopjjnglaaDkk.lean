/-
  DiskStays and its kin: ready.
-/
import Derived.Test.YtjepeeopjjnglaaDkj
namespace Go.Proofs.Ytjepeeopjjnglaa
open Go Go.RowKit Go.ChangeShapes
open Wb

theorem DPost.out {B g : Nat} {S S' : Dk.DS} {M : Mm} {w w' : World} (h : DM B w g S M) (hB : B ≤ w.heap.size) (hp : DPost B g S M w S' w') : ∃ M', DM B w' g S' M' ∧ Below B w w' ∧ B ≤ w'.heap.size := by
  obtain ⟨M', h1, h2, -⟩ := hp
  exact ⟨M', h1, h2.below B hB fun q hq => (h.ft hq).1, Nat.le_trans hB h2.size⟩
theorem dkfiles_wf (B g : Nat) (S : Dk.DS) (M : Mm) (N : Nat) (w : World) (h : DM B w g S M) (hW : Dk.WF S N) (hN : N ≤ 400000000) :
    Calls Try.prog 13 #[.pointer (some ⟨g, 0, none⟩)] w fun e w' => ∃ v, e = .returned v ∧ Fls (w.heap.size ≤ ·) w' v (Dk.files S) ∧ Below w.heap.size w w' :=
  dkfiles_any B g S M w h (fun p hp => ⟨hW.ids p hp, by have := (Dk.isNm_len (hW.nm p hp)).2; omega⟩) (fun f hf => by have := (hW.fl f hf).2; omega) (by have := hW.n1; omega)
theorem dkcrash_wf (B g : Nat) (S : Dk.DS) (M : Mm) (N : Nat) (keep : Int) (cv : Value) (cs : List (Int × Int)) (w : World) (h : DM B w g S M) (hcs : CtS w cv cs) (hW : Dk.WF S N) (hN : N ≤ 400000000) :
    Calls Try.prog 14 #[.pointer (some ⟨g, 0, none⟩), .int .i64 keep, cv] w fun e w' => ∃ v, e = .returned v ∧ Fls (w.heap.size ≤ ·) w' v (Dk.crash S keep cs) ∧ Below w.heap.size w w' :=
  dkcrash_any B g S M keep cv cs w h hcs (fun c hc => by
    obtain ⟨h1, h2⟩ := hW.ch c hc
    refine ⟨by omega, ?_, fun e => ?_⟩
    · by_cases e : c.tow = []
      · rw [e]; simp
      · have := (Dk.isNm_len (h2 e).1).2
        omega
    · obtain ⟨-, f, h3, -⟩ := h2 e
      exact ⟨f, h3⟩) (by have := hW.n2; have := hW.n3; omega) (fun p hp => ⟨(hW.left keep p hp).1, by have := (Dk.isNm_len (hW.left keep p hp).2).2; omega⟩) (fun f hf => ⟨(hW.fl f hf).1, by have := (hW.fl f hf).2; omega⟩)
namespace Dk
/-- the name z -/
def Z : List UInt8 := [122]
def fo0 (f : Nat) (x : Fl) : Nat → Fl := upd (fun _ => ⟨[], 0⟩) f x
theorem upd_upd (fo : Nat → Fl) (f : Nat) (x y : Fl) : upd (upd fo f x) f y = upd fo f y := by
  funext k
  unfold upd
  split <;> rfl
def s1 (q : Int) (f : Nat) : DS := ⟨q, 0, [(Z, f)], [], [⟨[], Z, some f⟩], false, 0, false, [f], fo0 f ⟨[], 0⟩⟩
def s2 (q : Int) (f : Nat) : DS := ⟨q, 1, [(Z, f)], [], [⟨[], Z, some f⟩], false, 0, false, [f], fo0 f ⟨[7], 0⟩⟩
def s3 (q : Int) (f : Nat) : DS := ⟨q, 1, [(Z, f)], [], [⟨[], Z, some f⟩], false, 0, false, [f], fo0 f ⟨[7], 1⟩⟩
/-- the disk that is ready -/
def rdy (q : Int) (f : Nat) : DS := ⟨q, 1, [(Z, f)], [(Z, f)], [], false, 0, false, [f], fo0 f ⟨[7], 1⟩⟩
theorem isZ : isNm Z = true := by decide
theorem z1 (q : Int) (f : Nat) : crtE (new q) Z = 0 ∧ crt (new q) Z f = s1 q f := by
  have ha : askE (new q) [Z] = 0 := by simp [askE, new, isZ]
  refine ⟨?_, ?_⟩
  · unfold crtE
    rw [if_pos ha]
    rfl
  · unfold crt
    rw [if_pos ⟨ha, rfl⟩]
    rfl
theorem find_z (S : DS) (f : Nat) (hd : S.down = false) (hn : S.nm = [(Z, f)]) : findE S Z = (0, some f) := by
  unfold findE
  have ha : askE S [Z] = 0 := by simp [askE, hd, isZ]
  rw [if_pos ha, hn]
  rfl
theorem z2 (q : Int) (f : Nat) (hq : 16 ≤ q) : appE (s1 q f) Z [7] = 0 ∧ app (s1 q f) Z [7] = s2 q f := by
  have hf := find_z (s1 q f) f rfl rfl
  have hr : ¬ ((([7] : List Nat).length : Int) > (s1 q f).quota - (s1 q f).taken) := by
    show ¬ ((1 : Int) > q - 0)
    omega
  refine ⟨?_, ?_⟩
  · unfold appE
    rw [hf, if_pos rfl, if_neg hr]
    rfl
  · unfold app fil
    rw [hf, if_pos ⟨rfl, hr⟩]
    show DS.mk q 1 [(Z, f)] [] [⟨[], Z, some f⟩] false 0 false [f] (upd (fo0 f ⟨[], 0⟩) f ⟨(fo0 f ⟨[], 0⟩ f).data ++ [7], (fo0 f ⟨[], 0⟩ f).syn⟩) = _
    unfold fo0
    rw [upd_upd, upd_same]
    rfl
theorem z4 (q : Int) (f : Nat) : synE (s2 q f) Z = 0 ∧ syn (s2 q f) Z = s3 q f := by
  have hf := find_z (s2 q f) f rfl rfl
  refine ⟨?_, ?_⟩
  · unfold synE
    rw [hf, if_pos rfl]
    rfl
  · unfold syn fil
    rw [hf, if_pos rfl]
    show DS.mk q 1 [(Z, f)] [] [⟨[], Z, some f⟩] false 0 false [f] (upd (fo0 f ⟨[7], 0⟩) f ⟨(fo0 f ⟨[7], 0⟩ f).data, (fo0 f ⟨[7], 0⟩ f).data.length⟩) = _
    unfold fo0
    rw [upd_upd, upd_same]
    rfl
theorem z5 (q : Int) (f : Nat) : sdE (s3 q f) = 0 ∧ sd (s3 q f) = rdy q f := by
  refine ⟨rfl, ?_⟩
  show DS.mk q ((tot [(Z, f)] (fo0 f ⟨[7], 1⟩) : Nat) : Int) [(Z, f)] [(Z, f)] [] false 0 false [f] (fo0 f ⟨[7], 1⟩) = _
  have : tot [(Z, f)] (fo0 f ⟨[7], 1⟩) = 1 := by
    unfold tot len fo0
    simp [upd_same]
  rw [this]
  rfl
theorem z3 (q : Int) (f : Nat) : crash (s2 q f) 0 [] = [] := rfl
theorem z6 (q : Int) (f : Nat) : crash (rdy q f) 0 [] = [(Z, [7])] := by
  show [(Z, lv (fo0 f ⟨[7], 1⟩ f) (([] : List (Int × Int)).getD 0 (0, 0)))] = _
  unfold fo0
  rw [upd_same]
  rfl
theorem wf1 (q : Int) (f : Nat) (hq : 0 ≤ q ∧ q ≤ 4194304) : WF (s1 q f) 1 := by
  rw [← (z1 q f).2]
  exact (WF.new (N := 0) q hq.1 hq.2).crt Z f (by simp [new])
theorem wf2 (q : Int) (f : Nat) (hq : 16 ≤ q ∧ q ≤ 4194304) : WF (s2 q f) 1 := by
  rw [← (z2 q f hq.1).2]
  exact (wf1 q f ⟨by omega, hq.2⟩).app Z [7]
theorem wf3 (q : Int) (f : Nat) (hq : 16 ≤ q ∧ q ≤ 4194304) : WF (s3 q f) 1 := by
  rw [← (z4 q f).2]
  exact (wf2 q f hq).syn Z
theorem wf4 (q : Int) (f : Nat) (hq : 16 ≤ q ∧ q ≤ 4194304) : WF (rdy q f) 1 := by
  rw [← (z5 q f).2]
  exact (wf3 q f hq).sd
end Dk
theorem lit7 (w : World) : Bs (w.alloc (.cells #[.int .u8 7] 5)) (.slice (some ⟨w.heap.size, 0, none⟩) 1 1) [7] := (Own.lit (B := 0) w [7] (by unfold ok; decide) (Nat.zero_le _) (by decide) #[.int .u8 7] rfl).bs
theorem cts_nil (w : World) : CtS w (.slice none 0 0) [] := ⟨none, 0, rfl, Nat.le_refl _, by unfold maxLen; omega, fun h => absurd rfl h⟩
set_option maxRecDepth 100000 in
set_option maxHeartbeats 8000000 in
theorem dlready_any (q : Int) (w : World) (hq : 16 ≤ q ∧ q ≤ 4194304) :
    Calls Try.prog 10 #[.int .i64 q] w fun e w' => ∃ g f M, e = .returned (.pointer (some ⟨g, 0, none⟩)) ∧ DM w.heap.size w' g (Dk.rdy q f) M ∧ Below w.heap.size w w' := by
  have HQ : Hid (16 ≤ q ∧ q ≤ 4194304) := hq
  have HNW : Hid (Calls Try.prog 41 #[.int .i64 q] w fun e w' => ∃ g, e = .returned (.tuple #[.pointer (some ⟨g, 0, none⟩), .int .i64 0]) ∧ DM w.heap.size w' g (Dk.new q) mmN ∧ Below w.heap.size w w') := (dknew_any q w).mono fun e w' h => by
    rcases h with ⟨h1, -⟩ | ⟨-, h2, h3, h4⟩
    · exact absurd ⟨by omega, hq.2⟩ h1
    · exact ⟨_, h2, h3, h4⟩
  clear hq
  go_enter Try.func10, Try.ntmps10
  go_wp2_with fail
  refine HNW.out.mono ?_
  rintro e W1 ⟨g, rfl, d1, b1⟩
  have HC1 : Hid (Calls Try.prog 30 #[.pointer (some ⟨g, 0, none⟩), .string ⟨#[122]⟩] W1 fun e w' => ∃ f M, e = .returned (.int .i64 0) ∧ DM w.heap.size w' g (Dk.s1 q f) M ∧ Below w.heap.size w w') := (dkcreate_any _ g _ _ ⟨#[122]⟩ W1 d1 b1.size (by decide) (fun e => by cases e) (Nat.zero_le _) (Nat.zero_le _)).mono fun e w' ⟨f, _, h2, h3⟩ => by
    obtain ⟨M', h4, h5, -⟩ := h3.out d1 b1.size
    exact ⟨f, M', by rw [h2]; exact congrArg (fun x => Ending.returned (.int .i64 x)) (Dk.z1 q f).1, by rw [← (Dk.z1 q f).2]; exact h4, b1.trans h5⟩
  clear d1 b1 HNW
  go_wp2_with fail
  refine (dlnum_any _ _).mono ?_
  rintro e w' ⟨rfl, rfl⟩
  go_wp2_with fail
  refine HC1.out.mono ?_
  rintro e W2 ⟨f, M2, rfl, d2, b2⟩
  have HC2 : Hid (Calls Try.prog 42 #[.pointer (some ⟨g, 0, none⟩), .string ⟨#[122]⟩, .slice (some ⟨W2.heap.size, 0, none⟩) 1 1] (W2.alloc (.cells #[.int .u8 7] 5)) fun e w' => ∃ M, e = .returned (.int .i64 0) ∧ DM w.heap.size w' g (Dk.s2 q f) M ∧ Below w.heap.size w w') := by
    have b9 := up0 W2 (.cells #[.int .u8 7] 5)
    have d9 := d2.kept b9
    have hW := Dk.wf1 q f ⟨by have := HQ.out.1; omega, HQ.out.2⟩
    have hs := Nat.le_trans b2.size b9.size
    refine (dkappend_any _ g _ _ ⟨#[122]⟩ _ [7] _ d9 hs (by decide) hW.ar hW.ids (lit7 W2) (fun _ k ⟨x, y, z, e⟩ hk => ?_) ⟨hW.t0, hW.tk, hW.q⟩ (fun k hk => by have := (hW.fl k hk).2; omega)).mono fun e w' ⟨h2, h3⟩ => ?_
    · simp only [Value.slice.injEq, Option.some.injEq, Addr.mk.injEq] at e
      have h9 := (d2.ft hk).2
      omega
    · obtain ⟨M', h4, h5, -⟩ := h3.out d9 hs
      exact ⟨M', by rw [h2]; exact congrArg (fun x => Ending.returned (.int .i64 x)) (Dk.z2 q f HQ.out.1).1, by rw [← (Dk.z2 q f HQ.out.1).2]; exact h4, (andThen b2 b9).trans h5⟩
  clear d2 b2 HC1
  go_wp2_with fail
  refine (dlnum_any _ _).mono ?_
  rintro e w' ⟨rfl, rfl⟩
  go_wp2_with fail
  refine HC2.out.mono ?_
  rintro e W3 ⟨M3, rfl, d3, b3⟩
  have HC3 : Hid (Calls Try.prog 14 #[.pointer (some ⟨g, 0, none⟩), .int .i64 0, .slice none 0 0] W3 fun e w' => ∃ a c, e = .returned (.slice a 0 c) ∧ DM w.heap.size w' g (Dk.s2 q f) M3 ∧ Below w.heap.size w w') := (dkcrash_wf _ g _ _ 1 0 _ [] W3 d3 (cts_nil _) (Dk.wf2 q f HQ.out) (by omega)).mono fun e w' ⟨v, h1, h2, h3⟩ => by
    obtain ⟨a, c, h4, -⟩ := h2.sh
    rw [Dk.z3] at h4
    exact ⟨a, c, by rw [h1, h4]; rfl, d3.kept h3, andThen b3 h3⟩
  clear d3 b3 HC2
  go_wp2_with fail
  refine (dlnum_any _ _).mono ?_
  rintro e w' ⟨rfl, rfl⟩
  go_wp2_with fail
  refine HC3.out.mono ?_
  rintro e W4 ⟨a4, c4, rfl, d4, b4⟩
  have HC4 : Hid (Calls Try.prog 43 #[.pointer (some ⟨g, 0, none⟩), .string ⟨#[122]⟩] W4 fun e w' => ∃ M, e = .returned (.int .i64 0) ∧ DM w.heap.size w' g (Dk.s3 q f) M ∧ Below w.heap.size w w') := (dksync_any _ g _ _ ⟨#[122]⟩ W4 d4 b4.size (by decide) (fun e => by cases e) (Dk.wf2 q f HQ.out).ids).mono fun e w' ⟨h2, h3⟩ => by
    obtain ⟨M', h4, h5, -⟩ := h3.out d4 b4.size
    exact ⟨M', by rw [h2]; exact congrArg (fun x => Ending.returned (.int .i64 x)) (Dk.z4 q f).1, by rw [← (Dk.z4 q f).2]; exact h4, b4.trans h5⟩
  clear d4 b4 HC3
  go_wp2_with fail
  refine HC4.out.mono ?_
  rintro e W5 ⟨M5, rfl, d5, b5⟩
  have HC5 : Hid (Calls Try.prog 37 #[.pointer (some ⟨g, 0, none⟩)] W5 fun e w' => ∃ M, e = .returned (.int .i64 0) ∧ DM w.heap.size w' g (Dk.rdy q f) M ∧ Below w.heap.size w w') := (dksyncdir_any _ g _ _ W5 d5 b5.size (fun e => by cases e) (Dk.wf3 q f HQ.out).ids (by have hW := Dk.wf3 q f HQ.out; have := hW.tot; have := hW.tk; have := hW.q; omega)).mono fun e w' ⟨h2, h3⟩ => by
    obtain ⟨M', h4, h5, -⟩ := h3.out d5 b5.size
    exact ⟨M', by rw [h2]; exact congrArg (fun x => Ending.returned (.int .i64 x)) (Dk.z5 q f).1, by rw [← (Dk.z5 q f).2]; exact h4, b5.trans h5⟩
  clear d5 b5 HC4
  go_wp2_with fail
  refine (dlnum_any _ _).mono ?_
  rintro e w' ⟨rfl, rfl⟩
  go_wp2_with fail
  refine HC5.out.mono ?_
  rintro e W6 ⟨M6, rfl, d6, b6⟩
  have HC6 : Hid (Calls Try.prog 14 #[.pointer (some ⟨g, 0, none⟩), .int .i64 0, .slice none 0 0] W6 fun e w' => ∃ b x c o2 c2, e = .returned (.slice (some ⟨b, x, none⟩) 1 c) ∧ DM w.heap.size w' g (Dk.rdy q f) M6 ∧ Below w.heap.size w w' ∧ w'.cell? ⟨b, x, none⟩ = some (.string ⟨#[122]⟩) ∧ w'.cell? ⟨b, x + 1, none⟩ = some (.slice o2 1 c2) ∧ Bs w' (.slice o2 1 c2) [7] ∧ 1 ≤ c ∧ c ≤ maxLen) := (dkcrash_wf _ g _ _ 1 0 _ [] W6 d6 (cts_nil _) (Dk.wf4 q f HQ.out) (by omega)).mono fun e w' ⟨v, h1, h2, h3⟩ => by
    rw [Dk.z6] at h2
    obtain ⟨a, c, h4, h5, h6, h7⟩ := h2.sh
    obtain ⟨b, x, h8, -, h9⟩ := h7 (by simp)
    obtain ⟨p1, dv, p2, p3, -⟩ := h9 0 (by simp)
    obtain ⟨o2, c2, e2, -⟩ := p3.shape
    subst e2
    exact ⟨b, x, c, o2, c2, by rw [h1, h4, h8]; rfl, d6.kept h3, andThen b6 h3, p1, p2, p3, h5, h6⟩
  clear d6 b6 HC5
  go_wp2_with fail
  refine (dlnum_any _ _).mono ?_
  rintro e w' ⟨rfl, rfl⟩
  go_wp2_with fail
  refine HC6.out.mono ?_
  rintro e W7 ⟨b, x, c, o2, c2, rfl, d7, b7, p1, p2, p3, p4, p5⟩
  have b9 := up0 W7 (.cells #[.int .u8 7] 5)
  have HC7 : Hid (Calls Try.prog 19 #[.slice o2 1 c2, .slice (some ⟨W7.heap.size, 0, none⟩) 1 1] (W7.alloc (.cells #[.int .u8 7] 5)) fun e w' => e = .returned (.bool true) ∧ Below (W7.alloc (.cells #[.int .u8 7] 5)).heap.size (W7.alloc (.cells #[.int .u8 7] 5)) w') := dlalike_yes _ _ [7] _ (p3.kept b9) (lit7 W7)
  have HD : Hid (∀ W, Below W7.heap.size W7 W → DM w.heap.size W g (Dk.rdy q f) M6 ∧ Below w.heap.size w W) := fun W hW => ⟨d7.kept hW, andThen b7 hW⟩
  have p2a := (b9.cell (p := ⟨b, x + 1, none⟩) (World.block_lt_of_cell? _ _ p2)).trans p2
  have p1a := (b9.cell (p := ⟨b, x, none⟩) (World.block_lt_of_cell? _ _ p1)).trans p1
  unfold maxLen at p5
  clear d7 b7 HC6 p3 b9
  go_wp2_with fail
  refine HC7.out.mono ?_
  rintro e W8 ⟨rfl, b8⟩
  have HE : Hid (DM w.heap.size W8 g (Dk.rdy q f) M6 ∧ Below w.heap.size w W8) := HD.out W8 (andThen (up0 W7 (.cells #[.int .u8 7] 5)) b8)
  clear b8 HC7 HD
  go_wp2_with fail
  go_returns
  exact ⟨g, f, M6, rfl, HE.out.1, HE.out.2⟩
end Go.Proofs.Ytjepeeopjjnglaa
