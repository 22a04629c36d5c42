import Derived.Test.YtppabcihbpbfpaaGreatDoorQK9
/-
  DiskStays and its kin: ready.
-/
namespace Go.Proofs.YtppabcihbpbfpaaGreatDoor
open Go Go.RowKit Go.ChangeShapes
open Wb

theorem DPost.out {B g : Nat} {S S' : Dk.DS} {M : Mm} {w w' : World} (h : DM B w g S M) (hB : B ≤ w.heap.size) (hp : DPost B g S M w S' w') : ∃ M', DM B w' g S' M' ∧ Below B w w' ∧ B ≤ w'.heap.size := by
  obtain ⟨M', h1, h2, -⟩ := hp
  exact ⟨M', h1, h2.below B hB fun q hq => (h.ft hq).1, Nat.le_trans hB h2.size⟩
theorem dkfiles_wf (B g : Nat) (S : Dk.DS) (M : Mm) (N : Nat) (w : World) (h : DM B w g S M) (hW : Dk.WF S N) (hN : N ≤ 400000000) :
    Calls Tryz.prog 12 #[.pointer (some ⟨g, 0, none⟩)] w fun e w' => ∃ v, e = .returned v ∧ Fls (w.heap.size ≤ ·) w' v (Dk.files S) ∧ Below w.heap.size w w' :=
  dkfiles_any B g S M w h (fun p hp => ⟨hW.ids p hp, by have := (Dk.isNm_len (hW.nm p hp)).2; omega⟩) (fun f hf => by have := (hW.fl f hf).2; omega) (by have := hW.n1; omega)
theorem dkcrash_wf (B g : Nat) (S : Dk.DS) (M : Mm) (N : Nat) (keep : Int) (cv : Value) (cs : List (Int × Int)) (w : World) (h : DM B w g S M) (hcs : CtS w cv cs) (hW : Dk.WF S N) (hN : N ≤ 400000000) :
    Calls Tryz.prog 11 #[.pointer (some ⟨g, 0, none⟩), .int .i64 keep, cv] w fun e w' => ∃ v, e = .returned v ∧ Fls (w.heap.size ≤ ·) w' v (Dk.crash S keep cs) ∧ Below w.heap.size w w' :=
  dkcrash_any B g S M keep cv cs w h hcs (fun c hc => by
    obtain ⟨h1, h2⟩ := hW.ch c hc
    refine ⟨by omega, ?_, fun e => ?_⟩
    · by_cases e : c.tow = []
      · rw [e]; simp
      · have := (Dk.isNm_len (h2 e).1).2
        omega
    · obtain ⟨-, f, h3, -⟩ := h2 e
      exact ⟨f, h3⟩) (by have := hW.n2; have := hW.n3; omega) (fun p hp => ⟨(hW.left keep p hp).1, by have := (Dk.isNm_len (hW.left keep p hp).2).2; omega⟩) (fun f hf => ⟨(hW.fl f hf).1, by have := (hW.fl f hf).2; omega⟩)
namespace Dk
/-- the name z -/
def Z : List UInt8 := [122]
def fo0 (f : Nat) (x : Fl) : Nat → Fl := upd (fun _ => ⟨[], 0⟩) f x
theorem upd_upd (fo : Nat → Fl) (f : Nat) (x y : Fl) : upd (upd fo f x) f y = upd fo f y := by
  funext k
  unfold upd
  split <;> rfl
def s1 (q : Int) (f : Nat) : DS := ⟨q, 0, [(Z, f)], [], [⟨[], Z, some f⟩], false, 0, false, [f], fo0 f ⟨[], 0⟩⟩
def s2 (q : Int) (f : Nat) : DS := ⟨q, 1, [(Z, f)], [], [⟨[], Z, some f⟩], false, 0, false, [f], fo0 f ⟨[7], 0⟩⟩
def s3 (q : Int) (f : Nat) : DS := ⟨q, 1, [(Z, f)], [], [⟨[], Z, some f⟩], false, 0, false, [f], fo0 f ⟨[7], 1⟩⟩
/-- the disk that is ready -/
def rdy (q : Int) (f : Nat) : DS := ⟨q, 1, [(Z, f)], [(Z, f)], [], false, 0, false, [f], fo0 f ⟨[7], 1⟩⟩
theorem isZ : isNm Z = true := by decide
theorem z1 (q : Int) (f : Nat) : crtE (new q) Z = 0 ∧ crt (new q) Z f = s1 q f := by
  have ha : askE (new q) [Z] = 0 := by simp [askE, new, isZ]
  refine ⟨?_, ?_⟩
  · unfold crtE
    rw [if_pos ha]
    rfl
  · unfold crt
    rw [if_pos ⟨ha, rfl⟩]
    rfl
theorem find_z (S : DS) (f : Nat) (hd : S.down = false) (hn : S.nm = [(Z, f)]) : findE S Z = (0, some f) := by
  unfold findE
  have ha : askE S [Z] = 0 := by simp [askE, hd, isZ]
  rw [if_pos ha, hn]
  rfl
theorem z2 (q : Int) (f : Nat) (hq : 16 ≤ q) : appE (s1 q f) Z [7] = 0 ∧ app (s1 q f) Z [7] = s2 q f := by
  have hf := find_z (s1 q f) f rfl rfl
  have hr : ¬ ((([7] : List Nat).length : Int) > (s1 q f).quota - (s1 q f).taken) := by
    show ¬ ((1 : Int) > q - 0)
    omega
  refine ⟨?_, ?_⟩
  · unfold appE
    rw [hf, if_pos rfl, if_neg hr]
    rfl
  · unfold app fil
    rw [hf, if_pos ⟨rfl, hr⟩]
    show DS.mk q 1 [(Z, f)] [] [⟨[], Z, some f⟩] false 0 false [f] (upd (fo0 f ⟨[], 0⟩) f ⟨(fo0 f ⟨[], 0⟩ f).data ++ [7], (fo0 f ⟨[], 0⟩ f).syn⟩) = _
    unfold fo0
    rw [upd_upd, upd_same]
    rfl
theorem z4 (q : Int) (f : Nat) : synE (s2 q f) Z = 0 ∧ syn (s2 q f) Z = s3 q f := by
  have hf := find_z (s2 q f) f rfl rfl
  refine ⟨?_, ?_⟩
  · unfold synE
    rw [hf, if_pos rfl]
    rfl
  · unfold syn fil
    rw [hf, if_pos rfl]
    show DS.mk q 1 [(Z, f)] [] [⟨[], Z, some f⟩] false 0 false [f] (upd (fo0 f ⟨[7], 0⟩) f ⟨(fo0 f ⟨[7], 0⟩ f).data, (fo0 f ⟨[7], 0⟩ f).data.length⟩) = _
    unfold fo0
    rw [upd_upd, upd_same]
    rfl
theorem z5 (q : Int) (f : Nat) : sdE (s3 q f) = 0 ∧ sd (s3 q f) = rdy q f := by
  refine ⟨rfl, ?_⟩
  show DS.mk q ((tot [(Z, f)] (fo0 f ⟨[7], 1⟩) : Nat) : Int) [(Z, f)] [(Z, f)] [] false 0 false [f] (fo0 f ⟨[7], 1⟩) = _
  have : tot [(Z, f)] (fo0 f ⟨[7], 1⟩) = 1 := by
    unfold tot len fo0
    simp [upd_same]
  rw [this]
  rfl
theorem z3 (q : Int) (f : Nat) : crash (s2 q f) 0 [] = [] := rfl
theorem z6 (q : Int) (f : Nat) : crash (rdy q f) 0 [] = [(Z, [7])] := by
  show [(Z, lv (fo0 f ⟨[7], 1⟩ f) (([] : List (Int × Int)).getD 0 (0, 0)))] = _
  unfold fo0
  rw [upd_same]
  rfl
theorem wf1 (q : Int) (f : Nat) (hq : 0 ≤ q ∧ q ≤ 4194304) : WF (s1 q f) 1 := by
  rw [← (z1 q f).2]
  exact (WF.new (N := 0) q hq.1 hq.2).crt Z f (by simp [new])
theorem wf2 (q : Int) (f : Nat) (hq : 16 ≤ q ∧ q ≤ 4194304) : WF (s2 q f) 1 := by
  rw [← (z2 q f hq.1).2]
  exact (wf1 q f ⟨by omega, hq.2⟩).app Z [7]
theorem wf3 (q : Int) (f : Nat) (hq : 16 ≤ q ∧ q ≤ 4194304) : WF (s3 q f) 1 := by
  rw [← (z4 q f).2]
  exact (wf2 q f hq).syn Z
theorem wf4 (q : Int) (f : Nat) (hq : 16 ≤ q ∧ q ≤ 4194304) : WF (rdy q f) 1 := by
  rw [← (z5 q f).2]
  exact (wf3 q f hq).sd
end Dk
theorem lit7 (w : World) : Bs (w.alloc (.cells #[.int .u8 7] 5)) (.slice (some ⟨w.heap.size, 0, none⟩) 1 1) [7] := (Own.lit (B := 0) w [7] (by unfold ok; decide) (Nat.zero_le _) (by decide) #[.int .u8 7] rfl).bs
theorem cts_nil (w : World) : CtS w (.slice none 0 0) [] := ⟨none, 0, rfl, Nat.le_refl _, by unfold maxLen; omega, fun h => absurd rfl h⟩
end Go.Proofs.YtppabcihbpbfpaaGreatDoor

/-
  DiskStays: the walk.
-/
namespace Go.Proofs.YtppabcihbpbfpaaGreatDoor
open Go Go.RowKit Go.ChangeShapes
open Wb

namespace Dk
section
variable {S : DS}
theorem cnt_un (h : S.armed = false) : cnt S = (0, S) := by simp [cnt, h]
/-- an operation that is refused changes nothing -/
theorem do_ref (h : S.armed = false) (o : Rop) (f : Nat) (he : doE S o ≠ 0) : doS S o f = S := by
  unfold doE at he
  unfold doS
  split
  · rename_i hk
    rw [if_pos hk] at he
    unfold crt
    rw [if_neg]
    rintro ⟨h1, h2⟩
    apply he
    unfold crtE
    rw [if_pos h1, h2, cnt_un h]
    rfl
  rename_i hk1
  rw [if_neg hk1] at he
  split
  · rename_i hk
    rw [if_pos hk] at he
    unfold app
    rw [if_neg]
    rintro ⟨h1, h2⟩
    apply he
    unfold appE
    rw [if_pos h1, if_neg h2, cnt_un h]
  rename_i hk2
  rw [if_neg hk2] at he
  split
  · rename_i hk
    rw [if_pos hk] at he
    unfold syn
    rw [if_neg]
    intro h1
    apply he
    unfold synE
    rw [if_pos h1, cnt_un h]
  rename_i hk3
  rw [if_neg hk3] at he
  split
  · rename_i hk
    rw [if_pos hk] at he
    unfold tru
    rw [if_neg]
    rintro ⟨h1, h2⟩
    apply he
    unfold truE
    rw [if_pos h1, if_neg (by rw [h2]; simp), cnt_un h]
  rename_i hk4
  rw [if_neg hk4] at he
  split
  · rename_i hk
    rw [if_pos hk] at he
    unfold ren
    rw [if_neg]
    rintro ⟨h1, h2⟩
    apply he
    unfold renE synE
    rw [if_pos h1, if_pos h2, cnt_un h]
  rename_i hk5
  rw [if_neg hk5] at he
  split
  · rename_i hk
    rw [if_pos hk] at he
    unfold rem
    rw [if_neg]
    intro h1
    apply he
    unfold synE
    rw [if_pos h1, cnt_un h]
  rename_i hk6
  rw [if_neg hk6] at he
  unfold sd
  rw [if_neg]
  intro h1
  apply he
  unfold sdE
  rw [if_pos h1, cnt_un h]
/-- a disk that is not armed stays so -/
theorem do_arm (h : S.armed = false) (o : Rop) (f : Nat) : (doS S o f).armed = false := by
  unfold doS crt app syn tru ren rem sd mk
  rw [cnt_un h]
  repeat' split
  all_goals exact h
end
end Dk
/-- an operation's names and bytes -/
def OpOk (w : World) (o : Rop) : Prop := (o.a.size ≤ maxLen ∧ o.b.size ≤ maxLen) ∧ Bs w (.slice o.da o.data.length o.dc) o.data ∧ CtS w (.slice o.ca o.cs.length o.cc) o.cs ∧ o.n ≤ 9223372036854775807
/-- operations to be read -/
def OpS (w : World) (v : Value) (n : Nat) : Prop := ∃ a c, v = .slice a n c ∧ n ≤ c ∧ c ≤ maxLen ∧ ∀ k, k < n → ∃ b off o, a = some ⟨b, off, none⟩ ∧ (∀ i x, (opc o)[i]? = some x → w.cell? ⟨b, off + k * 8 + i, none⟩ = some x) ∧ OpOk w o
theorem OpOk.kept {w w' : World} {o : Rop} (h : OpOk w o) (hb : Below w.heap.size w w') : OpOk w' o := ⟨h.1, h.2.1.kept hb, h.2.2.1.kept hb, h.2.2.2⟩
theorem Bs.old {w : World} {a : Option Addr} {c : Nat} {l : List Nat} (h : Bs w (.slice a l.length c) l) (hne : l ≠ []) (q x : Nat) (e : a = some ⟨q, x, none⟩) : q < w.heap.size := by
  subst e
  exact h.lt (List.length_pos_iff.2 hne)
end Go.Proofs.YtppabcihbpbfpaaGreatDoor

/-
  DiskRoom: lengths; the walk.
-/
namespace Go.Proofs.YtppabcihbpbfpaaGreatDoor
open Go Go.RowKit Go.ChangeShapes
open Wb

namespace Dk
section
variable {S : DS}
theorem do_keep (h : S.armed = false) (o : Rop) (f : Nat) : (doS S o f).quota = S.quota ∧ (doS S o f).down = S.down := by
  unfold doS crt app syn tru ren rem sd mk
  rw [cnt_un h]
  repeat' split
  all_goals exact ⟨rfl, rfl⟩
theorem room_app (h : S.armed = false) (o : Rop) (f : Nat) (hk : o.k = 2) (hm : (findE S o.a.data.toList).1 = 0) : ((o.data.length : Int) > S.quota - S.taken → doE S o = 64) ∧ (¬ (o.data.length : Int) > S.quota - S.taken → doE S o = 0 ∧ (doS S o f).taken = S.taken + o.data.length) := by
  unfold doE doS
  rw [hk]
  simp only [if_true, show ¬ ((2 : Int) = 1) by omega, if_false]
  unfold appE app
  rw [cnt_un h]
  refine ⟨fun h1 => by rw [if_pos hm, if_pos h1], fun h1 => ⟨by rw [if_pos hm, if_neg h1], by rw [if_pos ⟨hm, h1⟩]; rfl⟩⟩
theorem room_sd (h : S.armed = false) (hd : S.down = false) (o : Rop) (f : Nat) (hk : o.k = 7) : doE S o = 0 ∧ (doS S o f).taken = (tot (doS S o f).nm (doS S o f).fo : Int) := by
  have ha : askE S [] = 0 := by simp [askE, hd]
  unfold doE doS
  rw [hk]
  simp only [show ¬ ((7 : Int) = 1) by omega, show ¬ ((7 : Int) = 2) by omega, show ¬ ((7 : Int) = 3) by omega, show ¬ ((7 : Int) = 4) by omega, show ¬ ((7 : Int) = 5) by omega, show ¬ ((7 : Int) = 6) by omega, if_false]
  unfold sdE sd
  rw [if_pos ha, if_pos ha, cnt_un h]
  exact ⟨rfl, rfl⟩
theorem room_tru (h : S.armed = false) (o : Rop) (f : Nat) (hk : o.k = 4) : (doS S o f).taken ≤ S.taken := by
  unfold doS
  rw [hk]
  simp only [show ¬ ((4 : Int) = 1) by omega, show ¬ ((4 : Int) = 2) by omega, show ¬ ((4 : Int) = 3) by omega, if_true, if_false]
  unfold tru
  rw [cnt_un h]
  split
  · rename_i hf
    have hb := hf.2
    unfold bad at hb
    have hb2 := of_decide_eq_false hb
    rw [if_pos rfl]
    show S.taken - _ ≤ _
    omega
  · exact Int.le_refl _
theorem room_same (h : S.armed = false) (o : Rop) (f : Nat) (hc : 1 ≤ o.k ∧ o.k ≤ 7) (h2 : o.k = 2 → (findE S o.a.data.toList).1 ≠ 0) (h4 : o.k = 4 → doE S o ≠ 0) (h7 : o.k ≠ 7) : (doS S o f).taken = S.taken := by
  by_cases hk4 : o.k = 4
  · rw [do_ref h o f (h4 hk4)]
  · unfold doS
    split
    · unfold crt mk
      rw [cnt_un h]
      repeat' split
      all_goals rfl
    split
    · rename_i hk
      unfold app
      rw [if_neg fun e => h2 hk e.1]
    split
    · unfold syn
      rw [cnt_un h]
      repeat' split
      all_goals rfl
    split
    · unfold ren
      rw [cnt_un h]
      repeat' split
      all_goals rfl
    split
    · unfold rem
      rw [cnt_un h]
      repeat' split
      all_goals rfl
    · omega
theorem files_sum (S : DS) : ((files S).map fun x => x.2.length).sum = tot S.nm S.fo := by
  unfold files tot
  rw [List.map_map]
  rfl
end
end Dk
theorem sum_take (l : List Nat) : ∀ k, (l.take k).sum ≤ l.sum := by
  induction l with
  | nil => intro k; simp
  | cons x r ih =>
    intro k
    cases k with
    | zero => simp
    | succ k =>
      have := ih k
      simp only [List.take_succ_cons, List.sum_cons]
      omega
end Go.Proofs.YtppabcihbpbfpaaGreatDoor
