import Derived.Test.YtgjlkkikgkbamaaDoorQSR
import Derived.Test.YtgjlkkikgkbamaaDoorQSU
/-
  SagaEnds ..: happy whole; what Begin and Apply answer of these records.
-/
namespace Go.Proofs.YtgjlkkikgkbamaaDoor
open Go Go.RowKit
open Wb

theorem happy_any (S : Sg) (h : SH) (w : World) (k : SgAt w S h) (hT : Text.TabP 3 .i32 Text.Tx.lets w) (hK : KindsT w) (hnm : S.nm.size ≤ 140737488355000) (hc : chkS S = true) (he : S.x.ended = false) :
    Calls Tryd.prog 16 #[sv S h] w fun e w' => e = .returned (.tuple #[rv (happyP S).x (happyP S).nm (.slice none 0 0), .bool true]) ∧ Below w.heap.size w w' := by
  have hB := bnd_of S hc
  rcases happy_kinds S with h7 | ⟨h2 | h3, hp⟩ | ⟨h5 | h6, hp⟩
  · exact happy_7 S h w k hT hK hnm hc he h7
  · by_cases ht : S.x.tr < 1000
    · exact happy_2 S h w k hT hK hnm hc he h2 hp ht
    · exact happy_2b S h w k hT hK hnm hc he h2 hp (by omega)
  · exact happy_3 S h w k hT hK hnm hc he h3 hp
  · by_cases ht : S.x.tr < 1000
    · exact happy_5 S h w k hT hK hnm hc he h5 hp ht
    · exact happy_5b S h w k hT hK hnm hc he h5 hp (by omega)
  · exact happy_6 S h w k hT hK hnm hc he h6 hp
/-- a valid record of version 3 is lifted to itself -/
theorem up_v3 (r : Rec) (hv : V3 r) (h3 : r.x.v = 3) : upP 3 r = (0, r) := by
  have hc : chkR r = 0 := (v3_iff r h3).2 hv
  have hl : lckE 3 r = 0 := by unfold lckE; rw [if_neg (by simpa using hc), if_pos (by omega)]
  unfold upP
  rw [if_neg (by simpa using hl), if_neg (by omega), car33 r h3]
theorem apply_v3 (S : Sg) (r : Rec) (hc : chkS S = true) (hv : V3 r) (h3 : r.x.v = 3) (h0 : refP S.x r.x = 0) : applyP S r = (0, deedS S r) := by
  unfold applyP
  rw [up_v3 r hv h3, if_neg (by simp [hc]), if_neg (by simp), if_neg (by simpa using h0)]
theorem fit_v3 (r : Rec) (hv : V3 r) (hs : r.x.s ≤ 9223372036854775807) : r.x.fit := by
  obtain ⟨v1, v2, v3, vk⟩ := hv
  intro t h1 h9
  unfold Nums.tag
  obtain rfl | rfl | rfl | rfl | rfl | rfl | rfl | rfl | rfl : t = 1 ∨ t = 2 ∨ t = 3 ∨ t = 4 ∨ t = 5 ∨ t = 6 ∨ t = 7 ∨ t = 8 ∨ t = 9 := by omega
  all_goals
    simp
    omega
theorem id_of (S : Sg) (hc : chkS S = true) : 1 ≤ S.x.id ∧ S.x.id ≤ 9223372036854775807 := by
  obtain ⟨⟨_, b2, _⟩, _⟩ := (chkS_iff S).1 hc
  exact b2
theorem happy_v (S : Sg) : (happyP S).x.v = 3 ∧ (happyP S).x.s = S.x.id ∧ (happyP S).x.k = happyK S ∧ (happyP S).nm = ⟨#[]⟩ ∧ (happyP S).l = [] := ⟨rfl, rfl, rfl, rfl, rfl⟩
theorem happy_apply (S : Sg) (hc : chkS S = true) (he : S.x.ended = false) : applyP S (happyP S) = (0, deedS S (happyP S)) := by
  obtain ⟨hv, h0, _⟩ := happy_good S hc he
  exact apply_v3 S _ hc hv rfl h0
theorem happy_fit (S : Sg) (hc : chkS S = true) (he : S.x.ended = false) : (happyP S).x.fit := by
  obtain ⟨hv, h0, _⟩ := happy_good S hc he
  exact fit_v3 _ hv (id_of S hc).2
/-- one more record that succeeds -/
theorem happy_step (S : Sg) (hc : chkS S = true) (he : S.x.ended = false) : chkS (deedS S (happyP S)) = true ∧ (deedS S (happyP S)).x.cnt = S.x.cnt ∧ (deedS S (happyP S)).nm = S.nm ∧ ((deedS S (happyP S)).x.ended = true → left S = 1 ∧ (deedS S (happyP S)).x.ph = S.x.ph + 2) ∧ ((deedS S (happyP S)).x.ended = false → left (deedS S (happyP S)) + 1 = left S ∧ (deedS S (happyP S)).x.ph = S.x.ph) := by
  obtain ⟨hv, h0, h1, h2, h3, h4, h5⟩ := happy_good S hc he
  have hd := ended_deed S (happyP S) hv h0
  have hs := steps_deed S (happyP S) hc hv h0
  have hk : (happyP S).x.k = happyK S := rfl
  rw [hk] at hd
  refine ⟨chkS_deed S _ hc hv h0, hs.2.1, hs.2.2.2.2.1, fun e => ?_, fun e => ?_⟩
  · rw [hd] at e
    have e7 : happyK S = 7 := by simpa using e
    exact ⟨h3.2 e7, h5 e7⟩
  · rw [hd] at e
    have e7 : happyK S ≠ 7 := by simpa using e
    exact h4 e7
theorem first_v3 : V3 rec1 := by
  have hn : lab buy = 0 := by decide +kernel
  simp [V3, rec1, hn]
theorem first_begin : beginP rec1 = (0, sg1) := by
  unfold beginP
  rw [up_v3 rec1 first_v3 rfl]
  simp [rec1, sg1]
theorem first_happy : happyK sg1 = 2 := by decide
theorem first_fit : rec1.x.fit := fit_v3 _ first_v3 (by decide)
theorem cnt_of (S : Sg) (hc : chkS S = true) : 1 ≤ S.x.cnt ∧ S.x.cnt ≤ 32 ∧ 1 ≤ S.x.ph ∧ S.x.ph ≤ 4 := by
  obtain ⟨⟨_, _, b3, _⟩, hG⟩ := (chkS_iff S).1 hc
  refine ⟨b3.1, b3.2, ?_⟩
  rcases hG with ⟨c1, _⟩ | ⟨c1, _⟩ | ⟨c1, _⟩ | ⟨c1, _⟩ <;> omega
/-- the saga in the loop: the argument, or one in memory of its own -/
def KS (S : Sg) (h : SH) (G : Nat) (wr : World) (S' : Sg) (h' : SH) : Prop := (S' = S ∧ h' = h) ∨ ∃ n, G < n ∧ SgO n wr S' h'
theorem KS.at {w wr : World} {S S' : Sg} {h h' : SH} {G : Nat} (q : KS S h G wr S' h') (k : SgAt w S h) (b : Below w.heap.size w wr) : SgAt wr S' h' := by
  rcases q with ⟨rfl, rfl⟩ | ⟨n, _, o⟩
  · exact k.kept b
  · exact o.at
theorem KS.kept {wr wr' : World} {S S' : Sg} {h h' : SH} {G : Nat} (q : KS S h G wr S' h') (b : Below wr.heap.size wr wr') : KS S h G wr' S' h' := by
  rcases q with q | ⟨n, hn, o⟩
  · exact .inl q
  · exact .inr ⟨n, hn, o.kept b⟩
theorem KS.sets {wr : World} {S S' : Sg} {h h' : SH} {G : Nat} (q : KS S h G wr S' h') (g o : Nat) (vs : List Value) (hg : g ≤ G) : KS S h G (wr.setCells g o vs) S' h' := by
  rcases q with q | ⟨n, hn, q⟩
  · exact .inl q
  · exact .inr ⟨n, hn, q.sets g o vs (by omega)⟩
end Go.Proofs.YtgjlkkikgkbamaaDoor
