/-
  DiskStays and its kin: alike, filesAlike, num, proper, changing.
-/
import Derived.Test.YtjepeeopjjnglaaDkh
import Derived.Deep.RegionHeld
namespace Go.Proofs.Ytjepeeopjjnglaa
open Go Go.RowKit Go.ChangeShapes
open Wb

set_option maxHeartbeats 400000 in
theorem dlalike_any (va vb : Value) (a b : List Nat) (w : World) (ha : Bs w va a) (hb : Bs w vb b) :
    Calls Try.prog 19 #[va, vb] w fun e w' => e = .returned (.bool (decide (a = b))) ∧ Below w.heap.size w w' := by
  obtain ⟨aoa, capa, rfl, hla, hma, hna, hca⟩ := ha.shape
  obtain ⟨aob, capb, rfl, hlb, hmb, hnb, hcb⟩ := hb.shape
  unfold maxLen at hma hmb
  have ga := ha.good
  have gb := hb.good
  by_cases hlen : a.length = b.length
  · have HL : Hid (a.length = b.length) := hlen
    have d0 : ((a.length : Int) != (b.length : Int)) = false := by simp [hlen]
    clear hlen
    go_enter Try.func19, Try.ntmps19
    go_wp2
    go_loopw [5] (fun i wr => ∃ k : Nat, k ≤ a.length ∧ i = .int .i64 k ∧ a.take k = b.take k ∧ Below w.heap.size w wr) (fun i _ => a.length - (intOf i).toNat)
    case atStart => exact ⟨0, Nat.zero_le _, rfl, by simp, Below.refl _ _⟩
    case round =>
      obtain ⟨k, hk, rfl, heq, hbel⟩ := hrel
      have HQ : Hid (a.take k = b.take k) := heq
      clear heq
      by_cases hlt : k < a.length
      · have hlt' : k < b.length := by rw [← HL.out]; exact hlt
        obtain ⟨b1, off1, rfl, hcell1⟩ := hca (List.ne_nil_of_length_pos (by omega))
        obtain ⟨b2, off2, rfl, hcell2⟩ := hcb (List.ne_nil_of_length_pos (by omega))
        have q1 := (hbel.cell (p := ⟨b1, off1 + k, none⟩) (World.block_lt_of_cell? _ _ (hcell1 k hlt))).trans (hcell1 k hlt)
        have q2 := (hbel.cell (p := ⟨b2, off2 + k, none⟩) (World.block_lt_of_cell? _ _ (hcell2 k hlt'))).trans (hcell2 k hlt')
        clear hca hcb hcell1 hcell2 hna hnb ha hb
        by_cases hxy : a[k] = b[k]
        · have HS : Hid (a.take (k + 1) = b.take (k + 1)) := by
            show _ = _
            rw [List.take_succ_eq_append_getElem hlt, List.take_succ_eq_append_getElem hlt', HQ.out, hxy]
          rw [hxy] at q1
          generalize b[k] = y at *
          have d1 : ((y : Int) != (y : Int)) = false := by simp
          clear hxy
          go_wp2
          go_quiet (fail)
          go_wp2
          go_roundw
          case rel => exact ⟨k + 1, by omega, by go_num, HS.out, bel_drewN hbel _⟩
          case measure => simp [intOf]; omega
        · have HN : Hid (¬ a = b) := by
            intro e
            subst e
            exact hxy rfl
          have d1 : ((a[k] : Int) != (b[k] : Int)) = true := by rw [bne_iff_ne]; omega
          generalize a[k] = x at *
          generalize b[k] = y at *
          clear hxy
          go_wp2
          go_quiet (fail)
          go_wp2
          go_ret
          exact ⟨by rw [decide_eq_false HN.out]; rfl, bel_drewN hbel _⟩
      · have HE : Hid (a = b) := by
          have h := HQ.out
          rw [List.take_of_length_le (by omega), List.take_of_length_le (by rw [← HL.out]; omega)] at h
          exact h
        go_wp2
        go_ret
        exact ⟨by rw [decide_eq_true HE.out]; rfl, hbel⟩
  · have HN : Hid (¬ a = b) := fun e => hlen (by rw [e])
    have d0 : ((a.length : Int) != (b.length : Int)) = true := by rw [bne_iff_ne]; omega
    clear hlen hca hcb
    go_enter Try.func19, Try.ntmps19
    go_wp2
    go_ret
    exact ⟨by rw [decide_eq_false HN.out]; rfl, Below.refl _ _⟩
theorem dlalike_yes (va vb : Value) (a : List Nat) (w : World) (ha : Bs w va a) (hb : Bs w vb a) :
    Calls Try.prog 19 #[va, vb] w fun e w' => e = .returned (.bool true) ∧ Below w.heap.size w w' := by
  have := dlalike_any va vb a a w ha hb
  simpa using this
set_option maxRecDepth 100000 in
set_option maxHeartbeats 2000000 in
theorem dlfalike_yes (ok1 ok2 : Nat → Prop) (va vb : Value) (fs : List (List UInt8 × List Nat)) (w : World) (ha : Fls ok1 w va fs) (hb : Fls ok2 w vb fs) :
    Calls Try.prog 17 #[va, vb] w fun e w' => e = .returned (.bool true) ∧ Below w.heap.size w w' := by
  have HA : Hid (∀ W, Below w.heap.size w W → Fls ok1 W va fs) := fun W hW => ha.kept hW
  have HB : Hid (∀ W, Below w.heap.size w W → Fls ok2 W vb fs) := fun W hW => hb.kept hW
  obtain ⟨aa, ca, hva, ha1, ha2, -⟩ := ha.sh
  obtain ⟨ab, cb, hvb, hb1, hb2, -⟩ := hb.sh
  subst hva hvb
  unfold maxLen at ha2 hb2
  have d0 : ((fs.length : Int) != (fs.length : Int)) = false := by simp
  clear ha hb
  go_enter Try.func17, Try.ntmps17
  go_wp2_with fail
  go_loopw [5] (fun i wr => ∃ k : Nat, k ≤ fs.length ∧ i = .int .i64 (k : Int) ∧ Below w.heap.size w wr) (fun i _ => fs.length - (intOf i).toNat)
  case atStart => exact ⟨0, Nat.zero_le _, rfl, Below.refl _ _⟩
  case round =>
    obtain ⟨k, hk, rfl, hbel⟩ := hrel
    by_cases hlt : k < fs.length
    · obtain ⟨a1, c1, e1, -, -, h1⟩ := (HA.out wr hbel).sh
      obtain ⟨a2, c2, e2, -, -, h2⟩ := (HB.out wr hbel).sh
      obtain ⟨b1, o1, e3, -, h3⟩ := h1 (List.ne_nil_of_length_pos (by omega))
      obtain ⟨b2, o2, e4, -, h4⟩ := h2 (List.ne_nil_of_length_pos (by omega))
      simp only [Value.slice.injEq] at e1 e2
      obtain ⟨rfl, -, -⟩ := e1
      obtain ⟨rfl, -, -⟩ := e2
      subst e3 e4
      obtain ⟨p1, v1, q1, s1, -⟩ := h3 k hlt
      obtain ⟨p2, v2, q2, s2, -⟩ := h4 k hlt
      have HC : Hid (∀ W, Below wr.heap.size wr W → W.cell? ⟨b1, o1 + k * 2, none⟩ = some (enS fs[k].1) ∧ W.cell? ⟨b2, o2 + k * 2, none⟩ = some (enS fs[k].1) ∧ W.cell? ⟨b1, o1 + k * 2 + 1, none⟩ = some v1 ∧ W.cell? ⟨b2, o2 + k * 2 + 1, none⟩ = some v2) := fun W hW => ⟨(hW.cell (p := ⟨b1, _, none⟩) (World.block_lt_of_cell? _ _ p1)).trans p1, (hW.cell (p := ⟨b2, _, none⟩) (World.block_lt_of_cell? _ _ p2)).trans p2, (hW.cell (p := ⟨b1, _, none⟩) (World.block_lt_of_cell? _ _ q1)).trans q1, (hW.cell (p := ⟨b2, _, none⟩) (World.block_lt_of_cell? _ _ q2)).trans q2⟩
      have HS : Hid (∀ W, Below wr.heap.size wr W → Bs W v1 fs[k].2 ∧ Bs W v2 fs[k].2) := fun W hW => ⟨s1.kept hW, s2.kept hW⟩
      obtain ⟨x1, y1, hv1, -⟩ := s1.shape
      obtain ⟨x2, y2, hv2, -⟩ := s2.shape
      unfold enS at p1 p2 HC
      clear h1 h2 h3 h4 s1 s2 p1 p2 q1 q2 HA HB
      generalize fs[k] = x at *
      obtain ⟨nm, dl⟩ := x
      simp only at hv1 hv2 HC HS
      subst hv1 hv2
      obtain ⟨p1, p2, q1, q2⟩ := HC.out wr (Below.refl _ _)
      go_wp2_with fail
      go_region_held (fun w' => w'.cell? ⟨b1, o1 + k * 2, none⟩ = some (.string ⟨nm.toArray⟩) ∧ w'.cell? ⟨b2, o2 + k * 2, none⟩ = some (.string ⟨nm.toArray⟩) ∧ w'.cell? ⟨b1, o1 + k * 2 + 1, none⟩ = some (.slice x1 dl.length y1) ∧ w'.cell? ⟨b2, o2 + k * 2 + 1, none⟩ = some (.slice x2 dl.length y2)) (first | go_keep | (exact HC.out _ (andThen (Below.drew (Below.refl _ _)) hb')))
        (first | (go_at_call 19; refine (dlalike_yes _ _ dl _ ?_ ?_).mono ?_; (exact (HS.out _ (Below.drew (Below.refl _ _))).1); (exact (HS.out _ (Below.drew (Below.refl _ _))).2); rintro e w' ⟨rfl, hb'⟩))
      have hb2 : Below w.heap.size w w' := andThen (Below.drew hbel) hb'
      clear hb' hbel HC HS q1 q2 p1 p2
      go_wp2_with fail
      go_roundw
      case rel => exact ⟨k + 1, by omega, by go_num, hb2⟩
      case measure => simp [intOf]; omega
    · go_wp2_with fail
      go_returns
      exact ⟨rfl, hbel⟩
/-- 64, if the quota is outside 16 to 4194304 -/
def Dk.proper (q : Int) : Int := if q < 16 ∨ 4194304 < q then 64 else q
theorem dlproper_any (q : Int) (w : World) : Calls Try.prog 9 #[.int .i64 q] w fun e w' => e = .returned (.int .i64 (Dk.proper q)) ∧ w' = w := by
  unfold Dk.proper
  go_enter Try.func9, Try.ntmps9
  by_cases h1 : q < 16
  · go_wp2_with fail
    go_returns
    exact ⟨by simp [], rfl⟩
  · by_cases h2 : 4194304 < q
    · go_wp2_with fail
      go_returns
      exact ⟨by simp [], rfl⟩
    · go_wp2_with fail
      go_returns
      exact ⟨by simp [], rfl⟩
theorem dlnum_any (q : Int) (w : World) : Calls Try.prog 18 #[.int .i64 q] w fun e w' => e = .returned (.int .i64 q) ∧ w' = w := by
  go_enter Try.func18, Try.ntmps18
  go_wp2_with fail
  go_returns
  exact ⟨rfl, rfl⟩
end Go.Proofs.Ytjepeeopjjnglaa
