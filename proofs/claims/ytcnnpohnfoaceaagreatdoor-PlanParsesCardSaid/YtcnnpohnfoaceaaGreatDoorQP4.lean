import Derived.Lib.ItoaLen
import Derived.Test.YtcnnpohnfoaceaaGreatDoorQP2
/-
  Package plan: stepText.
-/
namespace Go.Proofs.YtcnnpohnfoaceaaGreatDoor
open Go Go.RowKit
open Wb

def itoaB (t : Int) : ByteArray := ⟨(Lib.itoa t).toArray⟩
/-- the text of a step -/
def stx1 (s : Stp) : ByteArray := if 1 < s.t then s.d ++ (⟨#[42]⟩ ++ itoaB s.t) else s.d
def stx2 (a : Bool) (s : Stp) : ByteArray := if a = true then stx1 s ++ (⟨#[126]⟩ ++ s.u) else stx1 s
def stxt (p : Pln) (i : Nat) (s : Stp) : ByteArray := if p.isPiv i = true then stx2 (p.ahead i) s ++ ⟨#[33]⟩ else stx2 (p.ahead i) s
theorem itoaB_size (t : Int) (h0 : -9223372036854775808 ≤ t) (h1 : t ≤ 9223372036854775807) : (itoaB t).size ≤ 21 := by
  show (Lib.itoa t).toArray.size ≤ 21
  simpa using Lib.itoa_length_le t h0 h1
theorem stx1_size (s : Stp) (h0 : -9223372036854775808 ≤ s.t) (h1 : s.t ≤ 9223372036854775807) : (stx1 s).size ≤ s.d.size + 22 := by
  unfold stx1
  split
  · rw [ByteArray.size_append, ByteArray.size_append]
    have := itoaB_size s.t h0 h1
    show s.d.size + (1 + _) ≤ _
    omega
  · omega
theorem stx2_size (a : Bool) (s : Stp) (h0 : -9223372036854775808 ≤ s.t) (h1 : s.t ≤ 9223372036854775807) : (stx2 a s).size ≤ s.d.size + s.u.size + 23 := by
  have := stx1_size s h0 h1
  unfold stx2
  split
  · rw [ByteArray.size_append, ByteArray.size_append]
    show _ + (1 + _) ≤ _
    omega
  · omega
theorem stxt_size (p : Pln) (i : Nat) (s : Stp) (h0 : -9223372036854775808 ≤ s.t) (h1 : s.t ≤ 9223372036854775807) : (stxt p i s).size ≤ s.d.size + s.u.size + 24 := by
  have := stx2_size (p.ahead i) s h0 h1
  unfold stxt
  split
  · rw [ByteArray.size_append]
    show _ + 1 ≤ _
    omega
  · omega
set_option maxRecDepth 100000 in
set_option maxHeartbeats 8000000 in
theorem pstext_any (p : Pln) (v : Value) (i : Nat) (s : Stp) (w : World) (hs : p.ss[i]? = some s) (h : StsAt w v p.ss) (hT : Text.NTab w) (hd : s.d.size ≤ 1000) (hu : s.u.size ≤ 1000) (ht : 0 ≤ s.t ∧ s.t ≤ 1000) (hi : i < 1000) :
    Calls Tryz.prog 26 #[plv p v, .int .i64 (i : Int)] w fun e w' => e = .returned (.string (stxt p i s)) ∧ Below w.heap.size w w' := by
  have hlt : i < p.ss.length := (List.getElem?_eq_some_iff.1 hs).1
  obtain ⟨ao, cap, rfl, h1, h2, h3⟩ := h
  obtain ⟨b, off, rfl, hr⟩ := h3 i s hs
  have HIT : Hid (∀ w', Below w.heap.size w w' → Calls Tryz.prog 47 #[.int .i64 s.t] w' fun e w'' => e = .returned (.string (itoaB s.t)) ∧ Below w'.heap.size w' w'') := fun w' hb => Text.itoa_all s.t (by omega) (by omega) w' (hT.kept hb)
  have HAH : Hid (∀ w', Calls Tryz.prog 48 #[plv p (.slice (some ⟨b, off, none⟩) p.ss.length cap), .int .i64 (i : Int)] w' fun e w'' => e = .returned (.bool (p.ahead i)) ∧ Below w'.heap.size w' w'') := fun w' => pahead_any p _ i w' (by omega) (by omega)
  have HPI : Hid (∀ w', Calls Tryz.prog 49 #[plv p (.slice (some ⟨b, off, none⟩) p.ss.length cap), .int .i64 (i : Int)] w' fun e w'' => e = .returned (.bool (p.isPiv i)) ∧ Below w'.heap.size w' w'') := fun w' => pispiv_any p _ i w' (by omega) (by omega)
  unfold maxLen at h2
  have x0 : ∀ o, (w.alloc o).cell? ⟨b, off + i * 3, none⟩ = some (.string s.d) := fun o => (range_kept hr (up0 w o)) 0 _ rfl
  have x1 : ∀ o, (w.alloc o).cell? ⟨b, off + i * 3 + 1, none⟩ = some (.string s.u) := fun o => (range_kept hr (up0 w o)) 1 _ rfl
  have x2 : ∀ o, (w.alloc o).cell? ⟨b, off + i * 3 + 2, none⟩ = some (.int .i64 s.t) := fun o => (range_kept hr (up0 w o)) 2 _ rfl
  have hi0 : (0 : Int) ≤ (i : Int) ∧ (i : Int) < (p.ss.length : Int) := by omega
  obtain ⟨hi1, hi2⟩ := hi0
  have HZ : Hid ((itoaB s.t).size ≤ 21) := itoaB_size s.t (by omega) (by omega)
  have hz := HZ.out
  have HR : Hid (stxt p i s = if p.isPiv i = true then (if p.ahead i = true then (if 1 < s.t then s.d ++ (⟨#[42]⟩ ++ itoaB s.t) else s.d) ++ (⟨#[126]⟩ ++ s.u) else (if 1 < s.t then s.d ++ (⟨#[42]⟩ ++ itoaB s.t) else s.d)) ++ ⟨#[33]⟩ else (if p.ahead i = true then (if 1 < s.t then s.d ++ (⟨#[42]⟩ ++ itoaB s.t) else s.d) ++ (⟨#[126]⟩ ++ s.u) else (if 1 < s.t then s.d ++ (⟨#[42]⟩ ++ itoaB s.t) else s.d))) := rfl
  generalize stxt p i s = Rs at *
  generalize itoaB s.t = I at *
  generalize p.ahead i = ah at *
  generalize p.isPiv i = ip at *
  have HL : Hid (∀ W, LB W w.heap.size 25 (plvl p (.slice (some ⟨b, off, none⟩) p.ss.length cap)) → W.rangeAt w.heap.size 0 (plvl p (.slice (some ⟨b, off, none⟩) p.ss.length cap))) := fun W l => l.range
  have HLI : Hid ((Tryz.prog.info? 25).map (·.size) = some (plvl p (.slice (some ⟨b, off, none⟩) p.ss.length cap)).length) := infoPlan
  have hpl : plv p (.slice (some ⟨b, off, none⟩) p.ss.length cap) = .agg (plvl p (.slice (some ⟨b, off, none⟩) p.ss.length cap)).toArray := rfl
  rw [hpl] at HAH HPI ⊢
  have q2 : ∀ o2, (w.alloc (.cells (plvl p (.slice (some ⟨b, off, none⟩) p.ss.length cap)).toArray 25)).cell? ⟨w.heap.size, 2, none⟩ = some (.slice (some ⟨b, off, none⟩) p.ss.length cap) ∧ o2 = o2 := fun o2 => ⟨(lb_new w (plvl p (.slice (some ⟨b, off, none⟩) p.ss.length cap)) 25).cell 2 _ rfl, (rfl : (o2 : Nat) = o2)⟩
  have p2 := (q2 0).1
  clear q2 hpl hr h3 hs hT
  have HN : Hid (∀ o2, o2 = .cells #[.string s.d, .string s.u, .int .i64 s.t] 60 → LB ((w.alloc (.cells (plvl p (.slice (some ⟨b, off, none⟩) p.ss.length cap)).toArray 25)).alloc o2) w.heap.size 25 (plvl p (.slice (some ⟨b, off, none⟩) p.ss.length cap)) ∧ LB ((w.alloc (.cells (plvl p (.slice (some ⟨b, off, none⟩) p.ss.length cap)).toArray 25)).alloc o2) (w.heap.size + 1) 60 (stl s) ∧ Below w.heap.size w ((w.alloc (.cells (plvl p (.slice (some ⟨b, off, none⟩) p.ss.length cap)).toArray 25)).alloc o2)) := fun o2 e => by subst e; exact lb_new2 w (plvl p (.slice (some ⟨b, off, none⟩) p.ss.length cap)) (stl s) 25 60
  generalize plvl p (.slice (some ⟨b, off, none⟩) p.ss.length cap) = D at *
  have K : Hid (∀ W : World, LB W w.heap.size 25 D ∧ LB W (w.heap.size + 1) 60 (stl s) ∧ Below w.heap.size w W → ∀ W', Below W.heap.size W W' → LB W' w.heap.size 25 D ∧ LB W' (w.heap.size + 1) 60 (stl s) ∧ Below w.heap.size w W') := fun W hh W' hb => ⟨hh.1.kept hb, hh.2.1.kept hb, andThen hh.2.2 hb⟩
  by_cases h9 : 1 < s.t
  · have g9 : decide (s.t > 1) = true := decide_eq_true h9
    go_enter Tryz.func26, Tryz.ntmps26
    go_wp2_with fail
    refine (HIT.out _ (HN.out _ rfl).2.2).mono ?_
    rintro e w1 ⟨rfl, b1⟩
    have H1 : Hid (LB w1 w.heap.size 25 D ∧ LB w1 (w.heap.size + 1) 60 (stl s) ∧ Below w.heap.size w w1) := K.out _ (HN.out _ rfl) _ b1
    clear b1 HN HIT x0 x1 x2 p2
    go_wp2_with (first | (refine wpList_load_mid rfl 25 _ rfl w.heap.size 0 rfl D _ H1.out.1.range Tryz.underlying25 rfl HLI.out ?_) | fail)
    refine (HAH.out _).mono ?_
    rintro e w2 ⟨rfl, b2⟩
    have H2 : Hid (LB w2 w.heap.size 25 D ∧ LB w2 (w.heap.size + 1) 60 (stl s) ∧ Below w.heap.size w w2) := K.out _ H1.out _ b2
    clear b2 H1 HAH
    have y1 := H2.out.2.1.cell 1 _ rfl
    cases ah
    all_goals
      go_wp2_with (first | (refine wpList_load_mid rfl 25 _ rfl w.heap.size 0 rfl D _ H2.out.1.range Tryz.underlying25 rfl HLI.out ?_) | fail)
      refine (HPI.out _).mono ?_
      rintro e w3 ⟨rfl, b3⟩
      have H3 : Hid (Below w.heap.size w w3) := andThen H2.out.2.2 b3
      clear b3 H2 HPI y1
      cases ip
      all_goals
        go_wp2_with fail
        go_ret
        exact ⟨by rw [HR.out, if_pos h9]; rfl, H3.out⟩
  · have g9 : decide (s.t > 1) = false := decide_eq_false h9
    have H9 : Hid (¬ 1 < s.t) := h9
    go_enter Tryz.func26, Tryz.ntmps26
    have H1 : Hid (∀ o2, o2 = .cells #[.string s.d, .string s.u, .int .i64 s.t] 60 → LB ((w.alloc (.cells D.toArray 25)).alloc o2) w.heap.size 25 D ∧ LB ((w.alloc (.cells D.toArray 25)).alloc o2) (w.heap.size + 1) 60 (stl s) ∧ Below w.heap.size w ((w.alloc (.cells D.toArray 25)).alloc o2)) := HN.out
    go_wp2_with (first | (refine wpList_load_mid rfl 25 _ rfl w.heap.size 0 rfl D _ (H1.out _ rfl).1.range Tryz.underlying25 rfl HLI.out ?_) | fail)
    refine (HAH.out _).mono ?_
    rintro e w2 ⟨rfl, b2⟩
    have H2 : Hid (LB w2 w.heap.size 25 D ∧ LB w2 (w.heap.size + 1) 60 (stl s) ∧ Below w.heap.size w w2) := K.out _ (H1.out _ rfl) _ b2
    clear b2 H1 HAH HN HIT x0 x1 x2 p2
    have y1 := H2.out.2.1.cell 1 _ rfl
    cases ah
    all_goals
      go_wp2_with (first | (refine wpList_load_mid rfl 25 _ rfl w.heap.size 0 rfl D _ H2.out.1.range Tryz.underlying25 rfl HLI.out ?_) | fail)
      refine (HPI.out _).mono ?_
      rintro e w3 ⟨rfl, b3⟩
      have H3 : Hid (Below w.heap.size w w3) := andThen H2.out.2.2 b3
      clear b3 H2 HPI y1
      cases ip
      all_goals
        go_wp2_with fail
        go_ret
        exact ⟨by rw [HR.out, if_neg (Int.not_lt.2 H9.out)]; rfl, H3.out⟩
end Go.Proofs.YtcnnpohnfoaceaaGreatDoor

/-
  Package plan: Print.
-/
namespace Go.Proofs.YtcnnpohnfoaceaaGreatDoor
open Go Go.RowKit
open Wb

theorem nmE_shortP (s : ByteArray) : ∀ (m n p : Nat), s.size - p ≤ m → n ≤ 48 → (Text.Tx.nmE s n p).1 = 0 → s.size ≤ p + 4 * (48 - n)
  | m, n, p, hm, hn, h => by
    by_cases hp : p < s.size
    · rw [Text.Tx.nmE, dif_pos hp] at h
      by_cases h48 : 48 ≤ n
      · rw [if_pos h48] at h; simp at h
      · rw [if_neg h48] at h
        split at h
        · simp at h
        · split at h
          · simp at h
          · have hd := Text.Tx.decode_fits s p hp
            match m, hm with
            | 0, hm => omega
            | m + 1, hm =>
              have := nmE_shortP s m (n + 1) (p + (Utf8.decode s p).2) (by omega) (by omega) h
              omega
    · omega
theorem nmd_short {s : ByteArray} (h : nmd s = true) : s.size ≤ 192 := by
  unfold nmd at h
  have h1 : (Text.Tx.nmA s).1 = 0 := by simpa using h
  unfold Text.Tx.nmA at h1
  split at h1
  · omega
  · have := nmE_shortP s s.size 0 0 (by omega) (by omega) h1
    omega
/-- a step that is right is short -/
theorem stepErr_small {p : Pln} {i : Nat} {s : Stp} (h : stepErr p i s = 0) : s.d.size ≤ 192 ∧ s.u.size ≤ 192 ∧ 0 ≤ s.t ∧ s.t ≤ 1000 ∧ nmd s.d = true := by
  unfold stepErr at h
  obtain ⟨wi, hw⟩ : ∃ wi, winP s.t (if p.behind i then 0 else 1) (if p.behind i then 0 else 1000) = wi := ⟨_, rfl⟩
  rw [hw] at h
  split at h
  · cases h
  split at h
  · cases h
  split at h
  · cases h
  split at h
  · cases h
  rename_i h1 h2 h3 h4
  have d1 : nmd s.d = true := by simpa using h1
  have e1 := nmd_short d1
  have e2 : s.u.size ≤ 192 := by
    cases hu : s.und with
    | true =>
      rw [hu] at h2
      exact nmd_short (by simpa using h2)
    | false =>
      unfold Stp.und at hu
      have : s.u.toList = [] := by simpa using hu
      rw [ByteArray.toList_eq] at this
      have e : s.u.data.size = 0 := by rw [← Array.length_toList, this]; rfl
      show s.u.data.size ≤ 192
      omega
  have h5 : winP s.t (if p.behind i then 0 else 1) (if p.behind i then 0 else 1000) = true := by rw [hw]; simpa using h4
  unfold winP at h5
  simp only [Bool.and_eq_true, decide_eq_true_eq] at h5
  refine ⟨e1, e2, ?_, ?_, d1⟩
  · have := h5.1
    split at this <;> omega
  · have := h5.2
    split at this <;> omega
theorem firstErr_all {p : Pln} : ∀ (l : List Stp) (i : Nat), (firstErr p i l).1 = 0 → ∀ k s, l[k]? = some s → stepErr p (i + k) s = 0
  | [], _, _, k, s, hs => by simp at hs
  | a :: r, i, h, k, s, hs => by
    rw [firstErr] at h
    split at h
    · rename_i h1
      exact absurd h h1
    · rename_i h1
      cases k with
      | zero =>
        simp at hs
        subst hs
        simpa using h1
      | succ k =>
        have := firstErr_all r (i + 1) h k s (by simpa using hs)
        rw [show i + (k + 1) = i + 1 + k by omega]
        exact this
theorem fErr_good {p : Pln} (h : (fErr p).1 = 0) : nmd p.nm = true ∧ p.nm.size ≤ 192 ∧ 1 ≤ p.ss.length ∧ p.ss.length ≤ 32 ∧ (0 ≤ p.piv ∧ p.piv ≤ (p.ss.length : Int)) ∧ ∀ k s, p.ss[k]? = some s → stepErr p k s = 0 := by
  unfold fErr at h
  split at h
  · cases h
  split at h
  · cases h
  split at h
  · cases h
  split at h
  · cases h
  rename_i h1 h2 h3 h4
  have d1 : nmd p.nm = true := by simpa using h1
  have h5 : winP p.piv 0 (p.ss.length : Int) = true := by simpa using h4
  unfold winP at h5
  simp only [Bool.and_eq_true, decide_eq_true_eq] at h5
  refine ⟨d1, nmd_short d1, by omega, by omega, h5, fun k s hs => ?_⟩
  have := firstErr_all p.ss 0 h k s hs
  rwa [Nat.zero_add] at this
/-- the texts of the steps -/
def txF (p : Pln) : Nat → List Stp → List ByteArray
  | _, [] => []
  | i, s :: r => stxt p i s :: txF p (i + 1) r
theorem txF_len (p : Pln) : ∀ (l : List Stp) (i : Nat), (txF p i l).length = l.length
  | [], _ => rfl
  | _ :: r, i => by rw [txF, List.length_cons, List.length_cons, txF_len p r (i + 1)]
theorem txF_get (p : Pln) : ∀ (l : List Stp) (i k : Nat), (txF p i l)[k]? = l[k]?.map (stxt p (i + k))
  | [], _, _ => by simp [txF]
  | s :: r, i, 0 => by simp [txF]
  | s :: r, i, k + 1 => by
    rw [txF, List.getElem?_cons_succ, List.getElem?_cons_succ, txF_get p r (i + 1) k, show i + 1 + k = i + (k + 1) by omega]
def joinP (xs : List ByteArray) : ByteArray := ⟨(Lib.join (xs.map (·.data.toList)) [44, 32]).toArray⟩
/-- the text of a plan -/
def printP (p : Pln) : ByteArray := p.nm ++ ⟨#[58, 32]⟩ ++ joinP (txF p 0 p.ss)
def printA (p : Pln) : ByteArray × Int := if (fErr p).1 = 0 then (printP p, 0) else (⟨#[]⟩, (fErr p).1)
theorem lens_le (M : Nat) : ∀ (xs : List (List UInt8)), (∀ x ∈ xs, x.length ≤ M) → Lib.lens xs ≤ xs.length * M
  | [], _ => by simp [Lib.lens]
  | x :: r, h => by
    have e1 := h x (List.mem_cons_self ..)
    have e2 := lens_le M r fun y hy => h y (List.mem_cons_of_mem _ hy)
    have e3 : Lib.lens (x :: r) = x.length + Lib.lens r := by simp [Lib.lens]
    rw [e3, List.length_cons, Nat.add_mul]
    omega
theorem joinP_size (xs : List ByteArray) (hn : xs.length ≤ 32) (hx : ∀ x ∈ xs, x.size ≤ 500) : (Lib.join (xs.map (·.data.toList)) [44, 32]).length ≤ 20000 := by
  cases xs with
  | nil => simp [Lib.join]
  | cons x r =>
    have hl := lens_le 500 ((x :: r).map (·.data.toList)) fun y hy => by
      obtain ⟨z, hz, rfl⟩ := List.mem_map.1 hy
      exact hx z hz
    rw [List.length_map] at hl
    have hm : (x :: r).length * 500 ≤ 32 * 500 := Nat.mul_le_mul hn (Nat.le_refl _)
    rw [List.map_cons] at hl ⊢
    rw [Lib.join_length, List.length_map]
    simp only [List.length_cons, List.length_nil] at hn ⊢
    omega
theorem joinP_any (B : Nat) (w : World) (v : Value) (xs : List ByteArray) (h : w.ownsRow B 9 1 v xs.length (xs.map Value.string)) (hn : xs.length ≤ 32) (hx : ∀ x ∈ xs, x.size ≤ 500) :
    Calls Tryz.prog 27 #[v, .string ⟨#[44, 32]⟩] w fun e w' => e = .returned (.string (joinP xs)) ∧ Below w.heap.size w w' := by
  have hs := joinP_size xs hn hx
  have h0 := h
  rcases h.2 with ⟨rfl, h1⟩ | ⟨g, cap, cur, rfl, hg, hh, h1, h2, h3, h4⟩
  · obtain rfl : xs = [] := List.eq_nil_of_length_eq_zero h1
    refine (Any.strings_Join_none laysJoin extraJoin none 0 ⟨#[44, 32]⟩ w).mono ?_
    rintro e w' ⟨rfl, rfl⟩
    exact ⟨rfl, Below.refl _ _⟩
  · refine (Any.strings_Join laysJoin extraJoin g 0 cap xs ⟨#[44, 32]⟩ w (fun j x hj => ?_) (Array.getElem?_eq_some_iff.1 hh).1 (by omega) h1 (Nat.le_trans hs (by decide))).mono ?_
    · have hj2 := (List.getElem?_eq_some_iff.1 hj).1
      have h9 := World.ownsRow.cellAt h0 j (by omega)
      rw [Nat.zero_add, h9, List.getElem?_map, hj]
      rfl
    · rintro e w' ⟨rfl, hb⟩
      exact ⟨rfl, hb⟩
theorem infoStr3 : (Tryz.prog.info? 9).map (fun i => (i.zero, i.size, i.bytes)) = some (some (.string ⟨#[]⟩), 1, 16) := by kernel_rfl
set_option maxRecDepth 100000 in
set_option maxHeartbeats 8000000 in
theorem pprint_any (p : Pln) (v : Value) (w : World) (h : StsAt w v p.ss) (hT : Text.TabP 0 .i32 Text.Tx.lets w) (hN : Text.NTab w) (hF : PFit p) :
    Calls Tryz.prog 9 #[plv p v] w fun e w' => e = .returned (.tuple #[.string (printA p).1, .int .i64 (printA p).2]) ∧ Below w.heap.size w w' := by
  have HCK : Hid (∀ w', Below w.heap.size w w' → Calls Tryz.prog 11 #[plv p v] w' fun e w'' => e = .returned (.int .i64 (fErr p).1) ∧ Below w'.heap.size w' w'') := fun w' hb => pcheck_any p v w' (h.kept hb) (hT.kept hb) hF
  obtain ⟨R, hR⟩ : ∃ R, printA p = R := ⟨_, rfl⟩
  have HR : Hid ((if (fErr p).1 = 0 then (printP p, 0) else (⟨#[]⟩, (fErr p).1)) = R) := hR
  rw [hR]
  clear hR
  have hpl : plv p v = .agg (plvl p v).toArray := rfl
  have HLI : Hid ((Tryz.prog.info? 25).map (·.size) = some (plvl p v).length) := infoPlan
  have HX : Hid (LB (w.alloc (.cells (plvl p v).toArray 25)) w.heap.size 25 (plvl p v) ∧ Below w.heap.size w (w.alloc (.cells (plvl p v).toArray 25))) := ⟨lb_new w _ _, up0 _ _⟩
  by_cases h0 : (fErr p).1 = 0
  · have HG := fErr_good h0
    have HST : Hid (∀ (k : Nat) (s : Stp) (w' : World), p.ss[k]? = some s → Below w.heap.size w w' → Calls Tryz.prog 26 #[plv p v, .int .i64 (k : Int)] w' fun e w'' => e = .returned (.string (stxt p k s)) ∧ Below w'.heap.size w' w'') := fun k s w' hs hb => by
      have e := stepErr_small (HG.2.2.2.2.2 k s hs)
      exact pstext_any p v k s w' hs (h.kept hb) (hN.kept hb) (by omega) (by omega) ⟨e.2.2.1, e.2.2.2.1⟩ (by have := (List.getElem?_eq_some_iff.1 hs).1; omega)
    have HSZ : Hid (∀ x ∈ txF p 0 p.ss, x.size ≤ 500) := fun x hx => by
      obtain ⟨k, hk⟩ := List.mem_iff_getElem?.1 hx
      rw [txF_get] at hk
      cases hs : p.ss[k]? with
      | none => rw [hs] at hk; cases hk
      | some s =>
        rw [hs] at hk
        injection hk with hk
        subst hk
        have e := stepErr_small (HG.2.2.2.2.2 k s hs)
        have := stxt_size p (0 + k) s (by omega) (by omega)
        omega
    have HR2 : Hid (R = (p.nm ++ ⟨#[58, 32]⟩ ++ joinP (txF p 0 p.ss), 0)) := by
      show R = _
      rw [← HR.out, if_pos h0]
      rfl
    have HJZ : Hid ((joinP (txF p 0 p.ss)).size ≤ 20000) := by
      have := joinP_size (txF p 0 p.ss) (by rw [txF_len]; omega) HSZ.out
      show (List.toArray _).size ≤ 20000
      simpa using this
    have HTL : Hid ((txF p 0 p.ss).length = p.ss.length) := txF_len p p.ss 0
    have HTG : Hid (∀ k s, p.ss[k]? = some s → (txF p 0 p.ss)[k]? = some (stxt p k s)) := fun k s hs => by rw [txF_get, hs, Nat.zero_add]; rfl
    obtain ⟨-, hnm, hl1, hl2, -⟩ := HG
    have hi := infoStr3
    obtain ⟨ao, cap, rfl, hc1, hc2, -⟩ := h
    unfold maxLen at hc2
    have c2 := HX.out.1.cell 2 _ rfl
    rw [h0] at HCK
    have HDC : Hid (∀ W, LB W w.heap.size 25 (plvl p (.slice ao p.ss.length cap)) → W.cell? ⟨w.heap.size, 0, none⟩ = some (.string p.nm) ∧ W.cell? ⟨w.heap.size, 2, none⟩ = some (.slice ao p.ss.length cap)) := fun W l => ⟨l.cell 0 _ rfl, l.cell 2 _ rfl⟩
    rw [hpl] at HCK HST ⊢
    clear HR h0 hpl hT hN hF
    generalize plvl p (.slice ao p.ss.length cap) = D at *
    generalize txF p 0 p.ss = T at *
    go_enter Tryz.func9, Tryz.ntmps9
    go_wp2_with (first | (refine wpList_load_mid rfl 25 _ rfl w.heap.size 0 rfl D _ HX.out.1.range Tryz.underlying25 rfl HLI.out ?_) | fail)
    refine (HCK.out _ HX.out.2).mono ?_
    rintro e w1 ⟨rfl, b1⟩
    have H1 : Hid (LB w1 w.heap.size 25 D ∧ Below w.heap.size w w1) := ⟨HX.out.1.kept b1, andThen HX.out.2 b1⟩
    clear b1 HX HCK c2
    obtain ⟨-, c2⟩ := HDC.out _ H1.out.1
    go_wp2_with fail
    go_loopw [5, 15] (fun vr i wr => ∃ k : Nat, k ≤ p.ss.length ∧ i = .int .i64 (k : Int) ∧ wr.ownsRow (w.heap.size + 1) 9 1 vr k ((T.take k).map Value.string) ∧ LB wr w.heap.size 25 D ∧ Below w.heap.size w wr) (fun _ i _ => p.ss.length - (intOf i).toNat)
    case atStart => exact ⟨0, Nat.zero_le _, rfl, by rw [List.take_zero]; exact World.ownsRow_nil _ _ _ _, H1.out.1, H1.out.2⟩
    case round =>
      obtain ⟨k, hk, rfl, hrow, hl, hbl⟩ := hrel
      clear H1 c2
      obtain ⟨a5, c5, rfl⟩ := ownsRow_shape hrow
      have HW : Hid (wr.ownsRow (w.heap.size + 1) 9 1 (.slice a5 k c5) k ((T.take k).map Value.string) ∧ LB wr w.heap.size 25 D ∧ Below w.heap.size w wr) := ⟨hrow, hl, hbl⟩
      clear hrow hl hbl
      by_cases hlt : k < p.ss.length
      · have HS : Hid (Calls Tryz.prog 26 #[.agg D.toArray, .int .i64 (k : Int)] wr fun e w'' => e = .returned (.string (stxt p k p.ss[k])) ∧ Below wr.heap.size wr w'') := HST.out k p.ss[k] wr (List.getElem?_eq_getElem hlt) HW.out.2.2
        have HTK : Hid ((T.take (k + 1)).map Value.string = (T.take k).map Value.string ++ [.string (stxt p k p.ss[k])]) := by
          show _ = _
          rw [List.take_add_one, HTG.out k p.ss[k] (List.getElem?_eq_getElem hlt)]
          simp
        generalize stxt p k p.ss[k] = x at *
        go_wp2_with (first | (refine wpList_load_mid rfl 25 _ rfl w.heap.size 0 rfl D _ HW.out.2.1.range Tryz.underlying25 rfl HLI.out ?_) | fail)
        refine HS.out.mono ?_
        rintro e w2 ⟨rfl, b2⟩
        have H2 : Hid (∀ o, (w2.alloc o).ownsRow (w.heap.size + 1) 9 1 (.slice a5 k c5) k ((T.take k).map Value.string) ∧ LB (w2.alloc o) w.heap.size 25 D ∧ Below w.heap.size w (w2.alloc o)) := fun o => ⟨ownsRow_same HW.out.1 fun g e => (up b2 o).block g (World.ownsRow.lt HW.out.1 g e).2, HW.out.2.1.kept (up b2 o), andThen HW.out.2.2 (up b2 o)⟩
        have hg2 : w.heap.size < w2.heap.size := Nat.lt_of_lt_of_le HW.out.2.1.lt b2.size
        clear b2 HS HST
        go_wp2_with (at_builtin; refine wpList_app _ rfl (.tmp 18) (.tmp 22) 9 67 rfl (w.heap.size + 1) _ 1 16 hi rfl (by decide) (by decide) Tryz.underlying67 _ k _ rfl (H2.out _).1 w2.heap.size [.string x] rfl rfl (lb_new w2 [.string x] 9).range (fun u hu => by rw [List.mem_singleton.1 hu]; rfl) (by omega) (H2.out _).2.1.lt ?_)
        intro v3 w3 hrow3 hg3
        have H3 : Hid (w3.ownsRow (w.heap.size + 1) 9 1 v3 (k + 1) ((T.take (k + 1)).map Value.string) ∧ LB w3 w.heap.size 25 D ∧ Below w.heap.size w w3) := by
          have q := H2.out (.cells #[.string x] 9)
          refine ⟨by rw [HTK.out, List.map_take]; exact hrow3, (hg3.block _ q.2.1.lt (fun e => ?_)).trans q.2.1, q.2.2.grown hg3 (Nat.le_of_lt q.2.1.lt) (fun g e => ?_)⟩
          · have := (World.ownsRow.lt q.1 _ e.symm).1
            omega
          · have := (World.ownsRow.lt q.1 _ e).1
            omega
        clear hrow3 hg3 H2
        go_wp2_with fail
        go_roundw
        case rel => exact ⟨k + 1, by omega, by simp, H3.out.1, H3.out.2.1, H3.out.2.2⟩
        case measure => simp [intOf]; omega
      · obtain rfl : k = p.ss.length := by omega
        have HJ : Hid (∀ w', Below wr.heap.size wr w' → Calls Tryz.prog 27 #[.slice a5 p.ss.length c5, .string ⟨#[44, 32]⟩] w' fun e w'' => e = .returned (.string (joinP T)) ∧ Below w'.heap.size w' w'') := fun w' hb => by
          have e := HW.out.1
          rw [← HTL.out, List.take_length] at e
          rw [← HTL.out]
          exact joinP_any (w.heap.size + 1) w' _ T (ownsRow_same e fun g e2 => hb.block g (World.ownsRow.lt e g e2).2) (by rw [HTL.out]; omega) HSZ.out
        obtain ⟨c0, -⟩ := HDC.out _ HW.out.2.1
        have hjz := HJZ.out
        generalize joinP T = J at *
        go_upto_region 10 with fail
        have z1 : ¬ 9223372036854775807 < p.nm.size + 2 := by omega
        have z2 : ¬ 9223372036854775807 < p.nm.size + 2 + J.size := by omega
        refine wp_region_held_drew (S := fun w' : World => w'.cell? ⟨w.heap.size, 0, none⟩ = some (.string p.nm)) (by kernel_rfl) c0 (fun hH => ?_)
        refine zqk 0 rfl hH ?_
        simp only [Act.put, List.setIfInBounds_toArray, List.set_cons_zero, List.set_cons_succ, List.getElem_toArray, List.getElem_cons_zero]
        refine zqk 1 rfl hH ?_
        simp only [Act.put, List.setIfInBounds_toArray, List.set_cons_zero, List.set_cons_succ, List.getElem_toArray, List.getElem_cons_zero, List.getElem_cons_succ]
        refine zqk 2 rfl hH ?_
        simp only [Act.put, List.setIfInBounds_toArray, List.set_cons_zero, List.set_cons_succ, List.getElem_toArray, List.getElem_cons_zero, List.getElem_cons_succ]
        refine zqk 3 rfl hH ?_
        simp only [Act.put, List.setIfInBounds_toArray, List.set_cons_zero, List.set_cons_succ, List.getElem_toArray, List.getElem_cons_zero, List.getElem_cons_succ]
        refine zqr 4 rfl (fun K hK => ?_)
        go_simp
        refine (HJ.out _ (Below.drew (Below.refl _ _))).mono ?_
        rintro e w9 ⟨rfl, b9⟩
        have H9 : Hid (LB w9 w.heap.size 25 D ∧ Below w.heap.size w w9) := ⟨LB.kept (w := wr.drew) HW.out.2.1 b9, andThen HW.out.2.2.drew b9⟩
        clear b9 HJ HW
        refine hK.out _ _ (HDC.out _ H9.out.1).1 (fun hH2 => ?_)
        clear hK K hH
        refine zqk 5 rfl hH2 ?_
        simp only [Act.put, List.setIfInBounds_toArray, List.set_cons_zero, List.set_cons_succ, List.getElem_toArray, List.getElem_cons_zero, List.getElem_cons_succ]
        refine zqk 6 rfl hH2 ?_
        simp only [Act.put, List.setIfInBounds_toArray, List.set_cons_zero, List.set_cons_succ, List.getElem_toArray, List.getElem_cons_zero, List.getElem_cons_succ]
        refine zqk 7 rfl hH2 ?_
        simp only [Act.put, List.setIfInBounds_toArray, List.set_cons_zero, List.set_cons_succ, List.getElem_toArray, List.getElem_cons_zero, List.getElem_cons_succ]
        refine wpAnyH_done (by kernel_rfl) ?_ _
        go_wp2_with fail
        go_ret2
        exact ⟨by rw [HR2.out]; rfl, H9.out.2⟩
  · have HR2 : Hid (R = (⟨#[]⟩, (fErr p).1)) := by show R = _; rw [← HR.out, if_neg h0]
    have hne : ((fErr p).1 != 0) = true := by simp [h0]
    rw [hpl] at HCK ⊢
    clear HR h0 hpl h hT hN hF
    generalize plvl p v = D at *
    generalize (fErr p).1 = E at *
    go_enter Tryz.func9, Tryz.ntmps9
    go_wp2_with (first | (refine wpList_load_mid rfl 25 _ rfl w.heap.size 0 rfl D _ HX.out.1.range Tryz.underlying25 rfl HLI.out ?_) | fail)
    refine (HCK.out _ HX.out.2).mono ?_
    rintro e w1 ⟨rfl, b1⟩
    have H1 : Hid (Below w.heap.size w w1) := andThen HX.out.2 b1
    clear b1 HX HCK
    go_wp2_with fail
    go_ret2
    exact ⟨by rw [HR2.out]; rfl, H1.out⟩
end Go.Proofs.YtcnnpohnfoaceaaGreatDoor
