import Derived.Deep.RegionHeld3
import Derived.Deep.CutRange
import Derived.Test.YtcnnpohnfoaceaaGreatDoorQB1
import Derived.Test.YtcnnpohnfoaceaaGreatDoorQT1
/-
  Package plan: a plan by value; within, aheadOfPivot, isPivot, behindPivot, named, uses.
-/
namespace Go.Proofs.YtcnnpohnfoaceaaGreatDoor
open Go Go.RowKit
open Wb

/-- a step -/
structure Stp where
  d : ByteArray
  u : ByteArray
  t : Int
def stl (s : Stp) : List Value := [.string s.d, .string s.u, .int .i64 s.t]
/-- a slice of steps -/
def StsAt (w : World) (v : Value) (ss : List Stp) : Prop := ∃ ao, ∃ cap : Nat, v = .slice ao ss.length cap ∧ ss.length ≤ cap ∧ cap ≤ maxLen ∧ ∀ k s, ss[k]? = some s → ∃ b off, ao = some ⟨b, off, none⟩ ∧ w.rangeAt b (off + k * 3) (stl s)
theorem StsAt.kept {w w' : World} {v : Value} {ss : List Stp} (h : StsAt w v ss) (hb : Below w.heap.size w w') : StsAt w' v ss := by
  obtain ⟨ao, cap, rfl, h1, h2, h3⟩ := h
  refine ⟨ao, cap, rfl, h1, h2, fun k s hs => ?_⟩
  obtain ⟨b, off, e, hr⟩ := h3 k s hs
  exact ⟨b, off, e, range_kept hr hb⟩
/-- a plan -/
structure Pln where
  nm : ByteArray
  piv : Int
  ss : List Stp
def plvl (p : Pln) (v : Value) : List Value := [.string p.nm, .int .i64 p.piv, v]
def plv (p : Pln) (v : Value) : Value := .agg #[.string p.nm, .int .i64 p.piv, v]
theorem infoPlan : (Tryz.prog.info? 25).map (·.size) = some 3 := by kernel_rfl
theorem infoStep : (Tryz.prog.info? 60).map (·.size) = some 3 := by kernel_rfl
theorem plv_letter (p : Pln) (v : Value) : ∃ D : List Value, plv p v = .agg D.toArray ∧ (Tryz.prog.info? 25).map (·.size) = some D.length ∧ D = plvl p v := ⟨_, rfl, infoPlan, rfl⟩
def Pln.ahead (p : Pln) (i : Int) : Bool := p.piv == 0 || decide (i + 1 < p.piv)
def Pln.isPiv (p : Pln) (i : Int) : Bool := i + 1 == p.piv
def Pln.behind (p : Pln) (i : Int) : Bool := !p.ahead i && !p.isPiv i
def winP (n lo hi : Int) : Bool := decide (lo ≤ n) && decide (n ≤ hi)
def nmd (s : ByteArray) : Bool := (Text.Tx.nmA s).1 == 0
def usesP (ss : List Stp) (n : ByteArray) : Bool := ss.any fun s => s.d.toList == n.toList || s.u.toList == n.toList
theorem pwithin_any (n lo hi : Int) (w : World) : Calls Tryz.prog 37 #[.int .i64 n, .int .i64 lo, .int .i64 hi] w fun e w' => e = .returned (.bool (winP n lo hi)) ∧ Below w.heap.size w w' := by
  have HB : Hid (Below w.heap.size w w) := Below.refl _ _
  by_cases h1 : lo ≤ n
  · by_cases h2 : n ≤ hi
    · have HR : Hid (winP n lo hi = true) := by show _ = _; simp [winP, h1, h2]
      go_enter Tryz.func37, Tryz.ntmps37
      go_wp2
      go_ret
      exact ⟨by rw [HR.out]; rfl, HB.out⟩
    · have HR : Hid (winP n lo hi = false) := by show _ = _; simp [winP, h2]
      go_enter Tryz.func37, Tryz.ntmps37
      go_wp2
      go_ret
      exact ⟨by rw [HR.out]; rfl, HB.out⟩
  · have HR : Hid (winP n lo hi = false) := by show _ = _; simp [winP, h1]
    go_enter Tryz.func37, Tryz.ntmps37
    go_wp2
    go_ret
    exact ⟨by rw [HR.out]; rfl, HB.out⟩
theorem pahead_any (p : Pln) (v : Value) (i : Int) (w : World) (h1 : -1 ≤ i) (h2 : i ≤ 1000000) : Calls Tryz.prog 48 #[plv p v, .int .i64 i] w fun e w' => e = .returned (.bool (p.ahead i)) ∧ Below w.heap.size w w' := by
  have HB : Hid (∀ o, Below w.heap.size w (w.alloc o)) := fun o => up0 w o
  unfold plv
  by_cases h3 : p.piv = 0
  · have HR : Hid (p.ahead i = true) := by show _ = _; simp [Pln.ahead, h3]
    have e1 : (p.piv == 0) = true := by rw [h3]; rfl
    clear h3
    go_enter Tryz.func48, Tryz.ntmps48
    go_wp2
    go_ret
    exact ⟨by rw [HR.out]; rfl, HB.out _⟩
  · have HR : Hid (p.ahead i = decide (i + 1 < p.piv)) := by show _ = _; simp [Pln.ahead, h3]
    have e1 : (p.piv == 0) = false := by rw [beq_eq_false_iff_ne]; exact h3
    clear h3
    go_enter Tryz.func48, Tryz.ntmps48
    go_wp2
    go_ret
    exact ⟨by rw [HR.out]; rfl, HB.out _⟩
theorem pispiv_any (p : Pln) (v : Value) (i : Int) (w : World) (h1 : -1 ≤ i) (h2 : i ≤ 1000000) : Calls Tryz.prog 49 #[plv p v, .int .i64 i] w fun e w' => e = .returned (.bool (p.isPiv i)) ∧ Below w.heap.size w w' := by
  have HB : Hid (∀ o, Below w.heap.size w (w.alloc o)) := fun o => up0 w o
  unfold plv
  have HR : Hid (p.isPiv i = (i + 1 == p.piv)) := rfl
  go_enter Tryz.func49, Tryz.ntmps49
  go_wp2
  go_ret
  exact ⟨by rw [HR.out]; rfl, HB.out _⟩
theorem pbehind_any (p : Pln) (v : Value) (i : Int) (w : World) (h1 : -1 ≤ i) (h2 : i ≤ 1000000) : Calls Tryz.prog 63 #[plv p v, .int .i64 i] w fun e w' => e = .returned (.bool (p.behind i)) ∧ Below w.heap.size w w' := by
  have HA0 : ∀ w', Calls Tryz.prog 48 #[plv p v, .int .i64 i] w' fun e w'' => e = .returned (.bool (p.ahead i)) ∧ Below w'.heap.size w' w'' := fun w' => pahead_any p v i w' h1 h2
  have HI0 : ∀ w', Calls Tryz.prog 49 #[plv p v, .int .i64 i] w' fun e w'' => e = .returned (.bool (p.isPiv i)) ∧ Below w'.heap.size w' w'' := fun w' => pispiv_any p v i w' h1 h2
  obtain ⟨D, hD, hL, -⟩ := plv_letter p v
  rw [hD] at HA0 HI0 ⊢
  have HL : Hid _ := hL
  have HX : Hid (LB (w.alloc (.cells D.toArray 25)) w.heap.size 25 D ∧ Below w.heap.size w (w.alloc (.cells D.toArray 25))) := ⟨lb_new w D _, up0 _ _⟩
  have HR : Hid (p.behind i = (!p.ahead i && !p.isPiv i)) := rfl
  have HI : Hid _ := HI0
  generalize p.behind i = R at *
  cases ha : p.ahead i with
  | true =>
    rw [ha] at HA0 HR
    have HA : Hid _ := HA0
    clear hD hL HA0 HI0 ha
    go_enter Tryz.func63, Tryz.ntmps63
    go_wp2_with (first | (refine wpList_load_mid rfl 25 _ rfl w.heap.size 0 rfl D _ HX.out.1.range Tryz.underlying25 rfl HL.out ?_) | fail)
    refine (HA.out _).mono ?_
    rintro e w1 ⟨rfl, b1⟩
    have H1 : Hid (Below w.heap.size w w1) := andThen HX.out.2 b1
    clear b1 HX
    go_wp2_with fail
    go_ret
    exact ⟨by rw [HR.out]; rfl, H1.out⟩
  | false =>
    rw [ha] at HA0 HR
    have HA : Hid _ := HA0
    clear hD hL HA0 HI0 ha
    go_enter Tryz.func63, Tryz.ntmps63
    go_wp2_with (first | (refine wpList_load_mid rfl 25 _ rfl w.heap.size 0 rfl D _ HX.out.1.range Tryz.underlying25 rfl HL.out ?_) | fail)
    refine (HA.out _).mono ?_
    rintro e w1 ⟨rfl, b1⟩
    have H1 : Hid (LB w1 w.heap.size 25 D ∧ Below w.heap.size w w1) := ⟨HX.out.1.kept b1, andThen HX.out.2 b1⟩
    clear b1 HX
    go_wp2_with (first | (refine wpList_load_midG rfl 25 _ rfl w.heap.size 0 rfl D _ H1.out.1.range Tryz.underlying25 rfl HL.out ?_) | fail)
    refine (HI.out _).mono ?_
    rintro e w2 ⟨rfl, b2⟩
    have H2 : Hid (Below w.heap.size w w2) := andThen H1.out.2 b2
    clear b2 H1
    go_wp2_with fail
    go_ret
    exact ⟨by rw [HR.out]; rfl, H2.out⟩
theorem pnamed_any (s : ByteArray) (w : World) (hs : s.size ≤ 140737488355000) (hT : Text.TabP 0 .i32 Text.Tx.lets w) : Calls Tryz.prog 36 #[.string s] w fun e w' => e = .returned (.bool (nmd s)) ∧ Below w.heap.size w w' := by
  have HN : Hid (Calls Tryz.prog 62 #[.string s] w fun e w' => e = .returned (.tuple #[.int .i64 (Text.Tx.nmA s).1, .int .i64 (Text.Tx.nmA s).2]) ∧ Below w.heap.size w w') := Text.name_any s w hs hT
  have HR : Hid (nmd s = ((Text.Tx.nmA s).1 == 0)) := rfl
  generalize Text.Tx.nmA s = R at *
  obtain ⟨r1, r2⟩ := R
  simp only at HN HR
  clear hT hs
  go_enter Tryz.func36, Tryz.ntmps36
  go_wp2_with fail
  refine HN.out.mono ?_
  rintro e w1 ⟨rfl, b1⟩
  have H1 : Hid (Below w.heap.size w w1) := b1
  clear b1 HN
  go_wp2_with fail
  go_ret
  exact ⟨by rw [HR.out]; rfl, H1.out⟩
theorem puses1_any (s : Stp) (n : ByteArray) (g : Nat) (w : World) (hg : w.cell? ⟨g, 0, none⟩ = some (.string n)) : Calls Tryz.prog 85 #[.agg #[.string s.d, .string s.u, .int .i64 s.t], .pointer (some ⟨g, 0, none⟩)] w fun e w' => e = .returned (.bool (s.d.toList == n.toList || s.u.toList == n.toList)) ∧ Below w.heap.size w w' := by
  have HB : Hid (∀ o, Below w.heap.size w (w.alloc o)) := fun o => up0 w o
  have hg2 : ∀ o, (w.alloc o).cell? ⟨g, 0, none⟩ = some (.string n) := fun o => ((up0 w o).cell (p := ⟨g, 0, none⟩) (World.block_lt_of_cell? _ _ hg)).trans hg
  clear hg
  cases h1 : (s.d.toList == n.toList) with
  | true =>
    go_enter Tryz.func85, Tryz.ntmps85
    go_wp2
    go_ret
    exact ⟨rfl, HB.out _⟩
  | false =>
    go_enter Tryz.func85, Tryz.ntmps85
    go_wp2
    go_ret
    exact ⟨rfl, HB.out _⟩
end Go.Proofs.YtcnnpohnfoaceaaGreatDoor

/-
  Package plan: uses.
-/
namespace Go.Proofs.YtcnnpohnfoaceaaGreatDoor
open Go Go.RowKit
open Wb

/-- the first step that has the name -/
theorem pindexf_any (ss : List Stp) (n : ByteArray) (g : Nat) (v : Value) (w : World) (h : StsAt w v ss) (hg : w.cell? ⟨g, 0, none⟩ = some (.string n)) :
    Calls Tryz.prog 100 #[v, .func (.func 85) #[] #[.pointer (some ⟨g, 0, none⟩)]] w fun e w' => ∃ r : Int, e = .returned (.int .i64 r) ∧ decide (0 ≤ r) = usesP ss n ∧ Below w.heap.size w w' := by
  have HU : Hid (∀ (s : Stp) w', Below w.heap.size w w' → Calls Tryz.prog 85 #[.agg (stl s).toArray, .pointer (some ⟨g, 0, none⟩)] w' fun e w'' => e = .returned (.bool (s.d.toList == n.toList || s.u.toList == n.toList)) ∧ Below w'.heap.size w' w'') := fun s w' hb => puses1_any s n g w' ((hb.cell (p := ⟨g, 0, none⟩) (World.block_lt_of_cell? _ _ hg)).trans hg)
  have HS : Hid (∀ w', Below w.heap.size w w' → StsAt w' v ss) := fun w' hb => h.kept hb
  have HB : Hid (Below w.heap.size w w) := Below.refl _ _
  obtain ⟨ao, cap, rfl, hl, hm, -⟩ := h
  unfold maxLen at hm
  clear hg
  go_enter Tryz.func100, Tryz.ntmps100
  go_wp2
  go_loopw [8] (fun i wr => ∃ k : Nat, k ≤ ss.length ∧ i = .int .i64 (k : Int) ∧ usesP (ss.take k) n = false ∧ Below w.heap.size w wr) (fun i _ => ss.length - (intOf i).toNat)
  case atStart => exact ⟨0, Nat.zero_le _, rfl, rfl, HB.out⟩
  case round =>
    obtain ⟨k, hk, rfl, hno, hbl⟩ := hrel
    have HNO : Hid (usesP (ss.take k) n = false ∧ Below w.heap.size w wr) := ⟨hno, hbl⟩
    clear hno hbl
    by_cases hlt : k < ss.length
    · obtain ⟨ao', cap', e, -, -, hc⟩ := HS.out wr HNO.out.2
      simp only [Value.slice.injEq, true_and] at e
      obtain ⟨rfl, rfl⟩ := e
      obtain ⟨b, off, rfl, hr⟩ := hc k ss[k] (List.getElem?_eq_getElem hlt)
      have HR : Hid (wr.rangeAt b (off + k * 3) (stl ss[k])) := hr
      have HI : Hid ((Tryz.prog.info? 60).map (·.size) = some (stl ss[k]).length) := infoStep
      have HUS : Hid (Calls Tryz.prog 85 #[.agg (stl ss[k]).toArray, .pointer (some ⟨g, 0, none⟩)] wr fun e w'' => e = .returned (.bool (ss[k].d.toList == n.toList || ss[k].u.toList == n.toList)) ∧ Below wr.heap.size wr w'') := HU.out ss[k] wr HNO.out.2
      have HTK : Hid (ss.take (k + 1) = ss.take k ++ [ss[k]]) := by show _ = _; rw [List.take_add_one, List.getElem?_eq_getElem hlt]; rfl
      have HAN : Hid (usesP ss n = (usesP (ss.take (k + 1)) n || usesP (ss.drop (k + 1)) n)) := by
        show _ = _
        unfold usesP
        rw [← List.any_append, List.take_append_drop]
      clear hc hr
      generalize stl ss[k] = D at *
      generalize hq : (ss[k].d.toList == n.toList || ss[k].u.toList == n.toList) = q at *
      have HQ : Hid ((ss[k].d.toList == n.toList || ss[k].u.toList == n.toList) = q) := hq
      clear hq
      go_wp2_with (first | (refine wpList_load_mid rfl 60 _ rfl b (off + k * 3) rfl D _ HR.out Tryz.underlying60 rfl HI.out ?_) | fail)
      refine HUS.out.mono ?_
      rintro e w1 ⟨rfl, b1⟩
      have H1 : Hid (Below w.heap.size w w1) := andThen HNO.out.2 b1
      have HK : Hid (usesP (ss.take (k + 1)) n = q) := by
        show _ = _
        rw [HTK.out]
        unfold usesP
        rw [List.any_append, show (ss.take k).any (fun s => s.d.toList == n.toList || s.u.toList == n.toList) = false from HNO.out.1]
        simpa using HQ.out
      clear b1
      cases q with
      | true =>
        go_wp2
        go_ret
        exact ⟨_, rfl, by rw [HAN.out, HK.out, decide_eq_true (by omega)]; rfl, H1.out⟩
      | false =>
        go_wp2
        go_roundw
        case rel => exact ⟨k + 1, by omega, by simp, HK.out, H1.out⟩
        case measure => simp [intOf]; omega
    · obtain rfl : k = ss.length := by omega
      go_wp2
      go_ret
      exact ⟨_, rfl, by have e := HNO.out.1; rw [List.take_length] at e; rw [e]; rfl, HNO.out.2⟩
theorem pcontf_any (ss : List Stp) (n : ByteArray) (g : Nat) (v : Value) (w : World) (h : StsAt w v ss) (hg : w.cell? ⟨g, 0, none⟩ = some (.string n)) :
    Calls Tryz.prog 84 #[v, .func (.func 85) #[] #[.pointer (some ⟨g, 0, none⟩)]] w fun e w' => e = .returned (.bool (usesP ss n)) ∧ Below w.heap.size w w' := by
  have HI : Hid (Calls Tryz.prog 100 #[v, .func (.func 85) #[] #[.pointer (some ⟨g, 0, none⟩)]] w fun e w' => ∃ r : Int, e = .returned (.int .i64 r) ∧ decide (0 ≤ r) = usesP ss n ∧ Below w.heap.size w w') := pindexf_any ss n g v w h hg
  obtain ⟨ao, cap, rfl, -⟩ := h
  clear hg
  go_enter Tryz.func84, Tryz.ntmps84
  go_wp2_with fail
  refine HI.out.mono ?_
  rintro e w1 ⟨r, rfl, hr, b1⟩
  have HR : Hid (decide (0 ≤ r) = usesP ss n ∧ Below w.heap.size w w1) := ⟨hr, b1⟩
  clear hr b1 HI
  go_wp2
  go_ret
  exact ⟨by rw [← HR.out.1]; rfl, HR.out.2⟩
theorem puses_any (ss : List Stp) (n : ByteArray) (v : Value) (w : World) (h : StsAt w v ss) : Calls Tryz.prog 64 #[v, .string n] w fun e w' => e = .returned (.bool (usesP ss n)) ∧ Below w.heap.size w w' := by
  have HI : Hid (∀ o, o = Obj.cells #[.string n] 9 → Calls Tryz.prog 84 #[v, .func (.func 85) #[] #[.pointer (some ⟨w.heap.size, 0, none⟩)]] (w.alloc o) fun e w' => e = .returned (.bool (usesP ss n)) ∧ Below w.heap.size w w') := fun o ho => (pcontf_any ss n w.heap.size v (w.alloc o) (h.kept (up0 w o)) (by subst ho; rw [World.cell?_alloc_new]; rfl)).mono fun e w' ⟨e1, e2⟩ => ⟨e1, andThen (up0 w o) e2⟩
  obtain ⟨ao, cap, rfl, -⟩ := h
  have hmf : ∀ (fn : Fn) (first cap : Array Value) (w : World), (Instr.makeFunc fn first cap).run Tryz.prog w = .ok (.func fn first cap) w := fun _ _ _ _ => rfl
  go_enter Tryz.func64, Tryz.ntmps64
  go_wp2_with fail
  refine (HI.out _ rfl).mono ?_
  rintro e w1 ⟨rfl, b1⟩
  have H1 : Hid (Below w.heap.size w w1) := b1
  clear b1 HI
  go_wp2_with fail
  go_ret
  exact ⟨rfl, H1.out⟩
end Go.Proofs.YtcnnpohnfoaceaaGreatDoor

/-
  Package plan: stepFault.
-/
namespace Go.Proofs.YtcnnpohnfoaceaaGreatDoor
open Go Go.RowKit
open Wb

def Stp.und (s : Stp) : Bool := !s.u.toList.isEmpty
/-- the error of a step -/
def stepErr (p : Pln) (i : Nat) (s : Stp) : Int :=
  if nmd s.d = false then 35
  else if (s.und && !nmd s.u) = true then 35
  else if (p.ahead i != s.und) = true then 152
  else if winP s.t (if p.behind i then 0 else 1) (if p.behind i then 0 else 1000) = false then 34
  else if usesP (p.ss.take i) s.d = true then 151
  else if (s.und && (s.u.toList == s.d.toList || usesP (p.ss.take i) s.u)) = true then 151 else 0
theorem StsAt.take {w : World} {b off cap : Nat} {ss : List Stp} (h : StsAt w (.slice (some ⟨b, off, none⟩) ss.length cap) ss) (i : Nat) (hi : i ≤ ss.length) : StsAt w (.slice (some ⟨b, off, none⟩) i cap) (ss.take i) := by
  obtain ⟨ao, cap', e, h1, h2, h3⟩ := h
  simp only [Value.slice.injEq, true_and] at e
  obtain ⟨rfl, rfl⟩ := e
  refine ⟨_, _, by rw [List.length_take, Nat.min_eq_left hi], by rw [List.length_take]; omega, h2, fun k s hs => ?_⟩
  rw [List.getElem?_take] at hs
  split at hs
  · exact h3 k s hs
  · cases hs
set_option maxRecDepth 100000 in
set_option maxHeartbeats 8000000 in
theorem pstepf_any (p : Pln) (v : Value) (i : Nat) (s : Stp) (w : World) (hs : p.ss[i]? = some s) (h : StsAt w v p.ss) (hT : Text.TabP 0 .i32 Text.Tx.lets w) (hd : s.d.size ≤ 140737488355000) (hu : s.u.size ≤ 140737488355000) (hi : i < 1000) :
    Calls Tryz.prog 38 #[plv p v, .int .i64 (i : Int)] w fun e w' => e = .returned (.int .i64 (stepErr p i s)) ∧ Below w.heap.size w w' := by
  have hlt : i < p.ss.length := (List.getElem?_eq_some_iff.1 hs).1
  obtain ⟨ao, cap, rfl, h1, h2, h3⟩ := h
  obtain ⟨b, off, rfl, hr⟩ := h3 i s hs
  have HST : Hid (∀ w', Below w.heap.size w w' → StsAt w' (.slice (some ⟨b, off, none⟩) i cap) (p.ss.take i)) := fun w' hb => (StsAt.take ⟨_, _, rfl, h1, h2, h3⟩ i (by omega)).kept hb
  have HUD : Hid (∀ (n : ByteArray) w', Below w.heap.size w w' → Calls Tryz.prog 64 #[.slice (some ⟨b, off, none⟩) i cap, .string n] w' fun e w'' => e = .returned (.bool (usesP (p.ss.take i) n)) ∧ Below w'.heap.size w' w'') := fun n w' hb => puses_any _ n _ w' (HST.out w' hb)
  have HNM : Hid (∀ (n : ByteArray) w', n.size ≤ 140737488355000 → Below w.heap.size w w' → Calls Tryz.prog 36 #[.string n] w' fun e w'' => e = .returned (.bool (nmd n)) ∧ Below w'.heap.size w' w'') := fun n w' hn hb => pnamed_any n w' hn (hT.kept hb)
  have HBH : Hid (∀ w', Calls Tryz.prog 63 #[plv p (.slice (some ⟨b, off, none⟩) p.ss.length cap), .int .i64 (i : Int)] w' fun e w'' => e = .returned (.bool (p.behind i)) ∧ Below w'.heap.size w' w'') := fun w' => pbehind_any p _ i w' (by omega) (by omega)
  have HAH : Hid (∀ w', Calls Tryz.prog 48 #[plv p (.slice (some ⟨b, off, none⟩) p.ss.length cap), .int .i64 (i : Int)] w' fun e w'' => e = .returned (.bool (p.ahead i)) ∧ Below w'.heap.size w' w'') := fun w' => pahead_any p _ i w' (by omega) (by omega)
  have HWI : Hid (∀ (n lo hi : Int) w', Calls Tryz.prog 37 #[.int .i64 n, .int .i64 lo, .int .i64 hi] w' fun e w'' => e = .returned (.bool (winP n lo hi)) ∧ Below w'.heap.size w' w'') := fun n lo hi w' => pwithin_any n lo hi w'
  have HSZ : Hid (s.d.size ≤ 140737488355000 ∧ s.u.size ≤ 140737488355000) := ⟨hd, hu⟩
  unfold maxLen at h2
  have HC0 : ∀ o, (w.alloc o).cell? ⟨b, off + i * 3, none⟩ = some (.string s.d) ∧ (w.alloc o).cell? ⟨b, off + i * 3 + 1, none⟩ = some (.string s.u) ∧ (w.alloc o).cell? ⟨b, off + i * 3 + 2, none⟩ = some (.int .i64 s.t) := fun o => by
    have q := range_kept hr (up0 w o)
    exact ⟨q 0 _ rfl, q 1 _ rfl, q 2 _ rfl⟩
  have hic : (0 : Int) ≤ (i : Int) ∧ (i : Int) ≤ (cap : Int) := by omega
  obtain ⟨hi0, hi1⟩ := hic
  have HE : Hid (stepErr p i s = if nmd s.d = false then 35 else if (s.und && !nmd s.u) = true then 35 else if (p.ahead i != s.und) = true then 152 else if winP s.t (if p.behind i then 0 else 1) (if p.behind i then 0 else 1000) = false then 34 else if usesP (p.ss.take i) s.d = true then 151 else if (s.und && (s.u.toList == s.d.toList || usesP (p.ss.take i) s.u)) = true then 151 else 0) := rfl
  generalize stepErr p i s = R at *
  have HN1 : Hid (∀ w', Below w.heap.size w w' → Calls Tryz.prog 36 #[.string s.d] w' fun e w'' => e = .returned (.bool (nmd s.d)) ∧ Below w'.heap.size w' w'') := fun w' hb => HNM.out s.d w' hd hb
  have HN2 : Hid (∀ w', Below w.heap.size w w' → Calls Tryz.prog 36 #[.string s.u] w' fun e w'' => e = .returned (.bool (nmd s.u)) ∧ Below w'.heap.size w' w'') := fun w' hb => HNM.out s.u w' hu hb
  have HU1 : Hid (∀ w', Below w.heap.size w w' → Calls Tryz.prog 64 #[.slice (some ⟨b, off, none⟩) i cap, .string s.d] w' fun e w'' => e = .returned (.bool (usesP (p.ss.take i) s.d)) ∧ Below w'.heap.size w' w'') := HUD.out s.d
  have HU2 : Hid (∀ w', Below w.heap.size w w' → Calls Tryz.prog 64 #[.slice (some ⟨b, off, none⟩) i cap, .string s.u] w' fun e w'' => e = .returned (.bool (usesP (p.ss.take i) s.u)) ∧ Below w'.heap.size w' w'') := HUD.out s.u
  have HUN : s.u.toList.isEmpty = !s.und := by unfold Stp.und; simp
  generalize nmd s.d = n1 at *
  generalize nmd s.u = n2 at *
  generalize s.und = un at *
  generalize p.ahead i = ah at *
  generalize p.behind i = bb at *
  generalize usesP (p.ss.take i) s.d = u1 at *
  generalize usesP (p.ss.take i) s.u = u2 at *
  generalize hqq : (s.u.toList == s.d.toList) = qq at *
  have HWI0 : Hid (∀ w', Calls Tryz.prog 37 #[.int .i64 s.t, .int .i64 (if bb then 0 else 1), .int .i64 (if bb then 0 else 1000)] w' fun e w'' => e = .returned (.bool (winP s.t (if bb then 0 else 1) (if bb then 0 else 1000))) ∧ Below w'.heap.size w' w'') := fun w' => HWI.out _ _ _ w'
  generalize winP s.t (if bb then 0 else 1) (if bb then 0 else 1000) = wi at *
  unfold plv at *
  clear h3 hr hT hd hu hs HNM HUD HST HSZ HWI
  cases un
  case false =>
    have hue : s.u.toList.isEmpty = true := HUN
    clear HUN
    go_enter Tryz.func38, Tryz.ntmps38
    go_upto_region 1 with fail
    have hC := HC0 (.cells #[.string p.nm, .int .i64 p.piv, .slice (some ⟨b, off, none⟩) p.ss.length cap] 25)
    obtain ⟨x0, x1, x2⟩ := hC
    have hp2 : (w.alloc (.cells #[.string p.nm, .int .i64 p.piv, .slice (some ⟨b, off, none⟩) p.ss.length cap] 25)).cell? ⟨w.heap.size, 2, none⟩ = some (.slice (some ⟨b, off, none⟩) p.ss.length cap) := by rw [World.cell?_alloc_new]; rfl
    clear HC0
    go_region_held3 (fun w' => w'.cell? ⟨w.heap.size, 2, none⟩ = some (.slice (some ⟨b, off, none⟩) p.ss.length cap) ∧ w'.cell? ⟨b, off + i * 3, none⟩ = some (.string s.d) ∧ w'.cell? ⟨b, off + i * 3 + 1, none⟩ = some (.string s.u) ∧ w'.cell? ⟨b, off + i * 3 + 2, none⟩ = some (.int .i64 s.t)) (go_keep) (fail)
    clear x0 x1 x2 hp2
    have HF : Hid (∃ W, ((w.alloc (.cells #[.string p.nm, .int .i64 p.piv, .slice (some ⟨b, off, none⟩) p.ss.length cap] 25)).alloc (.cells #[.string s.d, .string s.u, .int .i64 s.t] 60)).drew = W ∧ LB W w.heap.size 25 [.string p.nm, .int .i64 p.piv, .slice (some ⟨b, off, none⟩) p.ss.length cap] ∧ LB W (w.heap.size + 1) 60 [.string s.d, .string s.u, .int .i64 s.t] ∧ Below w.heap.size w W) := by
      obtain ⟨q1, q2, q3⟩ := lb_new2 w [.string p.nm, .int .i64 p.piv, .slice (some ⟨b, off, none⟩) p.ss.length cap] [.string s.d, .string s.u, .int .i64 s.t] 25 60
      exact ⟨_, rfl, q1, q2, q3.drew⟩
    obtain ⟨W, eW, l1, l2, bW⟩ := HF.out
    rw [eW]
    have H0 : Hid (LB W w.heap.size 25 [.string p.nm, .int .i64 p.piv, .slice (some ⟨b, off, none⟩) p.ss.length cap] ∧ LB W (w.heap.size + 1) 60 [.string s.d, .string s.u, .int .i64 s.t] ∧ Below w.heap.size w W) := ⟨l1, l2, bW⟩
    clear eW HF l1 l2 bW
    go_wp2_with (first | (refine wpList_load_mid rfl 25 _ rfl w.heap.size 0 rfl _ _ H0.out.1.range Tryz.underlying25 rfl infoPlan ?_) | fail)
    refine (HBH.out _).mono ?_
    rintro e w1 ⟨rfl, b1⟩
    have H1 : Hid (LB w1 w.heap.size 25 [.string p.nm, .int .i64 p.piv, .slice (some ⟨b, off, none⟩) p.ss.length cap] ∧ LB w1 (w.heap.size + 1) 60 [.string s.d, .string s.u, .int .i64 s.t] ∧ Below w.heap.size w w1) := ⟨H0.out.1.kept b1, H0.out.2.1.kept b1, andThen H0.out.2.2 b1⟩
    clear b1 H0 HBH
    cases bb
    all_goals
      have d0 := H1.out.2.1.cell 0 _ rfl
      have d1 := H1.out.2.1.cell 1 _ rfl
      have d2 := H1.out.2.1.cell 2 _ rfl
      go_wp2_with fail
      refine (HN1.out _ H1.out.2.2).mono ?_
      rintro e w2 ⟨rfl, b2⟩
      have H2 : Hid (LB w2 w.heap.size 25 [.string p.nm, .int .i64 p.piv, .slice (some ⟨b, off, none⟩) p.ss.length cap] ∧ LB w2 (w.heap.size + 1) 60 [.string s.d, .string s.u, .int .i64 s.t] ∧ Below w.heap.size w w2) := ⟨H1.out.1.kept b2, H1.out.2.1.kept b2, andThen H1.out.2.2 b2⟩
      clear b2 H1 HN1 d0 d1 d2
      have d0 := H2.out.2.1.cell 0 _ rfl
      have d1 := H2.out.2.1.cell 1 _ rfl
      have d2 := H2.out.2.1.cell 2 _ rfl
      cases n1
      case false => go_wp2; go_ret; exact ⟨by rw [HE.out]; rfl, H2.out.2.2⟩
      go_upto_region 9 with fail
      have e0 := H2.out.1.cell 0 _ rfl
      have e1 := H2.out.1.cell 1 _ rfl
      have e2 := H2.out.1.cell 2 _ rfl
      go_region_held3 (fun w' => w'.cell? ⟨w.heap.size, 0, none⟩ = some (.string p.nm) ∧ w'.cell? ⟨w.heap.size, 1, none⟩ = some (.int .i64 p.piv) ∧ w'.cell? ⟨w.heap.size, 2, none⟩ = some (.slice (some ⟨b, off, none⟩) p.ss.length cap) ∧ w'.cell? ⟨w.heap.size + 1, 1, none⟩ = some (.string s.u)) (first | exact ⟨H9.out.1.cell 0 _ rfl, H9.out.1.cell 1 _ rfl, H9.out.1.cell 2 _ rfl, H9.out.2.1.cell 1 _ rfl⟩ | exact ⟨e0, e1, e2, d1⟩ | go_keep) ((refine (HAH.out _).mono ?_; rintro e w9 ⟨rfl, b9⟩; have H9 : Hid (LB w9 w.heap.size 25 [.string p.nm, .int .i64 p.piv, .slice (some ⟨b, off, none⟩) p.ss.length cap] ∧ LB w9 (w.heap.size + 1) 60 [.string s.d, .string s.u, .int .i64 s.t] ∧ Below w.heap.size w w9) := ⟨LB.kept (w := w2.drew) H2.out.1 b9, LB.kept (w := w2.drew) H2.out.2.1 b9, andThen H2.out.2.2.drew b9⟩))
      clear e0 e1 e2 d0 d1 d2 b9 H2 HAH
      rename_i hkeep
      clear hkeep
      have d0 := H9.out.2.1.cell 0 _ rfl
      have d1 := H9.out.2.1.cell 1 _ rfl
      have d2 := H9.out.2.1.cell 2 _ rfl
      cases ah
      case true => go_wp2; go_ret; exact ⟨by rw [HE.out]; rfl, H9.out.2.2⟩
      go_wp2_with fail
      refine (HWI0.out _).mono ?_
      rintro e w10 ⟨rfl, b10⟩
      have H10 : Hid (LB w10 w.heap.size 25 [.string p.nm, .int .i64 p.piv, .slice (some ⟨b, off, none⟩) p.ss.length cap] ∧ LB w10 (w.heap.size + 1) 60 [.string s.d, .string s.u, .int .i64 s.t] ∧ Below w.heap.size w w10) := ⟨H9.out.1.kept b10, H9.out.2.1.kept b10, andThen H9.out.2.2 b10⟩
      clear b10 H9 HWI0 d0 d1 d2
      have d0 := H10.out.2.1.cell 0 _ rfl
      have d1 := H10.out.2.1.cell 1 _ rfl
      have d2 := H10.out.2.1.cell 2 _ rfl
      cases wi
      case false => go_wp2; go_ret; exact ⟨by rw [HE.out]; rfl, H10.out.2.2⟩
      go_wp2_with fail
      refine (HU1.out _ H10.out.2.2).mono ?_
      rintro e w11 ⟨rfl, b11⟩
      have H11 : Hid (LB w11 w.heap.size 25 [.string p.nm, .int .i64 p.piv, .slice (some ⟨b, off, none⟩) p.ss.length cap] ∧ LB w11 (w.heap.size + 1) 60 [.string s.d, .string s.u, .int .i64 s.t] ∧ Below w.heap.size w w11) := ⟨H10.out.1.kept b11, H10.out.2.1.kept b11, andThen H10.out.2.2 b11⟩
      clear b11 H10 HU1 d0 d1 d2
      have d0 := H11.out.2.1.cell 0 _ rfl
      have d1 := H11.out.2.1.cell 1 _ rfl
      have d2 := H11.out.2.1.cell 2 _ rfl
      cases u1
      case true => go_wp2; go_ret; exact ⟨by rw [HE.out]; rfl, H11.out.2.2⟩
      go_wp2
      go_ret
      exact ⟨by rw [HE.out]; rfl, H11.out.2.2⟩
  case true =>
    have hue : s.u.toList.isEmpty = false := HUN
    clear HUN
    go_enter Tryz.func38, Tryz.ntmps38
    go_upto_region 1 with fail
    have hC := HC0 (.cells #[.string p.nm, .int .i64 p.piv, .slice (some ⟨b, off, none⟩) p.ss.length cap] 25)
    obtain ⟨x0, x1, x2⟩ := hC
    have hp2 : (w.alloc (.cells #[.string p.nm, .int .i64 p.piv, .slice (some ⟨b, off, none⟩) p.ss.length cap] 25)).cell? ⟨w.heap.size, 2, none⟩ = some (.slice (some ⟨b, off, none⟩) p.ss.length cap) := by rw [World.cell?_alloc_new]; rfl
    clear HC0
    go_region_held3 (fun w' => w'.cell? ⟨w.heap.size, 2, none⟩ = some (.slice (some ⟨b, off, none⟩) p.ss.length cap) ∧ w'.cell? ⟨b, off + i * 3, none⟩ = some (.string s.d) ∧ w'.cell? ⟨b, off + i * 3 + 1, none⟩ = some (.string s.u) ∧ w'.cell? ⟨b, off + i * 3 + 2, none⟩ = some (.int .i64 s.t)) (go_keep) (fail)
    clear x0 x1 x2 hp2
    have HF : Hid (∃ W, ((w.alloc (.cells #[.string p.nm, .int .i64 p.piv, .slice (some ⟨b, off, none⟩) p.ss.length cap] 25)).alloc (.cells #[.string s.d, .string s.u, .int .i64 s.t] 60)).drew = W ∧ LB W w.heap.size 25 [.string p.nm, .int .i64 p.piv, .slice (some ⟨b, off, none⟩) p.ss.length cap] ∧ LB W (w.heap.size + 1) 60 [.string s.d, .string s.u, .int .i64 s.t] ∧ Below w.heap.size w W) := by
      obtain ⟨q1, q2, q3⟩ := lb_new2 w [.string p.nm, .int .i64 p.piv, .slice (some ⟨b, off, none⟩) p.ss.length cap] [.string s.d, .string s.u, .int .i64 s.t] 25 60
      exact ⟨_, rfl, q1, q2, q3.drew⟩
    obtain ⟨W, eW, l1, l2, bW⟩ := HF.out
    rw [eW]
    have H0 : Hid (LB W w.heap.size 25 [.string p.nm, .int .i64 p.piv, .slice (some ⟨b, off, none⟩) p.ss.length cap] ∧ LB W (w.heap.size + 1) 60 [.string s.d, .string s.u, .int .i64 s.t] ∧ Below w.heap.size w W) := ⟨l1, l2, bW⟩
    clear eW HF l1 l2 bW
    go_wp2_with (first | (refine wpList_load_mid rfl 25 _ rfl w.heap.size 0 rfl _ _ H0.out.1.range Tryz.underlying25 rfl infoPlan ?_) | fail)
    refine (HBH.out _).mono ?_
    rintro e w1 ⟨rfl, b1⟩
    have H1 : Hid (LB w1 w.heap.size 25 [.string p.nm, .int .i64 p.piv, .slice (some ⟨b, off, none⟩) p.ss.length cap] ∧ LB w1 (w.heap.size + 1) 60 [.string s.d, .string s.u, .int .i64 s.t] ∧ Below w.heap.size w w1) := ⟨H0.out.1.kept b1, H0.out.2.1.kept b1, andThen H0.out.2.2 b1⟩
    clear b1 H0 HBH
    cases bb
    all_goals
      have d0 := H1.out.2.1.cell 0 _ rfl
      have d1 := H1.out.2.1.cell 1 _ rfl
      have d2 := H1.out.2.1.cell 2 _ rfl
      go_wp2_with fail
      refine (HN1.out _ H1.out.2.2).mono ?_
      rintro e w2 ⟨rfl, b2⟩
      have H2 : Hid (LB w2 w.heap.size 25 [.string p.nm, .int .i64 p.piv, .slice (some ⟨b, off, none⟩) p.ss.length cap] ∧ LB w2 (w.heap.size + 1) 60 [.string s.d, .string s.u, .int .i64 s.t] ∧ Below w.heap.size w w2) := ⟨H1.out.1.kept b2, H1.out.2.1.kept b2, andThen H1.out.2.2 b2⟩
      clear b2 H1 HN1 d0 d1 d2
      have d0 := H2.out.2.1.cell 0 _ rfl
      have d1 := H2.out.2.1.cell 1 _ rfl
      have d2 := H2.out.2.1.cell 2 _ rfl
      cases n1
      case false => go_wp2; go_ret; exact ⟨by rw [HE.out]; rfl, H2.out.2.2⟩
      go_wp2_with fail
      refine (HN2.out _ H2.out.2.2).mono ?_
      rintro e w3 ⟨rfl, b3⟩
      have H3 : Hid (LB w3 w.heap.size 25 [.string p.nm, .int .i64 p.piv, .slice (some ⟨b, off, none⟩) p.ss.length cap] ∧ LB w3 (w.heap.size + 1) 60 [.string s.d, .string s.u, .int .i64 s.t] ∧ Below w.heap.size w w3) := ⟨H2.out.1.kept b3, H2.out.2.1.kept b3, andThen H2.out.2.2 b3⟩
      clear b3 H2 HN2 d0 d1 d2
      have d0 := H3.out.2.1.cell 0 _ rfl
      have d1 := H3.out.2.1.cell 1 _ rfl
      have d2 := H3.out.2.1.cell 2 _ rfl
      cases n2
      case false => go_wp2; go_ret; exact ⟨by rw [HE.out]; rfl, H3.out.2.2⟩
      go_upto_region 9 with fail
      have e0 := H3.out.1.cell 0 _ rfl
      have e1 := H3.out.1.cell 1 _ rfl
      have e2 := H3.out.1.cell 2 _ rfl
      go_region_held3 (fun w' => w'.cell? ⟨w.heap.size, 0, none⟩ = some (.string p.nm) ∧ w'.cell? ⟨w.heap.size, 1, none⟩ = some (.int .i64 p.piv) ∧ w'.cell? ⟨w.heap.size, 2, none⟩ = some (.slice (some ⟨b, off, none⟩) p.ss.length cap) ∧ w'.cell? ⟨w.heap.size + 1, 1, none⟩ = some (.string s.u)) (first | exact ⟨H9.out.1.cell 0 _ rfl, H9.out.1.cell 1 _ rfl, H9.out.1.cell 2 _ rfl, H9.out.2.1.cell 1 _ rfl⟩ | exact ⟨e0, e1, e2, d1⟩ | go_keep) ((refine (HAH.out _).mono ?_; rintro e w9 ⟨rfl, b9⟩; have H9 : Hid (LB w9 w.heap.size 25 [.string p.nm, .int .i64 p.piv, .slice (some ⟨b, off, none⟩) p.ss.length cap] ∧ LB w9 (w.heap.size + 1) 60 [.string s.d, .string s.u, .int .i64 s.t] ∧ Below w.heap.size w w9) := ⟨LB.kept (w := w3.drew) H3.out.1 b9, LB.kept (w := w3.drew) H3.out.2.1 b9, andThen H3.out.2.2.drew b9⟩))
      clear e0 e1 e2 d0 d1 d2 b9 H3 HAH
      rename_i hkeep
      clear hkeep
      have d0 := H9.out.2.1.cell 0 _ rfl
      have d1 := H9.out.2.1.cell 1 _ rfl
      have d2 := H9.out.2.1.cell 2 _ rfl
      cases ah
      case false => go_wp2; go_ret; exact ⟨by rw [HE.out]; rfl, H9.out.2.2⟩
      go_wp2_with fail
      refine (HWI0.out _).mono ?_
      rintro e w10 ⟨rfl, b10⟩
      have H10 : Hid (LB w10 w.heap.size 25 [.string p.nm, .int .i64 p.piv, .slice (some ⟨b, off, none⟩) p.ss.length cap] ∧ LB w10 (w.heap.size + 1) 60 [.string s.d, .string s.u, .int .i64 s.t] ∧ Below w.heap.size w w10) := ⟨H9.out.1.kept b10, H9.out.2.1.kept b10, andThen H9.out.2.2 b10⟩
      clear b10 H9 HWI0 d0 d1 d2
      have d0 := H10.out.2.1.cell 0 _ rfl
      have d1 := H10.out.2.1.cell 1 _ rfl
      have d2 := H10.out.2.1.cell 2 _ rfl
      cases wi
      case false => go_wp2; go_ret; exact ⟨by rw [HE.out]; rfl, H10.out.2.2⟩
      go_wp2_with fail
      refine (HU1.out _ H10.out.2.2).mono ?_
      rintro e w11 ⟨rfl, b11⟩
      have H11 : Hid (LB w11 w.heap.size 25 [.string p.nm, .int .i64 p.piv, .slice (some ⟨b, off, none⟩) p.ss.length cap] ∧ LB w11 (w.heap.size + 1) 60 [.string s.d, .string s.u, .int .i64 s.t] ∧ Below w.heap.size w w11) := ⟨H10.out.1.kept b11, H10.out.2.1.kept b11, andThen H10.out.2.2 b11⟩
      clear b11 H10 HU1 d0 d1 d2
      have d0 := H11.out.2.1.cell 0 _ rfl
      have d1 := H11.out.2.1.cell 1 _ rfl
      have d2 := H11.out.2.1.cell 2 _ rfl
      cases u1
      case true => go_wp2; go_ret; exact ⟨by rw [HE.out]; rfl, H11.out.2.2⟩
      cases qq
      case true => go_wp2; go_ret; exact ⟨by rw [HE.out]; rfl, H11.out.2.2⟩
      go_wp2_with fail
      refine (HU2.out _ H11.out.2.2).mono ?_
      rintro e w12 ⟨rfl, b12⟩
      have H12 : Hid (LB w12 w.heap.size 25 [.string p.nm, .int .i64 p.piv, .slice (some ⟨b, off, none⟩) p.ss.length cap] ∧ LB w12 (w.heap.size + 1) 60 [.string s.d, .string s.u, .int .i64 s.t] ∧ Below w.heap.size w w12) := ⟨H11.out.1.kept b12, H11.out.2.1.kept b12, andThen H11.out.2.2 b12⟩
      clear b12 H11 HU2 d0 d1 d2
      cases u2
      case true => go_wp2; go_ret; exact ⟨by rw [HE.out]; rfl, H12.out.2.2⟩
      go_wp2
      go_ret
      exact ⟨by rw [HE.out]; rfl, H12.out.2.2⟩
end Go.Proofs.YtcnnpohnfoaceaaGreatDoor

/-
  Package plan: fault, Check.
-/
namespace Go.Proofs.YtcnnpohnfoaceaaGreatDoor
open Go Go.RowKit
open Wb

/-- the first error of the steps from i on -/
def firstErr (p : Pln) : Nat → List Stp → Int × Int
  | _, [] => (0, 0)
  | i, s :: r => if stepErr p i s ≠ 0 then (stepErr p i s, (i : Int)) else firstErr p (i + 1) r
/-- the error of a plan, and its step -/
def fErr (p : Pln) : Int × Int :=
  if nmd p.nm = false then (35, 0) else if p.ss.length = 0 then (153, 0) else if 32 < p.ss.length then (153, 32) else if winP p.piv 0 (p.ss.length : Int) = false then (34, 0) else firstErr p 0 p.ss
/-- no text of it is too long for the machine -/
structure PFit (p : Pln) : Prop where
  nm : p.nm.size ≤ 140737488355000
  d : ∀ s ∈ p.ss, s.d.size ≤ 140737488355000
  u : ∀ s ∈ p.ss, s.u.size ≤ 140737488355000
set_option maxRecDepth 100000 in
set_option maxHeartbeats 8000000 in
theorem pfault_any (p : Pln) (v : Value) (w : World) (h : StsAt w v p.ss) (hT : Text.TabP 0 .i32 Text.Tx.lets w) (hF : PFit p) :
    Calls Tryz.prog 16 #[plv p v] w fun e w' => e = .returned (.tuple #[.int .i64 (fErr p).1, .int .i64 (fErr p).2]) ∧ Below w.heap.size w w' := by
  have HNM : Hid (∀ w', Below w.heap.size w w' → Calls Tryz.prog 36 #[.string p.nm] w' fun e w'' => e = .returned (.bool (nmd p.nm)) ∧ Below w'.heap.size w' w'') := fun w' hb => pnamed_any p.nm w' hF.nm (hT.kept hb)
  have HWI : Hid (∀ w', Calls Tryz.prog 37 #[.int .i64 p.piv, .int .i64 0, .int .i64 (p.ss.length : Int)] w' fun e w'' => e = .returned (.bool (winP p.piv 0 (p.ss.length : Int))) ∧ Below w'.heap.size w' w'') := fun w' => pwithin_any _ _ _ w'
  have HSF : Hid (∀ (i : Nat) (s : Stp) w', Below w.heap.size w w' → p.ss[i]? = some s → i < 1000 → Calls Tryz.prog 38 #[plv p v, .int .i64 (i : Int)] w' fun e w'' => e = .returned (.int .i64 (stepErr p i s)) ∧ Below w'.heap.size w' w'') := fun i s w' hb hs hi => pstepf_any p v i s w' hs (h.kept hb) (hT.kept hb) (hF.d s (List.mem_of_getElem? hs)) (hF.u s (List.mem_of_getElem? hs)) hi
  obtain ⟨ao, cap, rfl, h1, h2, -⟩ := h
  unfold maxLen at h2
  obtain ⟨R, hR⟩ : ∃ R, fErr p = R := ⟨_, rfl⟩
  have HR : Hid ((if nmd p.nm = false then (35, 0) else if p.ss.length = 0 then (153, 0) else if 32 < p.ss.length then (153, 32) else if winP p.piv 0 (p.ss.length : Int) = false then (34, 0) else firstErr p 0 p.ss) = R) := hR
  rw [hR]
  generalize nmd p.nm = n1 at *
  generalize winP p.piv 0 (p.ss.length : Int) = wi at *
  have HX : Hid (LB (w.alloc (.cells (plvl p (.slice ao p.ss.length cap)).toArray 25)) w.heap.size 25 (plvl p (.slice ao p.ss.length cap)) ∧ Below w.heap.size w (w.alloc (.cells (plvl p (.slice ao p.ss.length cap)).toArray 25))) := ⟨lb_new w _ _, up0 _ _⟩
  have hpl : plv p (.slice ao p.ss.length cap) = .agg (plvl p (.slice ao p.ss.length cap)).toArray := rfl
  have HLI : Hid ((Tryz.prog.info? 25).map (·.size) = some (plvl p (.slice ao p.ss.length cap)).length) := infoPlan
  have HDC : Hid (∀ W, LB W w.heap.size 25 (plvl p (.slice ao p.ss.length cap)) → W.cell? ⟨w.heap.size, 0, none⟩ = some (.string p.nm) ∧ W.cell? ⟨w.heap.size, 1, none⟩ = some (.int .i64 p.piv) ∧ W.cell? ⟨w.heap.size, 2, none⟩ = some (.slice ao p.ss.length cap)) := fun W l => ⟨l.cell 0 _ rfl, l.cell 1 _ rfl, l.cell 2 _ rfl⟩
  rw [hpl]
  rw [hpl] at HSF
  clear hpl hF hT hR
  generalize plvl p (.slice ao p.ss.length cap) = D at *
  go_enter Tryz.func16, Tryz.ntmps16
  obtain ⟨c0, c1, c2⟩ := HDC.out _ HX.out.1
  go_wp2_with fail
  refine (HNM.out _ HX.out.2).mono ?_
  rintro e w1 ⟨rfl, b1⟩
  have H1 : Hid (LB w1 w.heap.size 25 D ∧ Below w.heap.size w w1) := ⟨HX.out.1.kept b1, andThen HX.out.2 b1⟩
  clear c0 c1 c2 b1 HX HNM
  obtain ⟨c0, c1, c2⟩ := HDC.out _ H1.out.1
  cases n1
  case false =>
    go_wp2
    go_ret2
    exact ⟨by rw [← HR.out]; rfl, H1.out.2⟩
  by_cases hz : p.ss.length = 0
  · have HR2 : Hid (R = (153, 0)) := by show _ = _; rw [← HR.out, hz]; rfl
    rw [hz] at c2
    go_wp2
    go_ret2
    exact ⟨by rw [HR2.out]; rfl, H1.out.2⟩
  have hz2 : ((p.ss.length : Int) == 0) = false := by rw [beq_eq_false_iff_ne]; omega
  by_cases hg : 32 < p.ss.length
  · have HR2 : Hid (R = (153, 32)) := by show _ = _; rw [← HR.out, if_neg (by decide), if_neg hz, if_pos hg]
    go_wp2
    go_ret2
    exact ⟨by rw [HR2.out]; rfl, H1.out.2⟩
  have HR2 : Hid ((if wi = false then (34, 0) else firstErr p 0 p.ss) = R) := by
    have e := HR.out
    rw [if_neg (by decide), if_neg hz, if_neg hg] at e
    exact e
  go_wp2_with fail
  refine (HWI.out _).mono ?_
  rintro e w2 ⟨rfl, b2⟩
  have H2 : Hid (LB w2 w.heap.size 25 D ∧ Below w.heap.size w w2) := ⟨H1.out.1.kept b2, andThen H1.out.2 b2⟩
  clear c0 c1 c2 b2 H1 HWI HR
  obtain ⟨c0, c1, c2⟩ := HDC.out _ H2.out.1
  cases wi
  case false =>
    go_wp2
    go_ret2
    exact ⟨by rw [← HR2.out]; rfl, H2.out.2⟩
  have HR3 : Hid (firstErr p 0 p.ss = R) := HR2.out
  clear HR2
  go_wp2_with fail
  go_loopw [32] (fun i wr => ∃ k : Nat, k ≤ p.ss.length ∧ i = .int .i64 (k : Int) ∧ firstErr p k (p.ss.drop k) = R ∧ LB wr w.heap.size 25 D ∧ Below w.heap.size w wr) (fun i _ => p.ss.length - (intOf i).toNat)
  case atStart => exact ⟨0, Nat.zero_le _, rfl, HR3.out, H2.out.1, H2.out.2⟩
  case round =>
    obtain ⟨k, hk, rfl, hr, hl, hbl⟩ := hrel
    have HW : Hid (firstErr p k (p.ss.drop k) = R ∧ LB wr w.heap.size 25 D ∧ Below w.heap.size w wr) := ⟨hr, hl, hbl⟩
    clear hr hl hbl c0 c1 c2 H2 HR3
    obtain ⟨c0, c1, c2⟩ := HDC.out _ HW.out.2.1
    by_cases hlt : k < p.ss.length
    · have HE : Hid ((if stepErr p k p.ss[k] ≠ 0 then (stepErr p k p.ss[k], (k : Int)) else firstErr p (k + 1) (p.ss.drop (k + 1))) = R) := by
        show _ = _
        have e := HW.out.1
        rw [List.drop_eq_getElem_cons hlt] at e
        exact e
      have HC : Hid (Calls Tryz.prog 38 #[.agg D.toArray, .int .i64 (k : Int)] wr fun e w'' => e = .returned (.int .i64 (stepErr p k p.ss[k])) ∧ Below wr.heap.size wr w'') := HSF.out k p.ss[k] wr HW.out.2.2 (List.getElem?_eq_getElem hlt) (by omega)
      generalize stepErr p k p.ss[k] = E at *
      go_wp2_with (first | (refine wpList_load_mid rfl 25 _ rfl w.heap.size 0 rfl D _ HW.out.2.1.range Tryz.underlying25 rfl HLI.out ?_) | fail)
      refine HC.out.mono ?_
      rintro e w3 ⟨rfl, b3⟩
      have H3 : Hid (LB w3 w.heap.size 25 D ∧ Below w.heap.size w w3) := ⟨HW.out.2.1.kept b3, andThen HW.out.2.2 b3⟩
      clear b3 c0 c1 c2 HC
      by_cases he : E = 0
      · have he2 : (E != 0) = false := by rw [he]; rfl
        have HE2 : Hid (firstErr p (k + 1) (p.ss.drop (k + 1)) = R) := by show _ = _; rw [← HE.out, if_neg (by simpa using he)]
        clear he
        go_wp2_with fail
        go_roundw
        case rel => exact ⟨k + 1, by omega, by simp, HE2.out, H3.out.1, H3.out.2⟩
        case measure => simp [intOf]; omega
      · have he2 : (E != 0) = true := by simpa using he
        have HE2 : Hid (R = (E, (k : Int))) := by show _ = _; rw [← HE.out, if_pos he]
        clear he
        go_wp2_with fail
        go_ret2
        exact ⟨by rw [HE2.out]; rfl, H3.out.2⟩
    · obtain rfl : k = p.ss.length := by omega
      have HE2 : Hid (R = (0, 0)) := by show _ = _; rw [← HW.out.1, List.drop_length]; rfl
      go_wp2_with fail
      go_ret2
      exact ⟨by rw [HE2.out]; rfl, HW.out.2.2⟩
theorem pcheck_any (p : Pln) (v : Value) (w : World) (h : StsAt w v p.ss) (hT : Text.TabP 0 .i32 Text.Tx.lets w) (hF : PFit p) :
    Calls Tryz.prog 11 #[plv p v] w fun e w' => e = .returned (.int .i64 (fErr p).1) ∧ Below w.heap.size w w' := by
  have HFA0 : ∀ w', Below w.heap.size w w' → Calls Tryz.prog 16 #[plv p v] w' fun e w'' => e = .returned (.tuple #[.int .i64 (fErr p).1, .int .i64 (fErr p).2]) ∧ Below w'.heap.size w' w'' := fun w' hb => pfault_any p v w' (h.kept hb) (hT.kept hb) hF
  obtain ⟨D, hD, hL, -⟩ := plv_letter p v
  rw [hD] at HFA0 ⊢
  have HFA : Hid _ := HFA0
  have HL : Hid _ := hL
  have HX : Hid (LB (w.alloc (.cells D.toArray 25)) w.heap.size 25 D ∧ Below w.heap.size w (w.alloc (.cells D.toArray 25))) := ⟨lb_new w D _, up0 _ _⟩
  generalize fErr p = R at *
  obtain ⟨r1, r2⟩ := R
  simp only at HFA
  clear hD hL HFA0 h hT hF
  go_enter Tryz.func11, Tryz.ntmps11
  go_wp2_with (first | (refine wpList_load_mid rfl 25 _ rfl w.heap.size 0 rfl D _ HX.out.1.range Tryz.underlying25 rfl HL.out ?_) | fail)
  refine (HFA.out _ HX.out.2).mono ?_
  rintro e w1 ⟨rfl, b1⟩
  have H1 : Hid (Below w.heap.size w w1) := andThen HX.out.2 b1
  clear b1 HX HFA
  go_wp2_with fail
  go_ret
  exact ⟨rfl, H1.out⟩
end Go.Proofs.YtcnnpohnfoaceaaGreatDoor
