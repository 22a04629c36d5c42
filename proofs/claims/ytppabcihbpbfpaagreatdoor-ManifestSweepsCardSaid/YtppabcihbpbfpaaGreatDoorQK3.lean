import Derived.Handy
import Derived.Maps.AppendAt
import Derived.Deep.RegionHeldLaw
import Derived.Test.YtppabcihbpbfpaaGreatDoorQK2
/-
  Package disk: isName, within, count, ask, find, Down, Free, Arm, New.
-/
namespace Go.Proofs.YtppabcihbpbfpaaGreatDoor
open Go Go.RowKit Go.ChangeShapes
open Wb

namespace Dk
def okc (c : UInt8) : Bool := decide (33 ≤ c.toNat ∧ c.toNat ≤ 126 ∧ c.toNat ≠ 47)
/-- is it a name? -/
def isNm (l : List UInt8) : Bool := decide (l ≠ [] ∧ l.length ≤ 40) && l.all okc
/-- n taken into 0 to most -/
def wth (n most : Int) : Int := min (max n 0) most
/-- a changing call is counted -/
def cnt (S : DS) : Int × DS := if S.armed = false then (0, S) else if S.left = 0 then (60, { S with down := true }) else (0, { S with left := S.left - 1 })
end Dk
set_option maxRecDepth 100000 in
set_option maxHeartbeats 4000000 in
theorem dkname_any (s : ByteArray) (w : World) : Calls Tryz.prog 54 #[.string s] w fun e w' => e = .returned (.bool (Dk.isNm s.data.toList)) ∧ w' = w := by
  obtain ⟨l, hl⟩ : ∃ l, l = s.data.toList := ⟨_, rfl⟩
  have hsz : s.size = l.length := by rw [hl]; rfl
  rw [← hl]
  by_cases h0 : s.size = 0
  · have hd : ((s.size : Int) == 0) = true := by rw [h0]; rfl
    have HE : Hid (Dk.isNm l = false) := by
      have e : l = [] := List.eq_nil_of_length_eq_zero (by omega)
      subst e
      rfl
    clear hl hsz h0
    go_enter Tryz.func54, Tryz.ntmps54
    go_wp2
    go_returns
    exact ⟨by rw [HE.out]; rfl, rfl⟩
  · have hd : ((s.size : Int) == 0) = false := by simp only [beq_eq_false_iff_ne, ne_eq]; omega
    by_cases h1 : 40 < s.size
    · have hd1 : (40 < (s.size : Int)) = True := by simp; omega
      have HE : Hid (Dk.isNm l = false) := by
        show Dk.isNm l = false
        unfold Dk.isNm
        rw [decide_eq_false (fun h => by omega)]
        rfl
      clear hl hsz h0 h1
      go_enter Tryz.func54, Tryz.ntmps54
      go_wp2
      go_returns
      exact ⟨by rw [HE.out]; rfl, rfl⟩
    · have hd1 : (40 < (s.size : Int)) = False := by simp; omega
      have HL : Hid (l = s.data.toList ∧ s.size = l.length ∧ l ≠ [] ∧ l.length ≤ 40) := ⟨hl, hsz, fun e => by rw [e] at hsz; exact h0 hsz, by omega⟩
      have h40 : s.size ≤ 40 := by omega
      clear hl hsz h0 h1
      go_enter Tryz.func54, Tryz.ntmps54
      go_wp2
      go_loopw [15] (fun i wr => ∃ k : Nat, k ≤ s.size ∧ i = .int .i64 (k : Int) ∧ (l.take k).all Dk.okc = true ∧ wr = w) (fun i _ => s.size - (intOf i).toNat)
      case atStart => exact ⟨0, Nat.zero_le _, rfl, rfl, rfl⟩
      case round =>
        obtain ⟨k, hk, rfl, hall, rfl⟩ := hrel
        have HA : Hid ((l.take k).all Dk.okc = true) := hall
        clear hall
        by_cases hlt : k < s.size
        · have hkl : k < l.length := by have := HL.out; omega
          have hcl : l[k] = s[k] := by
            have h9 := HL.out.1
            subst h9
            rfl
          have HC : Hid (l.take (k + 1) = l.take k ++ [s[k]]) := by
            rw [← hcl]
            exact List.take_succ_eq_append_getElem hkl
          have HM : Hid (s[k] ∈ l) := by rw [← hcl]; exact List.getElem_mem hkl
          have HBAD : Hid (Dk.okc s[k] = false → Dk.isNm l = false) := fun h => by
            show Dk.isNm l = false
            unfold Dk.isNm
            have e : l.all Dk.okc = false := by
              rw [List.all_eq_false]
              exact ⟨_, HM.out, by rw [h]; simp⟩
            rw [e, Bool.and_false]
          clear hcl hkl
          by_cases h1 : s[k].toNat < 33
          · have d1 : ((s[k].toNat : Int) < 33) = True := by simp; omega
            have HE : Hid (Dk.isNm l = false) := HBAD.out (by unfold Dk.okc; exact decide_eq_false (by omega))
            clear h1
            go_wp2
            go_returns
            exact ⟨by rw [HE.out]; rfl, rfl⟩
          · have d1 : ((s[k].toNat : Int) < 33) = False := by simp; omega
            by_cases h2 : 126 < s[k].toNat
            · have d2 : (126 < (s[k].toNat : Int)) = True := by simp; omega
              have HE : Hid (Dk.isNm l = false) := HBAD.out (by unfold Dk.okc; exact decide_eq_false (by omega))
              clear h1 h2
              go_wp2
              go_returns
              exact ⟨by rw [HE.out]; rfl, rfl⟩
            · have d2 : (126 < (s[k].toNat : Int)) = False := by simp; omega
              by_cases h3 : s[k].toNat = 47
              · have d3 : ((s[k].toNat : Int) == 47) = true := by rw [h3]; rfl
                have HE : Hid (Dk.isNm l = false) := HBAD.out (by unfold Dk.okc; exact decide_eq_false (by omega))
                clear h1 h2 h3
                go_wp2
                go_returns
                exact ⟨by rw [HE.out]; rfl, rfl⟩
              · have d3 : ((s[k].toNat : Int) == 47) = false := by simp only [beq_eq_false_iff_ne, ne_eq]; omega
                have HE : Hid ((l.take (k + 1)).all Dk.okc = true) := by
                  have h9 := HA.out
                  show List.all _ _ = true
                  rw [HC.out, List.all_append, h9]
                  simp only [List.all_cons, List.all_nil, Bool.and_true, Bool.true_and]
                  unfold Dk.okc
                  exact decide_eq_true ⟨by omega, by omega, h3⟩
                clear h1 h2 h3
                go_wp2
                go_roundw
                case rel => exact ⟨k + 1, by omega, by go_num, HE.out, trivial⟩
                case measure => simp [intOf]; omega
        · have HE : Hid (Dk.isNm l = true) := by
            have h9 := HL.out
            have h8 := HA.out
            rw [List.take_of_length_le (by omega)] at h8
            show Dk.isNm l = true
            unfold Dk.isNm
            rw [h8, decide_eq_true ⟨h9.2.2.1, h9.2.2.2⟩]
            rfl
          go_wp2
          go_returns
          exact ⟨by rw [HE.out]; rfl, rfl⟩
theorem dkwithin_any (n most : Int) (w : World) : Calls Tryz.prog 46 #[.int .i64 n, .int .i64 most] w fun e w' => e = .returned (.int .i64 (Dk.wth n most)) ∧ w' = w := by
  go_enter Tryz.func46, Tryz.ntmps46
  go_wp2
  all_goals
    go_returns
    refine ⟨?_, rfl⟩
    show Ending.returned (Value.int _ _) = _
    congr 2
    unfold Dk.wth
    omega
theorem bel_drewN {B : Nat} {a w : World} (h : Below B a w) (n : Nat) : Below B a (w.drewN n) := h.trans ⟨rfl, rfl, rfl, Nat.le_refl _, fun _ _ => rfl⟩
section
variable {B : Nat} {w w' : World} {g : Nat} {S : Dk.DS} {M : Mm}
/-- a cell of the disk that holds a number or a truth is written -/
theorem DM.num (h : DM B w g S M) (j : Nat) (v : Value) (S' : Dk.DS) (hc : (dkc S M).set j v = dkc S' M) (h1 : S'.nm = S.nm) (h2 : S'.la = S.la) (h3 : S'.ch = S.ch) (h4 : S'.ids = S.ids) (h5 : S'.fo = S.fo) : DM B (w.setCell ⟨g, j, none⟩ v) g S' M := by
  have L := h.box
  have far : ∀ q, q ≠ g → (w.setCell ⟨g, j, none⟩ v).heap[q]? = w.heap[q]? := fun q hq => set_other _ _ _ _ hq
  have hx := L
  unfold LB at hx
  have nm : ∀ b, M.mn = some b → b ≠ g := fun b e e2 => by
    obtain ⟨es, clock, h9⟩ := h.nm.obj b e
    rw [e2, hx] at h9
    cases h9
  have nl : ∀ b, M.ml = some b → b ≠ g := fun b e e2 => by
    obtain ⟨es, clock, h9⟩ := h.la.obj b e
    rw [e2, hx] at h9
    cases h9
  have L2 := L.set j v
  rw [hc] at L2
  refine ⟨L2, by rw [h1]; exact h.nm.blk fun b e => far b (nm b e), by rw [h2]; exact h.la.blk fun b e => far b (nl b e), ?_, ?_, ?_, by rw [h4]; exact h.ap, h.ne, h.gB, h.mB, by rw [h4]; exact h.fB⟩
  · rw [h3]
    refine Mg.row_block h.ch fun q e => far q fun e2 => ?_
    obtain ⟨cur, h9⟩ := Mg.row_type h.ch q e
    rw [e2, hx] at h9
    simp at h9
  · rw [h4, h5]
    intro f hf
    have L3 := h.fb f hf
    refine (far f fun e2 => ?_).trans L3
    unfold LB at L3
    rw [e2, hx] at L3
    simp at L3
  · rw [h4, h5]
    intro f hf
    refine ⟨Mg.row_block (h.fd f hf).1 fun q e => far q fun e2 => ?_, (h.fd f hf).2⟩
    obtain ⟨cur, h9⟩ := Mg.row_type (h.fd f hf).1 q e
    rw [e2, hx] at h9
    simp at h9
theorem ifr_set (w : World) (g j : Nat) (v : Value) : IFr w (w.setCell ⟨g, j, none⟩ v) (· = g) := ⟨rfl, rfl, rfl, by simp [World.setCell], fun k _ hn => set_other _ _ _ _ hn⟩
end
set_option maxRecDepth 100000 in
set_option maxHeartbeats 4000000 in
theorem dkcount_any (B g : Nat) (S : Dk.DS) (M : Mm) (w : World) (h : DM B w g S M) (hl : S.armed = true → 0 ≤ S.left ∧ S.left ≤ 9223372036854775807) :
    Calls Tryz.prog 40 #[.pointer (some ⟨g, 0, none⟩)] w fun e w' => e = .returned (.int .i64 (Dk.cnt S).1) ∧ DM B w' g (Dk.cnt S).2 M ∧ IFr w w' (· = g) := by
  have x5 := h.box.cell 5 _ rfl
  have x6 := h.box.cell 6 _ rfl
  have f6 := h.box.free 6
  have f7 := h.box.free 7
  have x7 := h.box.cell 7 _ rfl
  obtain ⟨ar, har⟩ : ∃ ar, ar = S.armed := ⟨_, rfl⟩
  obtain ⟨lf, hlf⟩ : ∃ lf, lf = S.left := ⟨_, rfl⟩
  rw [← har] at x5
  rw [← hlf] at x6
  have HA : Hid (ar = S.armed ∧ lf = S.left) := ⟨har, hlf⟩
  have H : Hid (DM B w g S M) := h
  have HLF : Hid (S.armed = true → 0 ≤ S.left ∧ S.left ≤ 9223372036854775807) := hl
  clear h har hlf hl
  cases ar with
  | false =>
    have HE : Hid (Dk.cnt S = (0, S)) := by
      show Dk.cnt S = _
      unfold Dk.cnt
      rw [if_pos HA.out.1.symm]
    go_enter Tryz.func40, Tryz.ntmps40
    go_wp2
    go_returns
    rw [HE.out]
    exact ⟨rfl, H.out, IFr.refl _ _⟩
  | true =>
    by_cases h0 : lf = 0
    · have HE : Hid (Dk.cnt S = (60, { S with down := true })) := by
        show Dk.cnt S = _
        unfold Dk.cnt
        rw [if_neg (by rw [← HA.out.1]; simp), if_pos (by rw [← HA.out.2]; exact h0)]
      subst h0
      go_enter Tryz.func40, Tryz.ntmps40
      go_wp2
      go_returns
      rw [HE.out]
      exact ⟨rfl, H.out.num 7 (.bool true) _ rfl rfl rfl rfl rfl rfl, ifr_set _ _ _ _⟩
    · have hd : (lf == 0) = false := by simp only [beq_eq_false_iff_ne, ne_eq]; exact h0
      have hw : IntKind.i64.wrap (lf - 1) = lf - 1 := IntWalk.i64_in _ (by have h1 := HLF.out HA.out.1.symm; rw [← HA.out.2] at h1; omega)
      have HE : Hid (Dk.cnt S = (0, { S with left := lf - 1 })) := by
        show Dk.cnt S = _
        unfold Dk.cnt
        rw [if_neg (by rw [← HA.out.1]; simp), if_neg (by rw [← HA.out.2]; exact h0), HA.out.2]
      clear h0
      go_enter Tryz.func40, Tryz.ntmps40
      go_wp2
      go_returns
      rw [HE.out]
      exact ⟨rfl, H.out.num 6 (.int .i64 (lf - 1)) _ rfl rfl rfl rfl rfl rfl, ifr_set _ _ _ _⟩
namespace Dk
/-- what a call is refused for ahead of all -/
def askE (S : DS) (ls : List (List UInt8)) : Int := if S.down = true then 60 else if ls.all isNm = true then 0 else 61
/-- the file under a name -/
def findE (S : DS) (l : List UInt8) : Int × Option Nat := if askE S [l] = 0 then (match get S.nm l with | none => (63, none) | some f => (0, some f)) else (askE S [l], none)
end Dk
/-- a list of strings -/
def StrS (w : World) (v : Value) (ls : List ByteArray) : Prop := ∃ a c, v = .slice a ls.length c ∧ ls.length ≤ c ∧ c ≤ maxLen ∧ (ls ≠ [] → ∃ b off, a = some ⟨b, off, none⟩ ∧ ∀ j (h : j < ls.length), w.cell? ⟨b, off + j, none⟩ = some (.string ls[j]))
set_option maxRecDepth 100000 in
set_option maxHeartbeats 4000000 in
theorem dkask_any (B g : Nat) (S : Dk.DS) (M : Mm) (v : Value) (ls : List ByteArray) (w : World) (h : DM B w g S M) (hs : StrS w v ls) (hl : ls.length ≤ 1000) :
    Calls Tryz.prog 39 #[.pointer (some ⟨g, 0, none⟩), v] w fun e w' => e = .returned (.int .i64 (Dk.askE S (ls.map (·.data.toList)))) ∧ w' = w := by
  have x7 := h.box.cell 7 _ rfl
  obtain ⟨dn, hdn⟩ : ∃ dn, dn = S.down := ⟨_, rfl⟩
  rw [← hdn] at x7
  have HD : Hid (dn = S.down) := hdn
  clear h hdn
  obtain ⟨a, c, rfl, hc1, hc2, hcell⟩ := hs
  unfold maxLen at hc2
  cases dn with
  | true =>
    have HE : Hid (Dk.askE S (ls.map (·.data.toList)) = 60) := by
      show Dk.askE _ _ = _
      unfold Dk.askE
      rw [if_pos HD.out.symm]
    clear hcell
    go_enter Tryz.func39, Tryz.ntmps39
    go_wp2
    go_returns
    exact ⟨by rw [HE.out]; rfl, rfl⟩
  | false =>
    have HE : Hid (Dk.askE S (ls.map (·.data.toList)) = if (ls.map (·.data.toList)).all Dk.isNm = true then 0 else 61) := by
      show Dk.askE _ _ = _
      unfold Dk.askE
      rw [if_neg (by rw [← HD.out]; simp)]
    have HC : Hid (ls ≠ [] → ∃ b off, a = some ⟨b, off, none⟩ ∧ ∀ j (h : j < ls.length), w.cell? ⟨b, off + j, none⟩ = some (.string ls[j])) := hcell
    clear hcell
    go_enter Tryz.func39, Tryz.ntmps39
    go_wp2
    go_loopw [13] (fun i wr => ∃ k : Nat, k ≤ ls.length ∧ i = .int .i64 (k : Int) ∧ ((ls.map (·.data.toList)).take k).all Dk.isNm = true ∧ wr = w) (fun i _ => ls.length - (intOf i).toNat)
    case atStart => exact ⟨0, Nat.zero_le _, rfl, rfl, rfl⟩
    case round =>
      obtain ⟨k, hk, rfl, hall, rfl⟩ := hrel
      have HA : Hid (((ls.map (·.data.toList)).take k).all Dk.isNm = true) := hall
      clear hall
      by_cases hlt : k < ls.length
      · obtain ⟨b, off, rfl, hc⟩ := HC.out (List.ne_nil_of_length_pos (by omega))
        have y := hc k hlt
        obtain ⟨s, hs⟩ : ∃ s, s = ls[k] := ⟨_, rfl⟩
        rw [← hs] at y
        have HK : Hid ((ls.map (·.data.toList)).take (k + 1) = (ls.map (·.data.toList)).take k ++ [s.data.toList]) := by
          show List.take _ _ = _
          rw [List.take_succ_eq_append_getElem (by rw [List.length_map]; exact hlt), List.getElem_map, hs]
        have HM : Hid (s.data.toList ∈ ls.map (·.data.toList)) := List.mem_map.2 ⟨s, by rw [hs]; exact List.getElem_mem hlt, rfl⟩
        clear hc hs
        have cN := dkname_any s wr
        cases hq : Dk.isNm s.data.toList with
        | true =>
          rw [hq] at cN
          have HS : Hid (((ls.map (·.data.toList)).take (k + 1)).all Dk.isNm = true) := by
            show List.all _ _ = true
            rw [HK.out, List.all_append, HA.out]
            simp [hq]
          clear hq
          go_wp2_with (go_at_call 54; refine cN.mono ?_; rintro e w' ⟨rfl, rfl⟩)
          go_roundw
          case rel => exact ⟨k + 1, by omega, by go_num, HS.out, trivial⟩
          case measure => simp [intOf]; omega
        | false =>
          rw [hq] at cN
          have HF : Hid (Dk.askE S (ls.map (·.data.toList)) = 61) := by
            show Dk.askE _ _ = _
            rw [HE.out, if_neg]
            intro h
            rw [List.all_eq_true] at h
            have h9 := h _ HM.out
            rw [hq] at h9
            cases h9
          clear hq
          go_wp2_with (go_at_call 54; refine cN.mono ?_; rintro e w' ⟨rfl, rfl⟩)
          go_returns
          exact ⟨by rw [HF.out]; rfl, rfl⟩
      · have HF : Hid (Dk.askE S (ls.map (·.data.toList)) = 0) := by
          have h9 := HA.out
          rw [List.take_of_length_le (by rw [List.length_map]; omega)] at h9
          show Dk.askE _ _ = _
          rw [HE.out, if_pos h9]
        go_wp2
        go_returns
        exact ⟨by rw [HF.out]; rfl, rfl⟩
theorem strs1 (w : World) (s : ByteArray) (t : TypeId) : StrS (w.alloc (.cells #[.string s] t)) (.slice (some ⟨w.heap.size, 0, none⟩) 1 1) [s] := ⟨_, 1, rfl, Nat.le_refl _, by unfold maxLen; omega, fun _ => ⟨w.heap.size, 0, rfl, fun j hj => by
  have L := lb_new w [.string s] t
  obtain rfl : j = 0 := by simpa using hj
  exact L.cell 0 _ rfl⟩⟩
set_option maxRecDepth 100000 in
set_option maxHeartbeats 4000000 in
theorem dkfind_any (B g : Nat) (S : Dk.DS) (M : Mm) (s : ByteArray) (w : World) (h : DM B w g S M) (hs : s.size ≤ maxLen) :
    Calls Tryz.prog 42 #[.pointer (some ⟨g, 0, none⟩), .string s] w fun e w' => e = .returned (.tuple #[fpo (Dk.findE S s.data.toList).2, .int .i64 (Dk.findE S s.data.toList).1]) ∧ Below w.heap.size w w' := by
  have H0 : Hid (∀ W, Below w.heap.size w W → DM B W g S M) := fun W hW => h.kept hW
  have cA : ∀ W, W = w.alloc (.cells #[.string s] 9) → Calls Tryz.prog 39 #[.pointer (some ⟨g, 0, none⟩), .slice (some ⟨w.heap.size, 0, none⟩) 1 1] W fun e w' => e = .returned (.int .i64 (Dk.askE S [s.data.toList])) ∧ w' = W := fun W e => by
    subst e
    exact dkask_any B g S M _ [s] _ (H0.out _ (up0 _ _)) (strs1 w s _) (by simp)
  have HX : Hid (∀ W, W = w.alloc (.cells #[.string s] 9) → W.cell? ⟨g, 2, none⟩ = some (.map M.mn) ∧ (Instr.lookup 62 (.map M.mn) (.string s) false).run Tryz.prog W = .ok (fpo (Dk.get S.nm s.data.toList)) W) := fun W e => by
    subst e
    have h9 := H0.out _ (up0 w (.cells #[.string s] 9))
    exact ⟨h9.box.cell 2 _ rfl, h9.nm.look s hs⟩
  clear h hs
  by_cases ha : Dk.askE S [s.data.toList] = 0
  · rw [ha] at cA
    cases hg : Dk.get S.nm s.data.toList with
    | none =>
      have HE : Hid (Dk.findE S s.data.toList = (63, none)) := by
        show Dk.findE _ _ = _
        unfold Dk.findE
        rw [if_pos ha, hg]
      rw [hg] at HX
      clear ha hg
      go_enter Tryz.func42, Tryz.ntmps42
      go_wp2_with fail
      obtain ⟨W, hW⟩ : ∃ W, W = w.alloc (.cells #[.string s] 9) := ⟨_, rfl⟩
      rw [← hW]
      refine (cA W hW).mono ?_
      rintro e w' ⟨rfl, rfl⟩
      have hb : Hid (Below w.heap.size w w') := by rw [hW]; exact up0 _ _
      obtain ⟨y2, yl⟩ := HX.out w' hW
      unfold fpo at yl
      clear hW
      go_wp2
      go_returns
      rw [HE.out]
      exact ⟨rfl, hb.out⟩
    | some f =>
      have HE : Hid (Dk.findE S s.data.toList = (0, some f)) := by
        show Dk.findE _ _ = _
        unfold Dk.findE
        rw [if_pos ha, hg]
      rw [hg] at HX
      clear ha hg
      go_enter Tryz.func42, Tryz.ntmps42
      go_wp2_with fail
      obtain ⟨W, hW⟩ : ∃ W, W = w.alloc (.cells #[.string s] 9) := ⟨_, rfl⟩
      rw [← hW]
      refine (cA W hW).mono ?_
      rintro e w' ⟨rfl, rfl⟩
      have hb : Hid (Below w.heap.size w w') := by rw [hW]; exact up0 _ _
      obtain ⟨y2, yl⟩ := HX.out w' hW
      unfold fpo fp at yl
      clear hW
      go_wp2
      go_returns
      rw [HE.out]
      exact ⟨rfl, hb.out⟩
  · have HE : Hid (Dk.findE S s.data.toList = (Dk.askE S [s.data.toList], none)) := by
      show Dk.findE _ _ = _
      unfold Dk.findE
      rw [if_neg ha]
    obtain ⟨ae, hae⟩ : ∃ ae, ae = Dk.askE S [s.data.toList] := ⟨_, rfl⟩
    rw [← hae] at cA HE ha
    have hd : (ae != 0) = true := by simp only [bne_iff_ne, ne_eq]; exact ha
    clear hae ha HX
    go_enter Tryz.func42, Tryz.ntmps42
    go_wp2_with fail
    obtain ⟨W, hW⟩ : ∃ W, W = w.alloc (.cells #[.string s] 9) := ⟨_, rfl⟩
    rw [← hW]
    refine (cA W hW).mono ?_
    rintro e w' ⟨rfl, rfl⟩
    have hb : Hid (Below w.heap.size w w') := by rw [hW]; exact up0 _ _
    clear hW
    go_wp2
    go_returns
    rw [HE.out]
    exact ⟨rfl, hb.out⟩
theorem dkdown_any (B g : Nat) (S : Dk.DS) (M : Mm) (w : World) (h : DM B w g S M) :
    Calls Tryz.prog 17 #[.pointer (some ⟨g, 0, none⟩)] w fun e w' => e = .returned (.bool S.down) ∧ w' = w := by
  have x7 := h.box.cell 7 _ rfl
  clear h
  go_enter Tryz.func17, Tryz.ntmps17
  go_wp2
  go_returns
  exact ⟨rfl, rfl⟩
namespace Dk
def free (S : DS) : Int := if S.down = true then 0 else S.quota - S.taken
end Dk
namespace Dk
def arm (S : DS) (n : Int) : DS := if S.down = true then S else { S with armed := decide (0 ≤ n), left := n }
def new (q : Int) : DS := ⟨q, 0, [], [], [], false, 0, false, [], fun _ => ⟨[], 0⟩⟩
end Dk
set_option maxRecDepth 100000 in
set_option maxHeartbeats 4000000 in
theorem dkarm_any (B g : Nat) (S : Dk.DS) (M : Mm) (n : Int) (w : World) (h : DM B w g S M) :
    Calls Tryz.prog 9 #[.pointer (some ⟨g, 0, none⟩), .int .i64 n] w fun e w' => e = .returned (.tuple #[]) ∧ DM B w' g (Dk.arm S n) M ∧ IFr w w' (· = g) := by
  have x7 := h.box.cell 7 _ rfl
  obtain ⟨dn, hdn⟩ : ∃ dn, dn = S.down := ⟨_, rfl⟩
  rw [← hdn] at x7
  have HD : Hid (dn = S.down) := hdn
  have H : Hid (DM B w g S M) := h
  clear hdn
  cases dn with
  | true =>
    clear h
    go_enter Tryz.func9, Tryz.ntmps9
    go_wp2
    go_returns
    have e : Dk.arm S n = S := by
      unfold Dk.arm
      rw [if_pos HD.out.symm]
    rw [e]
    exact ⟨rfl, H.out, IFr.refl _ _⟩
  | false =>
    have x5 := h.box.cell 5 _ rfl
    have f5 := h.box.free 5
    have T1 := h.num 5 (.bool (decide (0 ≤ n))) { S with armed := decide (0 ≤ n) } rfl rfl rfl rfl rfl rfl
    have y6 := T1.box.cell 6 _ rfl
    have g6 := T1.box.free 6
    have HT : Hid (DM B (w.setCell ⟨g, 5, none⟩ (.bool (decide (0 ≤ n)))) g { S with armed := decide (0 ≤ n) } M) := T1
    clear h T1
    go_enter Tryz.func9, Tryz.ntmps9
    go_wp2
    go_returns
    have e : Dk.arm S n = { S with armed := decide (0 ≤ n), left := n } := by
      unfold Dk.arm
      rw [if_neg (by rw [← HD.out]; simp)]
    rw [e]
    exact ⟨rfl, HT.out.num 6 (.int .i64 n) _ rfl rfl rfl rfl rfl rfl, (ifr_set _ _ _ _).trans (ifr_set _ _ _ _) fun _ _ e => e⟩
def mmN : Mm := ⟨none, none, .slice none 0 0, fun _ => .slice none 0 0⟩
theorem dm_new (w : World) (q : Int) : DM w.heap.size (w.alloc (.cells (dkc (Dk.new q) mmN).toArray 65)) w.heap.size (Dk.new q) mmN :=
  ⟨lb_new _ _ _, ⟨List.Pairwise.nil, .inl ⟨rfl, rfl⟩⟩, ⟨List.Pairwise.nil, .inl ⟨rfl, rfl⟩⟩, World.ownsRow_nil _ _ _ _, (fun f hf => by cases hf), (fun f hf => by cases hf), (fun f hf => by cases hf), (fun b e => by cases e), Nat.le_refl _, (fun b e => by rcases e with e | e <;> cases e), (fun f hf => by cases hf)⟩
set_option maxRecDepth 100000 in
set_option maxHeartbeats 4000000 in
theorem dknew_any (q : Int) (w : World) :
    Calls Tryz.prog 22 #[.int .i64 q] w fun e w' => (¬ (0 ≤ q ∧ q ≤ 4194304) ∧ e = .returned (.tuple #[.pointer none, .int .i64 1]) ∧ w' = w) ∨ ((0 ≤ q ∧ q ≤ 4194304) ∧ e = .returned (.tuple #[.pointer (some ⟨w.heap.size, 0, none⟩), .int .i64 0]) ∧ DM w.heap.size w' w.heap.size (Dk.new q) mmN ∧ Below w.heap.size w w') := by
  by_cases h1 : q < 0
  · have d1 : (q < 0) = True := by simp; omega
    have HN : Hid (¬ (0 ≤ q ∧ q ≤ 4194304)) := by show ¬ _; omega
    clear h1
    go_enter Tryz.func22, Tryz.ntmps22
    go_wp2
    go_returns
    exact .inl ⟨HN.out, rfl, rfl⟩
  · have d1 : (q < 0) = False := by simp; omega
    by_cases h2 : 4194304 < q
    · have d2 : (4194304 < q) = True := by simp; omega
      have HN : Hid (¬ (0 ≤ q ∧ q ≤ 4194304)) := by show ¬ _; omega
      clear h1 h2
      go_enter Tryz.func22, Tryz.ntmps22
      go_wp2
      go_returns
      exact .inl ⟨HN.out, rfl, rfl⟩
    · have d2 : (4194304 < q) = False := by simp; omega
      have HN : Hid (0 ≤ q ∧ q ≤ 4194304) := by show _ ∧ _; omega
      clear h1 h2
      go_enter Tryz.func22, Tryz.ntmps22
      go_wp2
      go_returns
      exact .inr ⟨HN.out, rfl, dm_new w q, up0 _ _⟩
end Go.Proofs.YtppabcihbpbfpaaGreatDoor

/-
  Package disk: a name change: do, change.
-/
namespace Go.Proofs.YtppabcihbpbfpaaGreatDoor
open Go Go.RowKit Go.ChangeShapes
open Wb

theorem ne_empty (s : ByteArray) : (s.data.toList = []) ↔ s = ⟨#[]⟩ := by
  constructor
  · intro h
    cases s with
    | mk d =>
      congr 1
      exact Array.toList_eq_nil_iff.1 h
  · intro h
    rw [h]
theorem enS_of (s : ByteArray) : enS s.data.toList = .string s := by
  unfold enS
  simp
set_option maxRecDepth 100000 in
set_option maxHeartbeats 4000000 in
/-- c.do(names) -/
theorem dkdo_any (sF sT : ByteArray) (fo : Option Nat) (m : Option Nat) (l : Dk.Nm) (w : World) (h : MpA w m l) (hF : sF.size ≤ maxLen) (hT : sT.size ≤ maxLen) (hto : sT.data.toList ≠ [] → (∃ b, m = some b) ∧ (∃ f, fo = some f) ∧ l.length < maxLen) :
    Calls Tryz.prog 47 #[.agg #[.string sF, .string sT, fpo fo], .map m] w fun e w' => e = .returned (.tuple #[]) ∧ MpA w' m (Dk.Ch.app ⟨sF.data.toList, sT.data.toList, fo⟩ l) ∧ IFr w w' (fun q => m = some q) := by
  have L1 := lb_new w [.string sF, .string sT, fpo fo] 86
  have h1 := h.kept (up0 w (.cells #[.string sF, .string sT, fpo fo] 86))
  obtain ⟨W2, hr2, m2, g2⟩ := h1.del sF hF 0
  have hne : m ≠ some w.heap.size := fun e => by
    have := h.lt _ e
    omega
  have L2 : LB W2 w.heap.size 86 [.string sF, .string sT, fpo fo] := (g2.block w.heap.size L1.lt (fun e => hne e.symm)).trans L1
  have x0 := L1.cell 0 _ rfl
  have y1 := L2.cell 1 _ rfl
  have y2 := L2.cell 2 _ rfl
  have F2 : Hid (IFr w W2 (fun q => m = some q)) := (IFr.kept (up0 _ _)).trans (IFr.of (F := fun q => m = some q) g2 fun k _ e => e) fun k _ e => e
  by_cases he : sT.data.toList = []
  · have e : sT = ⟨#[]⟩ := (ne_empty sT).1 he
    have HA : Hid (Dk.Ch.app ⟨sF.data.toList, sT.data.toList, fo⟩ l = Dk.del l sF.data.toList) := by
      show Dk.Ch.app _ _ = _
      unfold Dk.Ch.app
      rw [if_pos he]
    have HM : Hid (MpA W2 m (Dk.del l sF.data.toList)) := m2
    subst e
    clear h h1 hto m2 g2 L1 L2 he hne
    go_enter Tryz.func47, Tryz.ntmps47
    go_wp2
    go_returns
    rw [HA.out]
    exact ⟨rfl, HM.out, F2.out⟩
  · obtain ⟨⟨b, rfl⟩, ⟨f, rfl⟩, hl⟩ := hto he
    obtain ⟨W3, hr3, m3, g3⟩ := m2.put sT hT f (Nat.lt_of_le_of_lt (Dk.len_del _ _) hl)
    have HA : Hid (Dk.Ch.app ⟨sF.data.toList, sT.data.toList, some f⟩ l = Dk.put (Dk.del l sF.data.toList) sT.data.toList f) := by
      show Dk.Ch.app _ _ = _
      unfold Dk.Ch.app
      rw [if_neg he]
      rfl
    have hne2 : sT.toList.isEmpty = false := by
      rw [ByteArray.toList_eq]
      cases hx : sT.data.toList with
      | nil => exact absurd hx he
      | cons a r => rfl
    have HM : Hid (MpA W3 (some b) (Dk.put (Dk.del l sF.data.toList) sT.data.toList f) ∧ IFr w W3 (fun q => some b = some q)) := ⟨m3, F2.out.trans (IFr.of (F := fun q => some b = some q) g3 fun k _ e => e) fun k _ e => e⟩
    unfold fpo fp at y2 x0 hr2
    unfold fp at hr3
    clear h h1 hto m2 g2 L1 L2 he hne m3 g3
    unfold fpo fp
    go_enter Tryz.func47, Tryz.ntmps47
    go_wp2
    go_returns
    rw [HA.out]
    exact ⟨rfl, HM.out.1, HM.out.2.mono fun q e => Option.some.inj e⟩
theorem infoC : (Tryz.prog.info? 86).map (fun i => (i.zero, i.size, i.bytes)) = some (some (.agg #[.string ⟨#[]⟩, .string ⟨#[]⟩, .pointer none]), 3, 40) := by kernel_rfl
theorem flatC_len (cs : List Dk.Ch) : (cs.flatMap enC).length = cs.length * 3 := by
  induction cs with
  | nil => rfl
  | cons x r ih => rw [List.flatMap_cons, List.length_append, ih, List.length_cons]; simp [enC]; omega
theorem fpo_one (o : Option Nat) : (fpo o).oneCell' = true := by cases o <;> rfl
/-- append of one change, its run -/
theorem run_app1C (w : World) (ty : TypeId) (B : Nat) (v : Value) (cs : List Dk.Ch) (h : w.ownsRow B 86 3 v cs.length (cs.flatMap enC)) (g c : Nat) (x : Dk.Ch) (hc : LB w g 86 (enC x)) (hmax : cs.length ≤ 1000000000) (hB : B ≤ w.heap.size) : ∃ v' w', (Builtin.append_ #[63, 63] ty #[v, .slice (some ⟨g, 0, none⟩) 1 c]).run Tryz.prog w = .ok v' w' ∧ w'.ownsRow B 86 3 v' (cs ++ [x]).length ((cs ++ [x]).flatMap enC) ∧ w.grownBy w' v.ownBlock ∧ (v'.ownBlock = v.ownBlock ∨ v'.ownBlock = some w.heap.size) := by
  obtain ⟨i0, hi, hq⟩ := Option.map_eq_some_iff.1 infoC
  simp only [Prod.mk.injEq] at hq
  obtain ⟨v', w', hr, h2, h3, -, h5⟩ := run_append_own_at (P := Tryz.prog) w B 63 ty 86 i0 _ 3 40 Tryz.underlying63 hi hq.1 hq.2.1 hq.2.2 rfl (by decide) v cs.length _ h ⟨g, 0, none⟩ 1 c (enC x) rfl (fun j u hj => by
    rw [Addr.add_lit, Nat.zero_add]
    exact hc.cell j u hj) (fun u hu => by
      simp [enC] at hu
      rcases hu with rfl | rfl | rfl
      · rfl
      · rfl
      · exact fpo_one _) (by unfold maxLen; omega) (by omega) hB
  refine ⟨v', w', hr, ?_, h3, h5⟩
  rw [List.length_append, List.flatMap_append]
  simpa using h2
section
variable {B : Nat} {w w' : World} {g : Nat} {S : Dk.DS} {M : Mm}
theorem DM.gne (h : DM B w g S M) : M.mn ≠ some g ∧ M.ml ≠ some g ∧ M.vc.ownBlock ≠ some g := by
  have hx := h.box
  unfold LB at hx
  refine ⟨fun e => ?_, fun e => ?_, fun e => ?_⟩
  · obtain ⟨es, clock, h9⟩ := h.nm.obj g e
    rw [hx] at h9
    cases h9
  · obtain ⟨es, clock, h9⟩ := h.la.obj g e
    rw [hx] at h9
    cases h9
  · obtain ⟨cur, h9⟩ := Mg.row_type h.ch g e
    rw [hx] at h9
    simp at h9
theorem DM.vne (h : DM B w g S M) {q : Nat} (hq : M.vc.ownBlock = some q) : q ≠ g ∧ M.mn ≠ some q ∧ M.ml ≠ some q := by
  obtain ⟨cur, hx⟩ := Mg.row_type h.ch q hq
  refine ⟨fun e => h.gne.2.2 (by rw [← e]; exact hq), fun e => ?_, fun e => ?_⟩
  · obtain ⟨es, clock, h9⟩ := h.nm.obj q e
    rw [hx] at h9
    cases h9
  · obtain ⟨es, clock, h9⟩ := h.la.obj q e
    rw [hx] at h9
    cases h9
theorem DM.fne (h : DM B w g S M) {q : Nat} (hq : q ∈ S.ids) : q ≠ g ∧ M.mn ≠ some q ∧ M.ml ≠ some q ∧ M.vc.ownBlock ≠ some q ∧ ∀ f ∈ S.ids, (M.dv f).ownBlock ≠ some q := by
  have hx := h.fb q hq
  unfold LB at hx
  refine ⟨fun e => ?_, fun e => ?_, fun e => ?_, fun e => ?_, fun f hf e => ?_⟩
  · have h9 := h.box
    unfold LB at h9
    rw [← e, hx] at h9
    simp at h9
  · obtain ⟨es, clock, h9⟩ := h.nm.obj q e
    rw [hx] at h9
    cases h9
  · obtain ⟨es, clock, h9⟩ := h.la.obj q e
    rw [hx] at h9
    cases h9
  · obtain ⟨cur, h9⟩ := Mg.row_type h.ch q e
    rw [hx] at h9
    simp at h9
  · obtain ⟨cur, h9⟩ := Mg.row_type (h.fd f hf).1 q e
    rw [hx] at h9
    simp at h9
theorem DM.dne (h : DM B w g S M) {f q : Nat} (hf : f ∈ S.ids) (hq : (M.dv f).ownBlock = some q) : q ≠ g ∧ M.mn ≠ some q ∧ M.ml ≠ some q ∧ M.vc.ownBlock ≠ some q := by
  obtain ⟨cur, hx⟩ := Mg.row_type (h.fd f hf).1 q hq
  refine ⟨fun e => ?_, fun e => ?_, fun e => ?_, fun e => ?_⟩
  · have h9 := h.box
    unfold LB at h9
    rw [← e, hx] at h9
    simp at h9
  · obtain ⟨es, clock, h9⟩ := h.nm.obj q e
    rw [hx] at h9
    cases h9
  · obtain ⟨es, clock, h9⟩ := h.la.obj q e
    rw [hx] at h9
    cases h9
  · obtain ⟨cur2, h9⟩ := Mg.row_type h.ch q e
    rw [hx] at h9
    simp at h9
/-- the files, the lasting names where their blocks stay -/
theorem DM.rest (h : DM B w g S M) (hb : ∀ q, q < w.heap.size → q ≠ g → M.mn ≠ some q → M.vc.ownBlock ≠ some q → w'.heap[q]? = w.heap[q]?) : MpA w' M.ml S.la ∧ (∀ f ∈ S.ids, LB w' f 75 [M.dv f, .int .i64 ((S.fo f).syn : Int)]) ∧ ∀ f ∈ S.ids, Own B w' (M.dv f) (S.fo f).data := by
  refine ⟨h.la.blk fun b e => hb b (h.la.lt b e) (fun e2 => h.gne.2.1 (by rw [← e2]; exact e)) (fun e2 => h.ne b e2 e) (fun e2 => (h.vne e2).2.2 e), fun f hf => ?_, fun f hf => ⟨Mg.row_block (h.fd f hf).1 fun q e => ?_, (h.fd f hf).2⟩⟩
  · have h9 := h.fne hf
    exact (hb f (h.fb f hf).lt h9.1 h9.2.1 h9.2.2.2.1).trans (h.fb f hf)
  · have h9 := h.dne hf e
    exact hb q (World.ownsRow.lt (h.fd f hf).1 q e).2 h9.1 h9.2.1 h9.2.2.2
/-- the names and the changes are others -/
theorem DM.chg (h : DM B w g S M) {W2 W3 W4 : World} {nm' : Dk.Nm} {c : Dk.Ch} {vc' : Value} (m2 : MpA W2 M.mn nm') (f2 : IFr w W2 (fun q => M.mn = some q)) (b23 : Below W2.heap.size W2 W3) (r : W4.ownsRow B 86 3 vc' (S.ch ++ [c]).length ((S.ch ++ [c]).flatMap enC)) (g4 : W3.grownBy W4 M.vc.ownBlock) (hv : vc'.ownBlock = M.vc.ownBlock ∨ vc'.ownBlock = some W3.heap.size) :
    DM B (W4.setCell ⟨g, 4, none⟩ vc') g { S with nm := nm', ch := S.ch ++ [c] } { M with vc := vc' } ∧ IFr w (W4.setCell ⟨g, 4, none⟩ vc') (Ft g S M) ∧ ∀ q, Ft g { S with nm := nm', ch := S.ch ++ [c] } { M with vc := vc' } q → Ft g S M q ∨ w.heap.size ≤ q := by
  have s2 := f2.size
  have s3 := b23.size
  have s4 := g4.size
  have gl := h.box.lt
  have far4 : ∀ q, q < w.heap.size → M.mn ≠ some q → M.vc.ownBlock ≠ some q → W4.heap[q]? = w.heap[q]? := fun q hq h1 h2 => (g4.block q (by omega) fun e => h2 e.symm).trans ((b23.block q (by omega)).trans (f2.block q hq h1))
  have far : ∀ q, q < w.heap.size → q ≠ g → M.mn ≠ some q → M.vc.ownBlock ≠ some q → (W4.setCell ⟨g, 4, none⟩ vc').heap[q]? = w.heap[q]? := fun q hq h0 h1 h2 => (set_other _ _ _ _ h0).trans (far4 q hq h1 h2)
  have LG : LB W4 g 65 (dkc S M) := (far4 g gl h.gne.1 h.gne.2.2).trans h.box
  have LG2 := LG.set 4 vc'
  obtain ⟨k1, k2, k3⟩ := h.rest far
  have vg : ∀ q, vc'.ownBlock = some q → q ≠ g := fun q e e2 => by
    rcases hv with h9 | h9
    · exact h.gne.2.2 (by rw [← e2, ← h9]; exact e)
    · rw [h9] at e
      have := Option.some.inj e
      omega
  have mblk : ∀ b, M.mn = some b → (W4.setCell ⟨g, 4, none⟩ vc').heap[b]? = W2.heap[b]? := fun b e => by
    have hb := m2.lt b e
    refine (set_other _ _ _ _ fun e2 : b = g => h.gne.1 (by rw [← e2]; exact e)).trans ((g4.block b (by omega) fun e2 => (h.vne e2.symm).2.1 e).trans (b23.block b hb))
  refine ⟨⟨LG2, m2.blk mblk, k1, Mg.row_block r fun q e => set_other _ _ _ _ (vg q e), k2, k3, h.ap, h.ne, h.gB, h.mB, h.fB⟩, ⟨g4.os.trans (b23.os.trans f2.os), g4.tape.trans (b23.tape.trans f2.tape), g4.output.trans (b23.output.trans f2.output), by simp only [World.setCell, Array.size_modify]; omega, fun k hk hn => far k hk (fun e => hn (.inl e)) (fun e => hn (.inr (.inl e))) (fun e => hn (.inr (.inr (.inr (.inl e)))))⟩, fun q hq => ?_⟩
  rcases hq with e | e | e | e | e
  · exact .inl (.inl e)
  · exact .inl (.inr (.inl e))
  · exact .inl (.inr (.inr (.inl e)))
  · rcases hv with h9 | h9
    · exact .inl (.inr (.inr (.inr (.inl (by rw [← h9]; exact e)))))
    · have e2 : vc'.ownBlock = some q := e
      rw [h9] at e2
      have := Option.some.inj e2
      exact .inr (by omega)
  · exact .inl (.inr (.inr (.inr (.inr e))))
end
theorem st_doW {ops : Array Oper} {o : Oper} {a : Act} {W : World} {K : Act → World → Prop} {Q : Exit → Act → World → Prop} {E : Prop} (hgd : o.guard = none) (p q : Nat) {ts : Array TypeId} (ho : o.op = .call { callee := .value (.func 47), args := #[.tmp p, .tmp q], argTypes := ts }) {u1 u2 : Value} (hp : a.tmps[p]?.getD undef = u1) (hq : a.tmps[q]?.getD undef = u2) {R : World → Prop} (hC : Calls Tryz.prog 47 #[u1, u2] W fun e W' => e = .returned (.tuple #[]) ∧ R W') (h : ∀ W', R W' → K (a.put o.dst (.tuple #[])) W') : if Region.wanted o (yielded ops a.tmps) = true then Oper.wp Tryz.prog o a W K Q else E := by
  rw [if_pos (by simp [Region.wanted, hgd])]
  obtain ⟨dst, op', ty, pos, after, guard⟩ := o
  simp only at ho hgd
  subst ho hgd
  have HC : Hid (Calls Tryz.prog 47 #[u1, u2] W fun e W' => e = .returned (.tuple #[]) ∧ R W') := hC
  clear hC
  go_simp
  refine HC.out.mono ?_
  rintro e W' ⟨rfl, r⟩
  exact h W' r
end Go.Proofs.YtppabcihbpbfpaaGreatDoor
