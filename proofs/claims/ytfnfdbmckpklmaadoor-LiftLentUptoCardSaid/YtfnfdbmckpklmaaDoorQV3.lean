import Derived.Test.YtfnfdbmckpklmaaDoorQV1
import Derived.Test.YtfnfdbmckpklmaaDoorQU3
import Derived.Test.YtfnfdbmckpklmaaDoorQM1
/-
  LiftLent: lists.
-/
namespace Go.Proofs.YtfnfdbmckpklmaaDoor
open Go Go.RowKit
open Wb

theorem rws_below {B : Nat} {w w' : World} {v : Value} {ps : List (Rec × Value)} (h : Rws B w v ps) (hb : Below w.heap.size w w') : Rws B w' v ps := h.kept hb
set_option maxRecDepth 100000 in
set_option maxHeartbeats 1000000 in
theorem lists_any (to : Int) (v : Value) (rs : List Rec) (w : World) (h : RecsAt w v rs) (hg : LGood rs) (hT : LTabs w) :
    Calls Tryd.prog 30 #[.int .i64 to, v] w fun e w' => ∃ (o1 o2 vl : Value) (ps : List (Rec × Value)) (i z : Int), e = .returned (.tuple #[o1, o2, vl]) ∧ StrsAt w' o1 upN ∧ StrsAt w' o2 downN ∧ Rws w.heap.size w' vl ps ∧ UaAns to rs (ps.map Prod.fst) i z ∧ Below w.heap.size w w' := by
  have HU : Hid (∀ w', Below w.heap.size w w' → Calls Tryd.prog 27 #[.int .i64 to, v] w' fun e w'' => ∃ vl ps i z, e = .returned (.tuple #[vl, .int .i64 i, .int .i64 z]) ∧ Rws w'.heap.size w'' vl ps ∧ UaAns to rs (ps.map Prod.fst) i z ∧ Below w'.heap.size w' w'') := fun w' hb => upall_own to v rs w' (h.kept hb) hg (hT.kept hb)
  have HS1 : Hid (∀ w', Below w.heap.size w w' → Calls Tryd.prog 25 #[.int .i64 1, .int .i64 3] w' fun e w'' => ∃ o, e = .returned o ∧ StrsAt w'' o upN ∧ Below w'.heap.size w' w'') := fun w' hb => (steps_way 0 (by decide) w' (hT.kept hb).ways).mono fun e w'' ⟨o, h1, h2, h3⟩ => ⟨o, h1, strsAt_row h2 (by decide), h3⟩
  have HS2 : Hid (∀ w', Below w.heap.size w w' → Calls Tryd.prog 25 #[.int .i64 3, .int .i64 1] w' fun e w'' => ∃ o, e = .returned o ∧ StrsAt w'' o downN ∧ Below w'.heap.size w' w'') := fun w' hb => (steps_way 1 (by decide) w' (hT.kept hb).ways).mono fun e w'' ⟨o, h1, h2, h3⟩ => ⟨o, h1, strsAt_row h2 (by decide), h3⟩
  obtain ⟨ao, cap, rfl, -, -⟩ := id h
  clear h hg hT
  go_enter Tryd.func30, Tryd.ntmps30
  go_wp2_with fail
  refine (HU.out _ (Below.refl _ _)).mono ?_
  rintro e w1 ⟨vl, ps, i, z, rfl, hr, hu, b1⟩
  have H1 : Hid (Rws w.heap.size w1 vl ps ∧ UaAns to rs (ps.map Prod.fst) i z ∧ Below w.heap.size w w1) := ⟨hr, hu, b1⟩
  clear hr hu b1
  go_wp2_with fail
  refine (HS1.out _ H1.out.2.2).mono ?_
  rintro e w2 ⟨o1, rfl, s1, b2⟩
  have H2 : Hid (Rws w.heap.size w2 vl ps ∧ UaAns to rs (ps.map Prod.fst) i z ∧ StrsAt w2 o1 upN ∧ Below w.heap.size w w2) := ⟨H1.out.1.kept b2, H1.out.2.1, s1, andThen H1.out.2.2 b2⟩
  clear s1 b2 H1
  go_wp2_with fail
  refine (HS2.out _ H2.out.2.2.2).mono ?_
  rintro e w3 ⟨o2, rfl, s2, b3⟩
  have H3 : Hid (Rws w.heap.size w3 vl ps ∧ UaAns to rs (ps.map Prod.fst) i z ∧ StrsAt w3 o1 upN ∧ StrsAt w3 o2 downN ∧ Below w.heap.size w w3) := ⟨H2.out.1.kept b3, H2.out.2.1, H2.out.2.2.1.kept b3, s2, andThen H2.out.2.2.2 b3⟩
  clear s2 b3 H2
  go_wp2_with fail
  go_ret3
  exact ⟨o1, o2, vl, ps, i, z, rfl, H3.out.2.2.1, H3.out.2.2.2.1, H3.out.1, H3.out.2.1, H3.out.2.2.2.2⟩
end Go.Proofs.YtfnfdbmckpklmaaDoor

/-
  LiftLent: the lists and their longer ones.
-/
namespace Go.Proofs.YtfnfdbmckpklmaaDoor
open Go Go.RowKit
open Wb
open Mg

/-- the mark of the j-th list of words -/
def wcs (j : Nat) : List Value := [.string (wrd j)]
/-- the longer ones gathered so far -/
def Q8 (W w1 w4 : World) (H0 : Nat) (vW : Value) (L : List Value) (vA : Value) (LA : List Value) (cb : Nat → List Value) (N : Nat) (vg : Value) (Ga : List Value) (vh : Value) (Gb : List Value) (w : World) : Prop :=
  Rst W w1 w4 H0 53 28 vW L vA LA vg Ga vh Gb w ∧ Lng W.heap.size H0 w 9 wcs 2 20 L Ga ∧ Lng W.heap.size H0 w 24 cb N 20 LA Gb
/-- a list of words under way -/
def Q9 (W w1 w4 : World) (H0 H1 : Nat) (vW : Value) (L : List Value) (vA : Value) (LA : List Value) (cb : Nat → List Value) (N : Nat) (vg : Value) (Ga : List Value) (vh : Value) (Gb : List Value) (i : Nat) (v c : Value) (k : Nat) (w : World) : Prop :=
  Rst W w1 w4 H0 53 28 vW L vA LA vg Ga vh Gb w ∧ Und W.heap.size H0 H1 w 9 wcs 2 20 L Ga i v c k ∧ Lng W.heap.size H0 w 24 cb N 20 LA Gb
/-- a list of records under way -/
def Q11 (W w1 w4 : World) (H0 H1 : Nat) (vW : Value) (L : List Value) (vA : Value) (LA : List Value) (cb : Nat → List Value) (N : Nat) (vg : Value) (Ga : List Value) (vh : Value) (Gb : List Value) (i : Nat) (v c : Value) (k : Nat) (w : World) : Prop :=
  Rst W w1 w4 H0 53 28 vW L vA LA vg Ga vh Gb w ∧ Und W.heap.size H0 H1 w 24 cb N 20 LA Gb i v c k ∧ Lng W.heap.size H0 w 9 wcs 2 20 L Ga
section
variable {W w1 w4 w w' : World} {H0 H1 : Nat} {vW vA vg vh : Value} {L LA Ga Gb : List Value} {cb : Nat → List Value} {N : Nat}
theorem Q8.kept (h : Q8 W w1 w4 H0 vW L vA LA cb N vg Ga vh Gb w) (hb : Below w.heap.size w w') : Q8 W w1 w4 H0 vW L vA LA cb N vg Ga vh Gb w' := ⟨h.1.kept hb, h.2.1.kept hb, h.2.2.kept hb⟩
theorem Q9.kept {i k : Nat} {v c : Value} (h : Q9 W w1 w4 H0 H1 vW L vA LA cb N vg Ga vh Gb i v c k w) (hb : Below w.heap.size w w') : Q9 W w1 w4 H0 H1 vW L vA LA cb N vg Ga vh Gb i v c k w' := ⟨h.1.kept hb, h.2.1.kept hb, h.2.2.kept hb⟩
theorem Q11.kept {i k : Nat} {v c : Value} (h : Q11 W w1 w4 H0 H1 vW L vA LA cb N vg Ga vh Gb i v c k w) (hb : Below w.heap.size w w') : Q11 W w1 w4 H0 H1 vW L vA LA cb N vg Ga vh Gb i v c k w' := ⟨h.1.kept hb, h.2.1.kept hb, h.2.2.kept hb⟩
theorem Q8.opena (h : Q8 W w1 w4 H0 vW L vA LA cb N vg Ga vh Gb w) (v : Value) (hv : L[Ga.length]? = some v) : Q9 W w1 w4 H0 w.heap.size vW L vA LA cb N vg Ga vh Gb Ga.length v v 0 w := ⟨h.1, Und.begin h.2.1 v hv (fun u hu g hg => h.2.1.glt u hu g hg), h.2.2⟩
theorem Q8.openb (h : Q8 W w1 w4 H0 vW L vA LA cb N vg Ga vh Gb w) (v : Value) (hv : LA[Gb.length]? = some v) : Q11 W w1 w4 H0 w.heap.size vW L vA LA cb N vg Ga vh Gb Gb.length v v 0 w := ⟨h.1, Und.begin h.2.2 v hv (fun u hu g hg => h.2.2.glt u hu g hg), h.2.1⟩
theorem Q9.more {i k : Nat} {v c c' : Value} (h : Q9 W w1 w4 H0 H1 vW L vA LA cb N vg Ga vh Gb i v c k w) (hk : ∀ v ∈ L, ∀ g, v.ownBlock = some g → g < w1.heap.size ∨ w4.heap.size ≤ g) (hL : Ga.length ≤ L.length) (k1 : w.grownBy w' c.ownBlock) (hc : Mk 9 (wcs i) W.heap.size w' c' (2 + k + 1)) (hat : c'.ownBlock = c.ownBlock ∨ c'.ownBlock = some w.heap.size) (hkeep : ∀ (u : Value) (k' : Nat), Mk 9 (wcs i) W.heap.size w u k' → Mk 9 (wcs i) W.heap.size w' u k') :
    Q9 W w1 w4 H0 H1 vW L vA LA cb N vg Ga vh Gb i v c' (k + 1) w' := und_more h.1 h.2.1 h.2.2 (by decide) (by decide) (by decide) hk hL k1 hc hat hkeep
theorem Q11.more {i k : Nat} {v c c' : Value} (h : Q11 W w1 w4 H0 H1 vW L vA LA cb N vg Ga vh Gb i v c k w) (hk : ∀ v ∈ LA, ∀ g, v.ownBlock = some g → g < w1.heap.size ∨ w4.heap.size ≤ g) (hL : Gb.length ≤ LA.length) (k1 : w.grownBy w' c.ownBlock) (hc : Mk 24 (cb i) W.heap.size w' c' (N + k + 1)) (hat : c'.ownBlock = c.ownBlock ∨ c'.ownBlock = some w.heap.size) (hkeep : ∀ (u : Value) (k' : Nat), Mk 24 (cb i) W.heap.size w u k' → Mk 24 (cb i) W.heap.size w' u k') :
    Q11 W w1 w4 H0 H1 vW L vA LA cb N vg Ga vh Gb i v c' (k + 1) w' := und_more h.1 h.2.1 h.2.2 (by decide) (by decide) (by decide) hk hL k1 hc hat hkeep
theorem Q9.shut {i : Nat} {v c vg' : Value} (h : Q9 W w1 w4 H0 H1 vW L vA LA cb N vg Ga vh Gb i v c 20 w) (kk : w.grownBy w' vg.ownBlock) (hr : w'.ownsRow H0 53 1 vg' (Ga.length + 1) (Ga ++ [c])) : Q8 W w1 w4 H0 vW L vA LA cb N vg' (Ga ++ [c]) vh Gb w' :=
  ⟨h.1.moreg (by decide) kk hr, h.2.1.done.kind h.1.rg (by decide) kk, h.2.2.kind h.1.rg (by decide) kk⟩
theorem Q11.shut {i : Nat} {v c vh' : Value} (h : Q11 W w1 w4 H0 H1 vW L vA LA cb N vg Ga vh Gb i v c 20 w) (kk : w.grownBy w' vh.ownBlock) (hr : w'.ownsRow H0 28 1 vh' (Gb.length + 1) (Gb ++ [c])) : Q8 W w1 w4 H0 vW L vA LA cb N vg Ga vh' (Gb ++ [c]) w' :=
  ⟨h.1.moreh (by decide) kk hr, h.2.2.kind h.1.rh (by decide) kk, h.2.1.done.kind h.1.rh (by decide) kk⟩
end
/-- a cell of a list's own row -/
theorem own_at {B : Nat} {w : World} {t : TypeId} {g n m cap k : Nat} {xs : List Value} {u : Value} (h : w.ownsRow B t 1 (.slice (some ⟨g, 0, none⟩) n cap) m xs) (hu : xs[k]? = some u) : w.cell? ⟨g, k, none⟩ = some u := by
  obtain ⟨a9, c9, e9, -, -, h9⟩ := row_cells h
  obtain ⟨g', h8, h7⟩ := h9 k u hu
  simp only [Value.slice.injEq] at e9
  have h6 := e9.1.trans h8
  simp only [Option.some.injEq, Addr.mk.injEq, and_true] at h6
  rw [h6]
  exact h7
/-- a word of a list of marks -/
theorem mk_word {B : Nat} {w : World} {j n p : Nat} {v : Value} (h : Mk 9 (wcs j) B w v n) (hp : p < n) : ∃ g, ∃ cap : Nat, v = .slice (some ⟨g, 0, none⟩) n cap ∧ n ≤ cap ∧ cap ≤ maxLen ∧ w.cell? ⟨g, p, none⟩ = some (.string (wrd j)) := by
  have h2 : w.ownsRow B 9 1 v n (pat (wcs j) n) := h
  obtain ⟨a, c, rfl, h3, h4, h5⟩ := row_cells h2
  have h6 : (pat (wcs j) n)[p]? = some (.string (wrd j)) := by
    rw [pat_get _ _ _ (by simpa [wcs] using hp)]
    simp [wcs, Nat.mod_one]
  obtain ⟨g, rfl, h7⟩ := h5 p _ h6
  exact ⟨g, c, rfl, h3, h4, h7⟩
/-- the first cell of an element of a list of marks -/
theorem mk_first {B : Nat} {w : World} {e : TypeId} {cs : List Value} {n p : Nat} {v u : Value} (h : Mk e cs B w v n) (hp : p < n) (h0 : cs[0]? = some u) : ∃ g, ∃ cap : Nat, v = .slice (some ⟨g, 0, none⟩) n cap ∧ n ≤ cap ∧ cap ≤ maxLen ∧ w.cell? ⟨g, p * cs.length, none⟩ = some u := by
  have hl : 0 < cs.length := (List.getElem?_eq_some_iff.1 h0).1
  have hpn : p * cs.length < n * cs.length := Nat.mul_lt_mul_of_pos_right hp hl
  rcases h.2 with ⟨rfl, h2⟩ | ⟨g, cap, cur, rfl, _, hh, h1, h2, _, _⟩
  · omega
  · refine ⟨g, cap, rfl, h1, h2, ?_⟩
    have h9 := World.ownsRow.cellAt h (p * cs.length) hpn
    rw [h9, pat_get _ _ _ hpn, Nat.mul_mod_left]
    exact h0
/-- a list's own row that is not empty -/
theorem row_head {B : Nat} {w : World} {t : TypeId} {s n : Nat} {v : Value} {xs : List Value} (h : w.ownsRow B t s v n xs) (hn : 0 < n) : ∃ g, ∃ cap : Nat, v = .slice (some ⟨g, 0, none⟩) n cap ∧ n ≤ cap ∧ cap ≤ maxLen := by
  rcases h.2 with ⟨rfl, h2⟩ | ⟨g, cap, cur, rfl, _, _, h1, h2, _⟩
  · omega
  · exact ⟨g, cap, rfl, h1, h2⟩
end Go.Proofs.YtfnfdbmckpklmaaDoor
