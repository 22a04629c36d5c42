/-
  DiskLasts: words in memory; place, less, begins, known.
-/
import Derived.Test.YtjepeeopjjnglaaDl1
import Derived.Test.YtjepeeopjjnglaaDr0
import Derived.Test.YtjepeeopjjnglaaDkd
import Derived.Test.YtjepeeopjjnglaaDki
import Derived.Deep.RegionHeld3
namespace Go.Proofs.Ytjepeeopjjnglaa
open Go Go.RowKit Go.ChangeShapes
open Wb
open Rd
/-- a word, and where its bytes lie -/
abbrev WE := Dk.Wd × (Value × Value × Value)
def enW (x : WE) : List Value := [enS x.1.name, x.2.1, x.2.2.1, .bool x.1.hasN, x.2.2.2, .bool x.1.hasS]
theorem enW_len (x : WE) : (enW x).length = 6 := rfl
theorem tiW : TI 99 68 6 := ti_of (z := .agg #[.string ⟨#[]⟩, .slice none 0 0, .slice none 0 0, .bool false, .slice none 0 0, .bool false]) (k := 104) Try.underlying68 (by kernel_rfl) rfl (by decide) (by decide)
/-- the blocks of a slice -/
def Kb (K : Nat → Prop) (v : Value) : Prop := ∀ q off n c, v = .slice (some ⟨q, off, none⟩) n c → K q
/-- a word's bytes in memory -/
structure WB (K : Nat → Prop) (w : World) (x : WE) : Prop where
  d : Bs w x.2.1 x.1.data
  n : Bs w x.2.2.1 x.1.next
  s : Bs w x.2.2.2 x.1.sure
  kd : Kb K x.2.1
  kn : Kb K x.2.2.1
  ks : Kb K x.2.2.2
/-- words in memory -/
structure WM (B : Nat) (K : Nat → Prop) (w : World) (v : Value) (xs : List WE) : Prop where
  row : w.ownsRow B 99 6 v xs.length (xs.flatMap enW)
  wb : ∀ x ∈ xs, WB K w x
section
variable {B : Nat} {K K2 : Nat → Prop} {w w' : World} {v : Value} {xs : List WE} {x : WE}
theorem WB.blk (h : WB K w x) (hb : ∀ q, K q → q < w.heap.size → w'.heap[q]? = w.heap[q]?) : WB K w' x :=
  ⟨bs_blk h.d fun q ⟨o, n, c, e⟩ hl => hb q (h.kd q o n c e) hl, bs_blk h.n fun q ⟨o, n, c, e⟩ hl => hb q (h.kn q o n c e) hl, bs_blk h.s fun q ⟨o, n, c, e⟩ hl => hb q (h.ks q o n c e) hl, h.kd, h.kn, h.ks⟩
theorem WB.mono (h : WB K w x) (hm : ∀ q, K q → K2 q) : WB K2 w x := ⟨h.d, h.n, h.s, fun q o n c e => hm q (h.kd q o n c e), fun q o n c e => hm q (h.kn q o n c e), fun q o n c e => hm q (h.ks q o n c e)⟩
theorem WM.blk (h : WM B K w v xs) (hb : ∀ q, (K q ∨ v.ownBlock = some q) → q < w.heap.size → w'.heap[q]? = w.heap[q]?) : WM B K w' v xs := ⟨Mg.row_block h.row fun q e => hb q (.inr e) (World.ownsRow.lt h.row q e).2, fun x hx => (h.wb x hx).blk fun q e => hb q (.inl e)⟩
theorem WM.kept (h : WM B K w v xs) (hb : Below w.heap.size w w') : WM B K w' v xs := h.blk fun q _ hq => hb.block q hq
theorem WM.mono (h : WM B K w v xs) (hm : ∀ q, K q → K2 q) : WM B K2 w v xs := ⟨h.row, fun x hx => (h.wb x hx).mono hm⟩
theorem WM.nil (B : Nat) (K : Nat → Prop) (w : World) : WM B K w (.slice none 0 0) [] := ⟨World.ownsRow_nil _ _ _ _, fun x hx => by cases hx⟩
theorem WB.sh (h : WB K w x) : ∃ a1 n1 c1 a2 n2 c2 a3 n3 c3, x.2.1 = .slice a1 n1 c1 ∧ x.2.2.1 = .slice a2 n2 c2 ∧ x.2.2.2 = .slice a3 n3 c3 := by
  obtain ⟨a1, c1, e1, -⟩ := h.d.shape
  obtain ⟨a2, c2, e2, -⟩ := h.n.shape
  obtain ⟨a3, c3, e3, -⟩ := h.s.shape
  exact ⟨_, _, _, _, _, _, _, _, _, e1, e2, e3⟩
theorem WB.one (h : WB K w x) : ∀ u ∈ enW x, u.oneCell' = true := fun u hu => by
  obtain ⟨a1, n1, c1, a2, n2, c2, a3, n3, c3, e1, e2, e3⟩ := h.sh
  simp only [enW, e1, e2, e3, List.mem_cons, List.not_mem_nil, or_false] at hu
  rcases hu with rfl | rfl | rfl | rfl | rfl | rfl <;> rfl
/-- a word is appended -/
theorem WM.app (h : WM B K w v xs) (x : WE) (hx : WB K w x) (g k : Nat) (hc : LB w g 99 (enW x)) (hmax : xs.length ≤ 900000000) (hB : B ≤ w.heap.size) (hv : ∀ q, v.ownBlock = some q → ¬ K q) : ∃ v' w', (Builtin.append_ #[68, 68] 68 #[v, .slice (some ⟨g, 0, none⟩) 1 k]).run Try.prog w = .ok v' w' ∧ WM B K w' v' (xs ++ [x]) ∧ w.grownBy w' v.ownBlock ∧ Below B w w' := by
  obtain ⟨v', w', hr, h1, h2, h3⟩ := row_app1 tiW enW_len h.row x g k hx.one hc hmax hB 68
  have hb : ∀ q, K q → q < w.heap.size → w'.heap[q]? = w.heap[q]? := fun q hq hl => h2.block q hl fun e => hv q e.symm hq
  refine ⟨v', w', hr, ⟨h1, fun y hy => ?_⟩, h2, h3⟩
  rcases List.mem_append.1 hy with e | e
  · exact (h.wb y e).blk hb
  · rw [List.mem_singleton.1 e]
    exact hx.blk hb
theorem WM.cells {b c : Nat} (h : WM B K w (.slice (some ⟨b, 0, none⟩) xs.length c) xs) (k : Nat) (hk : k < xs.length) : w.cell? ⟨b, k * 6, none⟩ = some (enS xs[k].1.name) ∧ w.cell? ⟨b, k * 6 + 1, none⟩ = some xs[k].2.1 ∧ w.cell? ⟨b, k * 6 + 2, none⟩ = some xs[k].2.2.1 ∧ w.cell? ⟨b, k * 6 + 3, none⟩ = some (.bool xs[k].1.hasN) ∧ w.cell? ⟨b, k * 6 + 4, none⟩ = some xs[k].2.2.2 ∧ w.cell? ⟨b, k * 6 + 5, none⟩ = some (.bool xs[k].1.hasS) :=
  ⟨row_cell enW_len h.row k hk 0 (by decide), row_cell enW_len h.row k hk 1 (by decide), row_cell enW_len h.row k hk 2 (by decide), row_cell enW_len h.row k hk 3 (by decide), row_cell enW_len h.row k hk 4 (by decide), row_cell enW_len h.row k hk 5 (by decide)⟩
end
theorem wstr_beq {a b : List UInt8} (h : a = b) : (a == b) = true := by
  rw [h]
  exact beq_self_eq_true _
theorem wstr_bne {a b : List UInt8} (h : a ≠ b) : (a == b) = false := beq_eq_false_iff_ne.2 h
/-- a place as a number -/
def plcI (l : List Dk.Wd) (s : List UInt8) : Int := match Dk.plc l s with
  | none => -1
  | some i => (i : Int)
set_option maxRecDepth 100000 in
set_option maxHeartbeats 4000000 in
theorem dlplace_any (B : Nat) (K : Nat → Prop) (v : Value) (xs : List WE) (s : List UInt8) (w : World) (h : WM B K w v xs) :
    Calls Try.prog 56 #[v, .string ⟨s.toArray⟩] w fun e w' => e = .returned (.int .i64 (plcI (xs.map (·.1)) s)) ∧ w' = w := by
  have HV : Hid (WM B K w v xs) := h
  obtain ⟨a, c, e, h1, h2, h3⟩ := row_at h.row
  subst e
  unfold maxLen at h2
  clear h
  go_enter Try.func56, Try.ntmps56
  go_wp2_with fail
  go_loopw [5] (fun i wr => ∃ k : Nat, k ≤ xs.length ∧ i = .int .i64 (k : Int) ∧ wr = w ∧ ∀ j (_ : j < k) (h2 : j < xs.length), xs[j].1.name ≠ s) (fun i _ => xs.length - (intOf i).toNat)
  case atStart => exact ⟨0, Nat.zero_le _, rfl, rfl, fun j hj => by omega⟩
  case round =>
    obtain ⟨k, hk, rfl, rfl, hn⟩ := hrel
    have HN : Hid (∀ j (_ : j < k) (h2 : j < xs.length), xs[j].1.name ≠ s) := hn
    clear hn
    by_cases hlt : k < xs.length
    · obtain ⟨b, hb⟩ := h3 (List.ne_nil_of_length_pos (by omega))
      subst hb
      obtain ⟨y0, -⟩ := HV.out.cells k hlt
      unfold enS at y0
      by_cases e : xs[k].1.name = s
      · have hq : (xs[k].1.name == s) = true := wstr_beq e
        have HF : Hid (plcI (xs.map (·.1)) s = (k : Int)) := by
          show plcI _ _ = _
          unfold plcI
          rw [Dk.plc_of (i := k) (by simpa using hlt) (by simpa using e) fun j h1 h2 => by
            have h9 := HN.out j h1 (by simpa using h2)
            simpa using h9]
        generalize xs[k].1.name = n1 at *
        clear e
        go_wp2_with fail
        go_returns
        exact ⟨by rw [HF.out]; rfl, rfl⟩
      · have hq : (xs[k].1.name == s) = false := wstr_bne e
        have HE : Hid (∀ j (_ : j < k + 1) (h2 : j < xs.length), xs[j].1.name ≠ s) := fun j hj h2 => by
          by_cases e2 : j = k
          · subst e2
            exact e
          · exact HN.out j (by omega) h2
        generalize xs[k].1.name = n1 at *
        clear e
        go_wp2_with fail
        go_roundw
        case rel => exact ⟨k + 1, by omega, by go_num, trivial, HE.out⟩
        case measure => simp [intOf]; omega
    · have HF : Hid (plcI (xs.map (·.1)) s = -1) := by
        show plcI _ _ = _
        unfold plcI
        rw [Dk.plc_out fun j h2 => by
          have h9 := HN.out j (by have : j < xs.length := by simpa using h2
                                  omega) (by simpa using h2)
          simpa using h9]
      go_wp2_with fail
      go_returns
      exact ⟨by rw [HF.out]; rfl, rfl⟩
/-- the words but that of a name -/
def lsE (xs : List WE) (s : List UInt8) : List WE := xs.filter fun x => !(x.1.name == s)
theorem lsE_map (s : List UInt8) : ∀ xs : List WE, (lsE xs s).map (·.1) = Dk.lss (xs.map (·.1)) s
  | [] => rfl
  | x :: r => by
    have ih := lsE_map s r
    unfold lsE Dk.lss at ih ⊢
    rw [List.map_cons, List.filter_cons, List.filter_cons]
    split
    · rw [List.map_cons, ih]
    · exact ih
theorem lsE_snoc (xs : List WE) (x : WE) (s : List UInt8) : lsE (xs ++ [x]) s = if x.1.name = s then lsE xs s else lsE xs s ++ [x] := by
  unfold lsE
  rw [List.filter_append]
  by_cases e : x.1.name = s
  · rw [if_pos e]
    simp [e]
  · rw [if_neg e]
    simp [e]
theorem lsE_len (xs : List WE) (s : List UInt8) : (lsE xs s).length ≤ xs.length := List.length_filter_le _ _
theorem lsE_mem {xs : List WE} {s : List UInt8} {x : WE} (h : x ∈ lsE xs s) : x ∈ xs := (List.mem_filter.1 h).1
set_option maxRecDepth 100000 in
set_option maxHeartbeats 4000000 in
theorem dlless_any (B : Nat) (K : Nat → Prop) (v : Value) (xs : List WE) (s : List UInt8) (w : World) (h : WM B K w v xs) (hl : xs.length ≤ 500000000) (hK : ∀ q, K q → q < w.heap.size) :
    Calls Try.prog 57 #[v, .string ⟨s.toArray⟩] w fun e w' => ∃ v', e = .returned v' ∧ WM w.heap.size K w' v' (lsE xs s) ∧ Below w.heap.size w w' := by
  have HV : Hid (∀ W, Below w.heap.size w W → WM B K W v xs) := fun W hW => h.kept hW
  have HK : Hid (∀ q, K q → q < w.heap.size) := hK
  obtain ⟨a, c, e, h1, h2, h3⟩ := row_at h.row
  subst e
  unfold maxLen at h2
  clear h hK
  go_enter Try.func57, Try.ntmps57
  go_wp2_with fail
  go_loopw [5, 6] (fun o i wr => ∃ k : Nat, k ≤ xs.length ∧ i = .int .i64 (k : Int) ∧ WM w.heap.size K wr o (lsE (xs.take k) s) ∧ Below w.heap.size w wr) (fun _ i _ => xs.length - (intOf i).toNat)
  case atStart => exact ⟨0, Nat.zero_le _, rfl, WM.nil _ _ _, Below.refl _ _⟩
  case round =>
    obtain ⟨k, hk, rfl, ho, hb⟩ := hrel
    have HO : Hid (WM w.heap.size K wr u5 (lsE (xs.take k) s) ∧ Below w.heap.size w wr) := ⟨ho, hb⟩
    clear ho hb
    by_cases hlt : k < xs.length
    · obtain ⟨b, hb⟩ := h3 (List.ne_nil_of_length_pos (by omega))
      subst hb
      have hwm := HV.out wr HO.out.2
      obtain ⟨y0, y1, y2, y3, y4, y5⟩ := hwm.cells k hlt
      have hwb := hwm.wb _ (List.getElem_mem hlt)
      have HT : Hid (xs.take (k + 1) = xs.take k ++ [xs[k]]) := List.take_succ_eq_append_getElem hlt
      obtain ⟨x, hx⟩ : ∃ x, x = xs[k] := ⟨_, rfl⟩
      rw [← hx] at y0 y1 y2 y3 y4 y5 hwb HT
      obtain ⟨a1, n1, c1, a2, n2, c2, a3, n3, c3, e1, e2, e3⟩ := hwb.sh
      obtain ⟨⟨xn, xd, xx, xb, xs9, xc⟩, v1, v2, v3⟩ := x
      simp only at e1 e2 e3 y0 y1 y2 y3 y4 y5
      subst e1 e2 e3
      unfold enS at y0
      have HWB : Hid (WB K wr (⟨xn, xd, xx, xb, xs9, xc⟩, .slice a1 n1 c1, .slice a2 n2 c2, .slice a3 n3 c3)) := hwb
      clear hx hwm hwb
      by_cases e : xn = s
      · have hq := wstr_beq e
        have HD : Hid (lsE (xs.take (k + 1)) s = lsE (xs.take k) s) := by
          show lsE (xs.take (k + 1)) s = _
          rw [HT.out, lsE_snoc, if_pos e]
        clear e
        go_wp2_with fail
        go_roundw
        case rel => exact ⟨k + 1, by omega, by go_num, by rw [HD.out]; exact HO.out.1, HO.out.2⟩
        case measure => simp [intOf]; omega
      · have hq := wstr_bne e
        have HD : Hid (lsE (xs.take (k + 1)) s = lsE (xs.take k) s ++ [(⟨xn, xd, xx, xb, xs9, xc⟩, .slice a1 n1 c1, .slice a2 n2 c2, .slice a3 n3 c3)]) := by
          show lsE (xs.take (k + 1)) s = _
          rw [HT.out, lsE_snoc, if_neg e]
        have b1 := up0 wr (.cells #[.string ⟨xn.toArray⟩, .slice a1 n1 c1, .slice a2 n2 c2, .bool xb, .slice a3 n3 c3, .bool xc] 99)
        obtain ⟨v', W2, hr, g3, -, g4⟩ := (HO.out.1.kept b1).app (⟨xn, xd, xx, xb, xs9, xc⟩, .slice a1 n1 c1, .slice a2 n2 c2, .slice a3 n3 c3) (HWB.out.blk fun q _ hq => b1.block q hq) wr.heap.size 1 (lb_new wr [.string ⟨xn.toArray⟩, .slice a1 n1 c1, .slice a2 n2 c2, .bool xb, .slice a3 n3 c3, .bool xc] 99) (by have := lsE_len (xs.take k) s; rw [List.length_take] at this; omega) (Nat.le_trans HO.out.2.size b1.size) (fun q e2 hq2 => by
          have h8 := (World.ownsRow.lt HO.out.1.row q e2).1
          have h9 := HK.out q hq2
          omega)
        have HX : Hid (WM w.heap.size K W2 v' (lsE (xs.take (k + 1)) s) ∧ Below w.heap.size w W2) := ⟨by rw [HD.out]; exact g3, (andThen HO.out.2 b1).trans g4⟩
        clear b1 g3 g4 e
        go_wp2_with (at_builtin; refine wpList_appRun rfl (.tmp 20) (.tmp 25) 68 rfl rfl rfl hr ?_)
        clear hr
        go_wp2_with fail
        go_roundw
        case rel => exact ⟨k + 1, by omega, by go_num, HX.out.1, HX.out.2⟩
        case measure => simp [intOf]; omega
    · have hE : xs.take k = xs := List.take_of_length_le (by omega)
      have HE : Hid (xs.take k = xs) := hE
      clear hE
      go_wp2_with fail
      go_returns
      have h9 := HO.out
      rw [HE.out] at h9
      exact ⟨_, rfl, h9.1, h9.2⟩
end Go.Proofs.Ytjepeeopjjnglaa
