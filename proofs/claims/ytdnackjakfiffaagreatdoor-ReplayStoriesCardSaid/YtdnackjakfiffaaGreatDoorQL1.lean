import Derived.Test.YtdnackjakfiffaaGreatDoorChecked
import Derived.Deep.MidRow
import Derived.Laws.AppendOwnNone
import Derived.Maps.AppendAt
import Derived.WalkSpells
import Derived.WalkLawsBesides
import Derived.OwnWalk
import Derived.Deep.QuietTactic
import Derived.BigQuiet
import Derived.WalkSmall
import Derived.Deep.RegionHeldLaw
import Derived.Laws.EntriesVeiled
import Derived.Test.YtdnackjakfiffaaGreatDoorRows
import Derived.Lib.LaidU8
import Derived.ChangeMaps5
import Derived.ProofKit
import Derived.OpenShut
import Derived.ShutString
import Derived.ChangeOld
import Derived.Deep.DeepHandedRow
import Derived.Deep.Strs
/-
  Package lift: what a way does.
-/
namespace Go.Proofs.YtdnackjakfiffaaGreatDoor.Lft
open Go Go.RowKit

theorem up {w w1 : World} (h : Below w.heap.size w w1) (o : Obj) : Below w.heap.size w (w1.alloc o) := h.alloc h.size o
theorem andThen {w w1 w2 : World} (h : Below w.heap.size w w1) (k : Below w1.heap.size w1 w2) : Below w.heap.size w w2 := h.trans (k.mono h.size)
theorem up0 (w : World) (o : Obj) : Below w.heap.size w (w.alloc o) := up (Below.refl _ _) o
theorem isV_any (v : Int) (w : World) : Calls Tryz.prog 49 #[.int .i64 v] w fun e w' => e = .returned (.bool (decide (1 ≤ v) && decide (v ≤ 3))) ∧ w' = w := by
  by_cases h1 : 1 ≤ v
  · have H1 : Hid ((decide (1 ≤ v) && decide (v ≤ 3)) = decide (v ≤ 3)) := by show _ = _; rw [decide_eq_true h1, Bool.true_and]
    rw [H1.out]
    go_enter Tryz.func49, Tryz.ntmps49
    go_wp2
    go_ret
    exact ⟨rfl, rfl⟩
  · have H1 : Hid ((decide (1 ≤ v) && decide (v ≤ 3)) = false) := by show _ = _; rw [decide_eq_false h1, Bool.false_and]
    rw [H1.out]
    go_enter Tryz.func49, Tryz.ntmps49
    go_wp2
    go_ret
    exact ⟨rfl, rfl⟩
theorem infoI : ∃ i, Tryz.prog.info? 3 = some i ∧ i.size = 1 := by
  have h : (Tryz.prog.info? 3).map (·.size) = some 1 := by kernel_rfl
  cases hq : Tryz.prog.info? 3 with
  | none => rw [hq] at h; simp at h
  | some i => rw [hq] at h; exact ⟨i, rfl, by simpa using h⟩
set_option maxRecDepth 100000 in
/-- two arrays of two numbers -/
theorem eq2 (a1 a2 b1 b2 : Int) (w : World) :
    (Op.equalIn 10000 120 (.agg #[.int .i64 a1, .int .i64 a2]) (.agg #[.int .i64 b1, .int .i64 b2])).run Tryz.prog w = .ok (decide (a1 = b1 ∧ a2 = b2)) w := by
  obtain ⟨i, hi, hs⟩ := infoI
  have hagg : ∀ w', (isAgg 3).run Tryz.prog w' = .ok false w' := fun w' => by
    unfold isAgg
    rw [Sem.run_bind, run_underlying Tryz.underlying3 w']
    rfl
  have hel : ∀ a b w', (Op.equalIn 9999 3 (.int .i64 a) (.int .i64 b)).run Tryz.prog w' = .ok (a == b) w' := fun a b w' => run_equalIn_int w' 9998 3 .i64 .i64 a b Tryz.underlying3
  unfold Op.equalIn
  simp [run_underlying Tryz.underlying120, sizeOf, typeInfo, hi, hs, part, hagg, Std.Legacy.Range.forIn_eq_forIn_range', List.range', hel, go_sem]
  repeat' split
  all_goals simp_all
/-- the ways -/
def wF (k : Nat) : Int := if k = 0 then 1 else if k = 1 then 2 else if k = 2 then 3 else 2
def wT (k : Nat) : Int := if k = 0 then 2 else if k = 1 then 3 else if k = 2 then 2 else 1
def wN (k : Nat) : ByteArray := ⟨if k = 0 then #[49, 116, 111, 50] else if k = 1 then #[50, 116, 111, 51] else if k = 2 then #[51, 116, 111, 50] else #[50, 116, 111, 49]⟩
set_option maxRecDepth 100000 in
set_option maxHeartbeats 1000000 in
theorem deed_any (k : Nat) (hk : k < 4) (nm : ByteArray) (w : World) :
    Calls Tryz.prog 69 #[.agg #[.int .i64 (wF k), .int .i64 (wT k), .string nm]] w fun e w' => e = .returned (.func (.func (82 + k)) #[] #[]) ∧ w' = w.alloc (.cells #[.int .i64 (wF k), .int .i64 (wT k), .string nm] 105) := by
  have hq := fun w' a1 a2 b1 b2 => eq2 a1 a2 b1 b2 w'
  obtain rfl | rfl | rfl | rfl : k = 0 ∨ k = 1 ∨ k = 2 ∨ k = 3 := by omega
  all_goals
    simp only [wF, wT]
    go_enter Tryz.func69, Tryz.ntmps69
    go_wp2
    go_ret
    exact ⟨rfl, rfl⟩
end Go.Proofs.YtdnackjakfiffaaGreatDoor.Lft

/-
  Package lift: walk.
-/
namespace Go.Proofs.YtdnackjakfiffaaGreatDoor.Lft
open Go Go.RowKit

theorem info_parts3 {P : Program} {t : TypeId} {z : Value} {a b : Nat} (h : (P.info? t).map (fun i => (i.zero, i.size, i.bytes)) = some (some z, a, b)) : ∃ i, P.info? t = some i ∧ i.zero = some z ∧ i.size = a ∧ i.bytes = b := by
  cases hq : P.info? t with
  | none => rw [hq] at h; simp at h
  | some i =>
    rw [hq] at h
    simp at h
    exact ⟨i, rfl, h.1, h.2.1, h.2.2⟩
def zStep : Value := .agg #[.string ⟨#[]⟩, .nilFunc]
theorem infoStep : ∃ i, Tryz.prog.info? 85 = some i ∧ i.zero = some zStep ∧ i.size = 2 ∧ i.bytes = 24 := by
  have h : (Tryz.prog.info? 85).map (fun i => (i.zero, i.size, i.bytes)) = some (some zStep, 2, 24) := by kernel_rfl
  exact info_parts3 h
theorem infoWay : (Tryz.prog.info? 105).map (·.size) = some 3 := by kernel_rfl
theorem infoWays : (Tryz.prog.info? 106).map (·.size) = some 12 := by kernel_rfl
/-- the cells of steps -/
def sc (l : List Nat) : List Value := l.flatMap fun k => [.string (wN k), .func (.func (82 + k)) #[] #[]]
theorem sc_len (l : List Nat) : (sc l).length = l.length * 2 := by
  induction l with
  | nil => rfl
  | cons a r ih => simp [sc] at ih ⊢; omega
/-- steps in a row of the call's own -/
def RoS (B : Nat) (w : World) (v : Value) (l : List Nat) : Prop := w.ownsRow B 85 2 v l.length (sc l)
theorem RoS.kept {B : Nat} {w w' : World} {v : Value} {l : List Nat} (h : RoS B w v l) (hb : Below w.heap.size w w') : RoS B w' v l := by
  refine ⟨h.1, ?_⟩
  rcases h.2 with h1 | ⟨g, cap, cur, rfl, h1, hg, rest⟩
  · exact .inl h1
  · exact .inr ⟨g, cap, cur, rfl, h1, (hb.block g (Array.getElem?_eq_some_iff.1 hg).1).trans hg, rest⟩
theorem RoS.shape {B : Nat} {w : World} {v : Value} {l : List Nat} (h : RoS B w v l) : ∃ ao cap, v = .slice ao l.length cap := by
  rcases h.2 with ⟨rfl, h1⟩ | ⟨g, cap, cur, rfl, _⟩
  · exact ⟨none, 0, by rw [h1]⟩
  · exact ⟨_, cap, rfl⟩
theorem roS_nil (B : Nat) (w : World) : RoS B w (.slice none 0 0) [] := ⟨rfl, .inl ⟨rfl, rfl⟩⟩
/-- the table of ways stands -/
def WaysT (w : World) : Prop := w.rangeAt 1 0 (((List.range 4).flatMap fun k => [.int .i64 (wF k), .int .i64 (wT k), .string (wN k)]))
set_option maxRecDepth 100000 in
theorem idx_way (k : Nat) (hk : k < 4) (w : World) : (Instr.index 106 (.agg ((List.range 4).flatMap fun k => [.int .i64 (wF k), .int .i64 (wT k), .string (wN k)]).toArray) (.int .i64 (k : Int))).run Tryz.prog w = .ok (.agg #[.int .i64 (wF k), .int .i64 (wT k), .string (wN k)]) w := by
  have hs := infoWay
  cases hq : Tryz.prog.info? 105 with
  | none => simp [hq] at hs
  | some inf =>
    have hz : inf.size = 3 := by simpa [hq] using hs
    obtain rfl | rfl | rfl | rfl : k = 0 ∨ k = 1 ∨ k = 2 ∨ k = 3 := by omega
    all_goals simp [Instr.index, run_underlying Tryz.underlying106, asIntOf, part, sizeOf, typeInfo, hq, hz, go_sem, List.range, List.range.loop]
theorem sc_append (l : List Nat) (k : Nat) : sc (l ++ [k]) = sc l ++ [.string (wN k), .func (.func (82 + k)) #[] #[]] := by simp [sc]
/-- append(v, s) of one step, in a region that draws its order -/
theorem step_push {P : Program} {ops : Array Oper} {o : Oper} {a : Act} {w : World} {K : Act → World → Prop} {Q : Exit → Act → World → Prop} {E : Prop} (hgd : o.guard = none) (s x : Operand) (t : TypeId)
    (ho : o.op = .call { callee := .builtin .append, args := #[s, x], argTypes := #[t, t] })
    (B : Nat) (hinfo : ∃ i, P.info? 85 = some i ∧ i.zero = some zStep ∧ i.size = 2 ∧ i.bytes = 24) (ht : P.underlying t = some (.slice 85))
    (v : Value) (l : List Nat) (hv : a.eval s = v) (h : RoS B w v l) (g : Nat) (k : Nat) (hx : a.eval x = .slice (some ⟨g, 0, none⟩) 1 1) (hc0 : w.cell? ⟨g, 0, none⟩ = some (.string (wN k))) (hc1 : w.cell? ⟨g, 1, none⟩ = some (.func (.func (82 + k)) #[] #[])) (hl : l.length ≤ 1000) (hB : B ≤ w.heap.size)
    (hK : ∀ v' w', RoS B w' v' (l ++ [k]) → w.grownBy w' v.ownBlock → K (a.put o.dst v') w') :
    if Region.wanted o (yielded ops a.tmps) = true then Oper.wp P o a w K Q else E := by
  have hw : Region.wanted o (yielded ops a.tmps) = true := by simp [Region.wanted, hgd]
  rw [if_pos hw]
  obtain ⟨i0, hi, hz0, hz1, hz2⟩ := hinfo
  obtain ⟨v', w', hrun, h1, h2, _⟩ := run_append_own (P := P) w B t o.type 85 i0 zStep 2 24 ht hi hz0 hz1 hz2 rfl (by decide) v l.length (sc l) h ⟨g, 0, none⟩ 1 1 [.string (wN k), .func (.func (82 + k)) #[] #[]] rfl (by
    intro j u hj
    rw [Addr.add_lit, Nat.zero_add]
    match j, hj with
    | 0, hj => rw [hc0]; simpa using hj
    | 1, hj => rw [hc1]; simpa using hj) (by intro u hu; simp at hu; rcases hu with rfl | rfl <;> rfl) (by unfold maxLen; omega) (by omega) hB
  unfold Oper.wp
  simp [execOp, ho, resolve, invoke, builtin, hv, hx, hrun, Result.andThen]
  refine hK v' w' ?_ h2
  show w'.ownsRow B 85 2 v' (l ++ [k]).length (sc (l ++ [k]))
  rw [List.length_append, sc_append]
  exact h1

/-- the state behind k ways: where one is, and which ways were gone -/
def go (f t : Int) : Nat → Int × List Nat
  | 0 => (f, [])
  | k + 1 => if (go f t k).1 ≠ t ∧ wF k = (go f t k).1 ∧ decide (wF k < wT k) = decide (f < t) then (wT k, (go f t k).2 ++ [k]) else go f t k
theorem go_len (f t : Int) : ∀ k, (go f t k).2.length ≤ k
  | 0 => Nat.le_refl _
  | k + 1 => by
    have := go_len f t k
    unfold go
    split
    · simp; omega
    · omega
theorem rng_alloc {w : World} {g o : Nat} {cs : List Value} (h : w.rangeAt g o cs) {w' : World} (hb : Below w.heap.size w w') : w'.rangeAt g o cs := fun m v hv =>
  (hb.cell (p := ⟨g, o + m, none⟩) (World.block_lt_of_cell? _ _ (h m v hv))).trans (h m v hv)

set_option maxRecDepth 100000 in
set_option maxHeartbeats 2000000 in
theorem walk_any (f t : Int) (w : World) (hT : WaysT w) :
    Calls Tryz.prog 51 #[.int .i64 f, .int .i64 t] w fun e w' => ∃ o, e = .returned o ∧ RoS w.heap.size w' o (go f t 4).2 ∧ Below w.heap.size w w' := by
  have hin := infoStep
  unfold WaysT at hT
  have HIX : Hid (∀ w' (k : Nat), k < 4 → (Instr.index 106 (.agg ((List.range 4).flatMap fun k => [.int .i64 (wF k), .int .i64 (wT k), .string (wN k)]).toArray) (.int .i64 (k : Int))).run Tryz.prog w' = .ok (.agg #[.int .i64 (wF k), .int .i64 (wT k), .string (wN k)]) w') := fun w' k hk => idx_way k hk w'
  have HN : Hid ((Tryz.prog.info? 106).map (·.size) = some ((List.range 4).flatMap fun k => [Value.int .i64 (wF k), .int .i64 (wT k), .string (wN k)]).length) := by show _ = _; exact infoWays
  generalize ((List.range 4).flatMap fun k => [Value.int .i64 (wF k), .int .i64 (wT k), .string (wN k)]) = D at *
  go_enter Tryz.func51, Tryz.ntmps51
  go_wp2_with (refine wpList_load_mid rfl 106 _ rfl 1 _ rfl D _ hT Tryz.underlying106 rfl HN.out ?_)
  clear hT HN
  go_loopw [5, 7, 15] (fun o c i wr => ∃ k : Nat, k ≤ 4 ∧ i = .int .i64 (k : Int) ∧ c = .int .i64 (go f t k).1 ∧ RoS w.heap.size wr o (go f t k).2 ∧ Below w.heap.size w wr) (fun _ _ i _ => 4 - (intOf i).toNat)
  case atStart => exact ⟨0, by omega, rfl, rfl, roS_nil _ _, Below.refl _ _⟩
  case round =>
    obtain ⟨k, hk, rfl, rfl, hro, hbel⟩ := hrel
    by_cases hlt : k < 4
    · have hix := fun w' => HIX.out w' k hlt
      have HD : Hid (∀ w', Calls Tryz.prog 69 #[.agg #[.int .i64 (wF k), .int .i64 (wT k), .string (wN k)]] w' fun e w'' => e = .returned (.func (.func (82 + k)) #[] #[]) ∧ w'' = w'.alloc (.cells #[.int .i64 (wF k), .int .i64 (wT k), .string (wN k)] 105)) := fun w' => deed_any k hlt _ w'
      have HGO : Hid (go f t (k + 1) = if (go f t k).1 ≠ t ∧ wF k = (go f t k).1 ∧ decide (wF k < wT k) = decide (f < t) then (wT k, (go f t k).2 ++ [k]) else go f t k) := rfl
      have HL : Hid ((go f t k).2.length ≤ k) := go_len f t k
      have HRR : Hid (∀ o, RoS w.heap.size (wr.alloc o) u5 (go f t k).2 ∧ Below w.heap.size w (wr.alloc o)) := fun o => ⟨hro.kept (up0 _ _), up hbel _⟩
      have hsz := hbel.size
      have HNE : Hid (some wr.heap.size ≠ u5.ownBlock) := fun e => absurd (World.ownsRow.lt hro _ e.symm).2 (Nat.lt_irrefl _)
      clear hro hbel HIX
      obtain ⟨ao, cap, rfl⟩ := ((HRR.out (.cells #[] 0)).1).shape
      generalize hG : go f t k = G at *
      obtain ⟨c, L⟩ := G
      simp only at HGO HL HRR
      have hll : L.length ≤ 1000 := by have := HL.out; omega
      by_cases h1 : c = t
      · subst h1
        have HG2 : Hid (go f c (k + 1) = (c, L)) := by show _ = _; rw [HGO.out, if_neg (by simp)]
        have d1 : (c != c) = false := by simp
        clear HGO HD HL
        go_wp2
        go_roundw
        case rel => exact ⟨k + 1, by omega, by go_num, by rw [HG2.out], by rw [HG2.out]; exact (HRR.out _).1, (HRR.out _).2⟩
        case measure => simp [intOf]; omega
      · have d1 : (c != t) = true := by rw [bne_iff_ne]; exact h1
        by_cases h2 : wF k = c
        · by_cases h3 : decide (wF k < wT k) = decide (f < t)
          · have HG2 : Hid (go f t (k + 1) = (wT k, L ++ [k])) := by show _ = _; rw [HGO.out, if_pos ⟨h1, h2, h3⟩]
            have d2 : (wF k == c) = true := by rw [h2]; exact beq_self_eq_true _
            have d3 : (decide (wF k < wT k) == decide (f < t)) = true := by rw [h3]; exact beq_self_eq_true _
            clear HGO HL h1 h2 h3 hG
            generalize decide (f < t) = e1 at *
            have HSP : Hid (∀ {ops : Array Oper} {o : Oper} {a : Act} {w1 : World} {K : Act → World → Prop} {Q : Exit → Act → World → Prop} {E : Prop} (_ : o.guard = none) (s x : Operand)
                (_ : o.op = .call { callee := .builtin .append, args := #[s, x], argTypes := #[82, 82] }) (_ : a.eval s = .slice ao L.length cap) (_ : RoS w.heap.size w1 (.slice ao L.length cap) L) (g : Nat) (_ : a.eval x = .slice (some ⟨g, 0, none⟩) 1 1) (_ : w1.cell? ⟨g, 0, none⟩ = some (.string (wN k))) (_ : w1.cell? ⟨g, 1, none⟩ = some (.func (.func (82 + k)) #[] #[])) (_ : w.heap.size ≤ w1.heap.size)
                (_ : ∀ v' w', RoS w.heap.size w' v' (L ++ [k]) → w1.grownBy w' (Value.slice ao L.length cap).ownBlock → K (a.put o.dst v') w'), if Region.wanted o (yielded ops a.tmps) = true then Oper.wp Tryz.prog o a w1 K Q else E) := fun hgd s x ho hv h g hx hc0 hc1 hB hK => step_push hgd s x _ ho w.heap.size hin Tryz.underlying82 _ L hv h g k hx hc0 hc1 hll hB hK
            generalize wF k = a at *
            generalize wT k = b at *
            generalize wN k = nm at *
            clear hin
            go_wp2
            have HR := HRR.out (.cells #[.int .i64 a, .int .i64 b, .string nm] 105)
            have cc0 : (wr.alloc (.cells #[.int .i64 a, .int .i64 b, .string nm] 105)).cell? ⟨wr.heap.size, 0, none⟩ = some (.int .i64 a) := by rw [World.cell?_alloc_new]; rfl
            have cc1 : (wr.alloc (.cells #[.int .i64 a, .int .i64 b, .string nm] 105)).cell? ⟨wr.heap.size, 1, none⟩ = some (.int .i64 b) := by rw [World.cell?_alloc_new]; rfl
            have cc2 : (wr.alloc (.cells #[.int .i64 a, .int .i64 b, .string nm] 105)).cell? ⟨wr.heap.size, 2, none⟩ = some (.string nm) := by rw [World.cell?_alloc_new]; rfl
            generalize wr.alloc (.cells #[.int .i64 a, .int .i64 b, .string nm] 105) = W1 at *
            generalize wr.heap.size = g at *
            obtain ⟨hr, hb⟩ := HR
            have HRK : Hid (∀ w', Below W1.heap.size W1 w' → RoS w.heap.size w' (.slice ao L.length cap) L ∧ Below w.heap.size w w') := fun w' h => ⟨hr.kept h, andThen hb h⟩
            clear hr hb HRR
            go_region_held_law (fun w' => w'.cell? ⟨g, 0, none⟩ = some (.int .i64 a) ∧ w'.cell? ⟨g, 1, none⟩ = some (.int .i64 b) ∧ w'.cell? ⟨g, 2, none⟩ = some (.string nm)) (first | go_keep | (refine ⟨hg3.cell (a := ⟨g, 0, none⟩) ?_ HNE.out, hg3.cell (a := ⟨g, 1, none⟩) ?_ HNE.out, hg3.cell (a := ⟨g, 2, none⟩) ?_ HNE.out⟩ <;> simp [*]))
              (first
                | (go_at_call 69; refine (HD.out _).mono ?_; rintro e w2 ⟨rfl, rfl⟩)
                | (refine HSP.out rfl (.tmp 36) (.tmp 42) rfl (by simp [Act.eval]) (HRK.out _ (up (up (Below.drew (Below.refl _ _)) _) _)).1 _ (by simp [Act.eval]) (World.cell?_alloc_new _ _ _ 0) (World.cell?_alloc_new _ _ _ 1) (HRK.out _ (up (up (Below.drew (Below.refl _ _)) _) _)).2.size ?_; intro v3 w3 hr3 hg3))
            have b3 : Below w.heap.size w w3 := by
              have h := HRK.out _ (up (up (Below.drew (Below.refl _ W1)) (.cells #[.int .i64 a, .int .i64 b, .string nm] 105)) (.cells #[.string nm, .func (.func (82 + k)) #[] #[]] 85))
              exact h.2.grown hg3 h.2.size (fun j hj => (World.ownsRow.lt h.1 j hj).1)
            have q1 := hg3.cell (a := ⟨g, 1, none⟩) (v := .int .i64 b) (by simp [*, World.cell?_alloc_some]) HNE.out
            have HRR3 : Hid (RoS w.heap.size w3 v3 (L ++ [k])) := hr3
            clear hg3 hr3 HRK cc0 cc1 cc2 HNE HSP HD
            go_wp2
            go_roundw
            case rel => exact ⟨k + 1, by omega, by go_num, by rw [HG2.out], by rw [HG2.out]; exact HRR3.out, b3⟩
            case measure => simp [intOf]; omega
          · have HG2 : Hid (go f t (k + 1) = (c, L)) := by show _ = _; rw [HGO.out, if_neg (fun h => h3 h.2.2)]
            have d2 : (wF k == c) = true := by rw [h2]; exact beq_self_eq_true _
            have d3 : (decide (wF k < wT k) == decide (f < t)) = false := by rw [beq_eq_false_iff_ne]; exact h3
            clear HGO HD HL h1 h2 h3
            generalize decide (f < t) = e1 at *
            generalize wF k = a at *
            generalize wT k = b at *
            generalize wN k = nm at *
            go_wp2
            go_roundw
            case rel => exact ⟨k + 1, by omega, by go_num, by rw [HG2.out], by rw [HG2.out]; exact (HRR.out _).1, (HRR.out _).2⟩
            case measure => simp [intOf]; omega
        · have HG2 : Hid (go f t (k + 1) = (c, L)) := by show _ = _; rw [HGO.out, if_neg (fun h => h2 h.2.1)]
          have d2 : (wF k == c) = false := by rw [beq_eq_false_iff_ne]; exact h2
          clear HGO HD HL h1 h2
          generalize decide (f < t) = e1 at *
          generalize wF k = a at *
          generalize wT k = b at *
          generalize wN k = nm at *
          go_wp2
          go_roundw
          case rel => exact ⟨k + 1, by omega, by go_num, by rw [HG2.out], by rw [HG2.out]; exact (HRR.out _).1, (HRR.out _).2⟩
          case measure => simp [intOf]; omega
    · obtain rfl : k = 4 := by omega
      go_wp2
      go_ret
      exact ⟨_, rfl, hro, hbel⟩
end Go.Proofs.YtdnackjakfiffaaGreatDoor.Lft

/-
  Package lift: Steps; the law's sameWords.
-/
namespace Go.Proofs.YtdnackjakfiffaaGreatDoor.Lft
open Go Go.RowKit

theorem infoStr : ∃ i, Tryz.prog.info? 9 = some i ∧ i.zero = some (.string ⟨#[]⟩) ∧ i.size = 1 ∧ i.bytes = 16 := by
  have h : (Tryz.prog.info? 9).map (fun i => (i.zero, i.size, i.bytes)) = some (some (.string ⟨#[]⟩), 1, 16) := by kernel_rfl
  exact info_parts3 h
def tc (l : List ByteArray) : List Value := l.map fun z => Value.string z
/-- texts in a row of the call's own -/
def RoT (B : Nat) (w : World) (v : Value) (l : List ByteArray) : Prop := w.ownsRow B 9 1 v l.length (tc l)
theorem RoT.kept {B : Nat} {w w' : World} {v : Value} {l : List ByteArray} (h : RoT B w v l) (hb : Below w.heap.size w w') : RoT B w' v l := by
  refine ⟨h.1, ?_⟩
  rcases h.2 with h1 | ⟨g, cap, cur, rfl, h1, hg, rest⟩
  · exact .inl h1
  · exact .inr ⟨g, cap, cur, rfl, h1, (hb.block g (Array.getElem?_eq_some_iff.1 hg).1).trans hg, rest⟩
theorem RoT.below {w0 w w' : World} {v : Value} {l : List ByteArray} (h : RoT w0.heap.size w v l) (hb : Below w0.heap.size w0 w) (hg : w.grownBy w' v.ownBlock) : Below w0.heap.size w0 w' :=
  hb.grown hg hb.size (fun k hk => (World.ownsRow.lt h k hk).1)
theorem RoT.shape {B : Nat} {w : World} {v : Value} {l : List ByteArray} (h : RoT B w v l) : ∃ ao cap, v = .slice ao l.length cap := by
  rcases h.2 with ⟨rfl, h1⟩ | ⟨g, cap, cur, rfl, _⟩
  · exact ⟨none, 0, by rw [h1]⟩
  · exact ⟨_, cap, rfl⟩
theorem RoT.mono {B B' : Nat} {w : World} {v : Value} {l : List ByteArray} (h : RoT B w v l) (hB : B' ≤ B) : RoT B' w v l := by
  refine ⟨h.1, ?_⟩
  rcases h.2 with h1 | ⟨g, cap, cur, rfl, h1, rest⟩
  · exact .inl h1
  · exact .inr ⟨g, cap, cur, rfl, by omega, rest⟩
theorem roT_nil (B : Nat) (w : World) : RoT B w (.slice none 0 0) [] := ⟨rfl, .inl ⟨rfl, rfl⟩⟩
/-- append(v, c) of one text -/
theorem wpList_app_str {P : Program} (w : World) {ops : Array Oper} {rest : List Oper} {o : Oper} {a : Act} {Q : Exit → Act → World → Prop} (hgd : o.guard = none) (s x : Operand) (t : TypeId)
    (ho : o.op = .call { callee := .builtin .append, args := #[s, x], argTypes := #[t, t] })
    (B : Nat) (hinfo : ∃ i, P.info? 9 = some i ∧ i.zero = some (.string ⟨#[]⟩) ∧ i.size = 1 ∧ i.bytes = 16) (ht : P.underlying t = some (.slice 9))
    (v : Value) (l : List ByteArray) (hv : a.eval s = v) (h : RoT B w v l) (g : Nat) (c : ByteArray) (hx : a.eval x = .slice (some ⟨g, 0, none⟩) 1 1) (hc : w.cell? ⟨g, 0, none⟩ = some (.string c)) (hl : l.length ≤ 1000) (hB : B ≤ w.heap.size)
    (hK : ∀ v' w', RoT B w' v' (l ++ [c]) → w.grownBy w' v.ownBlock → wpList P ops Q rest (a.put o.dst v') w') : wpList P ops Q (o :: rest) a w := by
  obtain ⟨i, hi, hz, h1, h2⟩ := hinfo
  refine wpList_append_own w hgd s x t ho B 9 i (.string ⟨#[]⟩) 1 16 ht hi hz h1 h2 rfl (by decide) v l.length (tc l) hv h ⟨g, 0, none⟩ 1 1 [.string c] hx rfl ?_ (by intro u hu; simp at hu; subst hu; rfl) (by unfold maxLen; omega) (by omega) hB fun v' w' h3 h4 _ => hK v' w' ?_ h4
  · intro j u hj
    match j, hj with
    | 0, hj =>
      simp at hj
      subst hj
      rw [Addr.add_lit]
      exact hc
  · show w'.ownsRow B 9 1 v' (l ++ [c]).length (tc (l ++ [c]))
    have e2 : tc (l ++ [c]) = tc l ++ [.string c] := by simp [tc]
    rw [List.length_append, e2]
    exact h3
theorem sc_get (l : List Nat) : ∀ (j : Nat) (hj : j < l.length), (sc l)[j * 2]? = some (.string (wN l[j])) ∧ (sc l)[j * 2 + 1]? = some (.func (.func (82 + l[j])) #[] #[]) := by
  induction l with
  | nil => intro j hj; simp at hj
  | cons a r ih =>
    intro j hj
    have e : sc (a :: r) = .string (wN a) :: .func (.func (82 + a)) #[] #[] :: sc r := by simp [sc]
    rw [e]
    match j, hj with
    | 0, _ => exact ⟨rfl, rfl⟩
    | j + 1, hj =>
      have h := ih j (by simpa using hj)
      rw [show (j + 1) * 2 = j * 2 + 1 + 1 by omega]
      simpa using h
theorem RoS.cell {B : Nat} {w : World} {ao : Option Addr} {n cap : Nat} {l : List Nat} (h : RoS B w (.slice ao n cap) l) (j : Nat) (hj : j < l.length) : ∃ g, ao = some ⟨g, 0, none⟩ ∧ w.cell? ⟨g, j * 2, none⟩ = some (.string (wN l[j])) ∧ w.cell? ⟨g, j * 2 + 1, none⟩ = some (.func (.func (82 + l[j])) #[] #[]) := by
  have h0 := h
  rcases h.2 with ⟨_, h1⟩ | ⟨g, cap', cur, he, hb, hg, h1, h2, h3, h4⟩
  · omega
  · cases he
    refine ⟨g, rfl, ?_, ?_⟩
    · rw [World.ownsRow.cellAt h0 (j * 2) (by omega)]
      exact (sc_get l j hj).1
    · rw [World.ownsRow.cellAt h0 (j * 2 + 1) (by omega)]
      exact (sc_get l j hj).2
theorem new2 (w : World) (o : Obj) (x : ByteArray) (t : TypeId) : ((w.alloc o).alloc (.cells #[.string x] t)).cell? ⟨w.heap.size + 1, 0, none⟩ = some (.string x) := by
  have e : (w.alloc o).heap.size = w.heap.size + 1 := by
    show (w.heap.push o).size = _
    rw [Array.size_push]
  rw [← e, World.cell?_alloc_new]
  rfl
theorem WaysT.kept {w w' : World} (h : WaysT w) (hb : Below w.heap.size w w') : WaysT w' := rng_alloc h hb
def names (l : List Nat) : List ByteArray := l.map wN

end Go.Proofs.YtdnackjakfiffaaGreatDoor.Lft

/-
  Package lift: the table of ways.
-/
namespace Go.Proofs.YtdnackjakfiffaaGreatDoor.Lft
open Go Go.RowKit

theorem gWays : Tryz.prog.globalNamed "annals/lift.ways" = some 1 := by kernel_rfl
theorem gWaysT : (Tryz.prog.globals[1]?).map (·.type) = some 106 := by kernel_rfl
theorem cWay : Tryz.prog.cellsOf 105 = 3 := by kernel_rfl
theorem cInt : Tryz.prog.cellsOf 3 = 1 := by kernel_rfl
theorem cStr : Tryz.prog.cellsOf 9 = 1 := by kernel_rfl
theorem way_of {cs : List Value} {fuel : Nat} {W : World} {f t : Int} {s : List UInt8} {p : List MemPlace}
    (h : DataW.trod (fun _ => ()) Tryz.prog W 0 (fun _ => true) false fuel 105 cs = some (.agg [.lit (.int .i64 f), .lit (.int .i64 t), .lit (.string s)], p)) : cs = [.int .i64 f, .int .i64 t, .string ⟨s.toArray⟩] := by
  obtain ⟨y0, y1, y2, n, hx, hl, g0, g1, g2⟩ := Go.Deep.trod_struct3 Tryz.underlying105 h
  simp only [cInt, cStr] at g0 g1 g2
  obtain ⟨z0, e0, q0, _⟩ := DataW.trod_int Tryz.underlying3 g0
  obtain ⟨z1, e1, q1, _⟩ := DataW.trod_int Tryz.underlying3 g1
  obtain ⟨z2, e2, q2, _⟩ := DataW.trod_string Tryz.underlying9 g2
  subst q0 q1 q2
  simp only [Prod.mk.injEq, DataW.agg.injEq, List.cons.injEq, DataW.lit.injEq, Lit.int.injEq, Lit.string.injEq, true_and, and_true] at hx
  obtain ⟨⟨rfl, rfl, rfl⟩, _⟩ := hx
  rw [cWay] at hl
  match cs, hl with
  | [a, b, c], _ =>
    simp at e0 e1 e2
    subst e0 e1 e2
    rfl
theorem ways_of {W : World} {l : List (String × DataW Unit)} (h : laidMet Tryz.prog l W) (hm : ("annals/lift.ways", Rows.laid_annals_lift_ways) ∈ l) : WaysT W := by
  obtain ⟨g', t', cs, fuel, p, hg', ht', hvar, hd⟩ := Lib.laidMet.reads h hm
  obtain rfl := Option.some.inj (gWays.symm.trans hg')
  obtain rfl := Option.some.inj (gWaysT.symm.trans ht')
  have key : ∀ i, i < 4 → ∃ L s, (Rows.laid_annals_lift_ways : DataW Unit) = .agg L ∧ L[i]? = some (.agg [.lit (.int .i64 (wF i)), .lit (.int .i64 (wT i)), .lit (.string s)]) ∧ (⟨s.toArray⟩ : ByteArray) = wN i := by
    intro i hi
    obtain rfl | rfl | rfl | rfl : i = 0 ∨ i = 1 ∨ i = 2 ∨ i = 3 := by omega
    all_goals exact ⟨_, _, rfl, rfl, rfl⟩
  have hrow : ∀ i, i < 4 → (cs.toList.drop (i * 3)).take 3 = [.int .i64 (wF i), .int .i64 (wT i), .string (wN i)] := by
    intro i hi
    obtain ⟨L, s, e1, e2, e3⟩ := key i hi
    have hd' := hd
    rw [e1] at hd'
    obtain ⟨f1, d1, q1, hd1, hr1⟩ := Lib.array_elem Tryz.underlying106 hd' i hi
    rw [e2] at hd1
    obtain rfl := Option.some.inj hd1
    rw [cWay] at hr1
    rw [way_of hr1, e3]
  intro m v hv
  rw [Nat.zero_add, World.var?_cell gWays hvar, ← Array.getElem?_toList]
  have hm12 : m < 12 := (List.getElem?_eq_some_iff.1 hv).1
  have h1 := congrArg (·[m % 3]?) (hrow (m / 3) (by omega))
  simp only [List.getElem?_take, List.getElem?_drop] at h1
  rw [if_pos (by omega), show m / 3 * 3 + m % 3 = m by omega] at h1
  rw [h1, ← hv]
  obtain rfl | rfl | rfl | rfl | rfl | rfl | rfl | rfl | rfl | rfl | rfl | rfl : m = 0 ∨ m = 1 ∨ m = 2 ∨ m = 3 ∨ m = 4 ∨ m = 5 ∨ m = 6 ∨ m = 7 ∨ m = 8 ∨ m = 9 ∨ m = 10 ∨ m = 11 := by omega
  all_goals rfl
/-- For the witness: the table's block holds what its initialiser lays. -/
def lay_ways : Obj → Obj
  | .cells _ ty frozen => .cells ((List.range 4).flatMap fun k => [Value.int .i64 (wF k), .int .i64 (wT k), .string (wN k)]).toArray ty frozen
  | o => o
theorem own : ownKnob Tryz.prog.godebug = none := by kernel_rfl
theorem laidOut : laidOutB Tryz.prog = true := by kernel_rfl
end Go.Proofs.YtdnackjakfiffaaGreatDoor.Lft
