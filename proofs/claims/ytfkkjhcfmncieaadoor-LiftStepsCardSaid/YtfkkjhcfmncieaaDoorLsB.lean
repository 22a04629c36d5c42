/-
  Package lift: walk.
-/
import Derived.Test.YtfkkjhcfmncieaaDoorLsA
import Derived.Deep.RegionHeldLaw
namespace Go.Proofs.YtfkkjhcfmncieaaDoor
open Go Go.RowKit

theorem info_parts3 {P : Program} {t : TypeId} {z : Value} {a b : Nat} (h : (P.info? t).map (fun i => (i.zero, i.size, i.bytes)) = some (some z, a, b)) : ∃ i, P.info? t = some i ∧ i.zero = some z ∧ i.size = a ∧ i.bytes = b := by
  cases hq : P.info? t with
  | none => rw [hq] at h; simp at h
  | some i =>
    rw [hq] at h
    simp at h
    exact ⟨i, rfl, h.1, h.2.1, h.2.2⟩
def zStep : Value := .agg #[.string ⟨#[]⟩, .nilFunc]
theorem infoStep : ∃ i, Tryd.prog.info? 31 = some i ∧ i.zero = some zStep ∧ i.size = 2 ∧ i.bytes = 24 := by
  have h : (Tryd.prog.info? 31).map (fun i => (i.zero, i.size, i.bytes)) = some (some zStep, 2, 24) := by kernel_rfl
  exact info_parts3 h
theorem infoWay : (Tryd.prog.info? 33).map (·.size) = some 3 := by kernel_rfl
theorem infoWays : (Tryd.prog.info? 34).map (·.size) = some 12 := by kernel_rfl
/-- the cells of steps -/
def sc (l : List Nat) : List Value := l.flatMap fun k => [.string (wN k), .func (.func (9 + k)) #[] #[]]
theorem sc_len (l : List Nat) : (sc l).length = l.length * 2 := by
  induction l with
  | nil => rfl
  | cons a r ih => simp [sc] at ih ⊢; omega
/-- steps in a row of the call's own -/
def RoS (B : Nat) (w : World) (v : Value) (l : List Nat) : Prop := w.ownsRow B 31 2 v l.length (sc l)
theorem RoS.kept {B : Nat} {w w' : World} {v : Value} {l : List Nat} (h : RoS B w v l) (hb : Below w.heap.size w w') : RoS B w' v l := by
  refine ⟨h.1, ?_⟩
  rcases h.2 with h1 | ⟨g, cap, cur, rfl, h1, hg, rest⟩
  · exact .inl h1
  · exact .inr ⟨g, cap, cur, rfl, h1, (hb.block g (Array.getElem?_eq_some_iff.1 hg).1).trans hg, rest⟩
theorem RoS.shape {B : Nat} {w : World} {v : Value} {l : List Nat} (h : RoS B w v l) : ∃ ao cap, v = .slice ao l.length cap := by
  rcases h.2 with ⟨rfl, h1⟩ | ⟨g, cap, cur, rfl, _⟩
  · exact ⟨none, 0, by rw [h1]⟩
  · exact ⟨_, cap, rfl⟩
theorem roS_nil (B : Nat) (w : World) : RoS B w (.slice none 0 0) [] := ⟨rfl, .inl ⟨rfl, rfl⟩⟩
/-- the table of ways stands -/
def WaysT (w : World) : Prop := w.rangeAt 0 0 (((List.range 4).flatMap fun k => [.int .i64 (wF k), .int .i64 (wT k), .string (wN k)]))
set_option maxRecDepth 100000 in
theorem idx_way (k : Nat) (hk : k < 4) (w : World) : (Instr.index 34 (.agg ((List.range 4).flatMap fun k => [.int .i64 (wF k), .int .i64 (wT k), .string (wN k)]).toArray) (.int .i64 (k : Int))).run Tryd.prog w = .ok (.agg #[.int .i64 (wF k), .int .i64 (wT k), .string (wN k)]) w := by
  have hs := infoWay
  cases hq : Tryd.prog.info? 33 with
  | none => simp [hq] at hs
  | some inf =>
    have hz : inf.size = 3 := by simpa [hq] using hs
    obtain rfl | rfl | rfl | rfl : k = 0 ∨ k = 1 ∨ k = 2 ∨ k = 3 := by omega
    all_goals simp [Instr.index, run_underlying Tryd.underlying34, asIntOf, part, sizeOf, typeInfo, hq, hz, go_sem, List.range, List.range.loop]
theorem sc_append (l : List Nat) (k : Nat) : sc (l ++ [k]) = sc l ++ [.string (wN k), .func (.func (9 + k)) #[] #[]] := by simp [sc]
/-- append(v, s) of one step, in a region that draws its order -/
theorem step_push {P : Program} {ops : Array Oper} {o : Oper} {a : Act} {w : World} {K : Act → World → Prop} {Q : Exit → Act → World → Prop} {E : Prop} (hgd : o.guard = none) (s x : Operand) (t : TypeId)
    (ho : o.op = .call { callee := .builtin .append, args := #[s, x], argTypes := #[t, t] })
    (B : Nat) (hinfo : ∃ i, P.info? 31 = some i ∧ i.zero = some zStep ∧ i.size = 2 ∧ i.bytes = 24) (ht : P.underlying t = some (.slice 31))
    (v : Value) (l : List Nat) (hv : a.eval s = v) (h : RoS B w v l) (g : Nat) (k : Nat) (hx : a.eval x = .slice (some ⟨g, 0, none⟩) 1 1) (hc0 : w.cell? ⟨g, 0, none⟩ = some (.string (wN k))) (hc1 : w.cell? ⟨g, 1, none⟩ = some (.func (.func (9 + k)) #[] #[])) (hl : l.length ≤ 1000) (hB : B ≤ w.heap.size)
    (hK : ∀ v' w', RoS B w' v' (l ++ [k]) → w.grownBy w' v.ownBlock → K (a.put o.dst v') w') :
    if Region.wanted o (yielded ops a.tmps) = true then Oper.wp P o a w K Q else E := by
  have hw : Region.wanted o (yielded ops a.tmps) = true := by simp [Region.wanted, hgd]
  rw [if_pos hw]
  obtain ⟨i0, hi, hz0, hz1, hz2⟩ := hinfo
  obtain ⟨v', w', hrun, h1, h2, _⟩ := run_append_own (P := P) w B t o.type 31 i0 zStep 2 24 ht hi hz0 hz1 hz2 rfl (by decide) v l.length (sc l) h ⟨g, 0, none⟩ 1 1 [.string (wN k), .func (.func (9 + k)) #[] #[]] rfl (by
    intro j u hj
    rw [Addr.add_lit, Nat.zero_add]
    match j, hj with
    | 0, hj => rw [hc0]; simpa using hj
    | 1, hj => rw [hc1]; simpa using hj) (by intro u hu; simp at hu; rcases hu with rfl | rfl <;> rfl) (by unfold maxLen; omega) (by omega) hB
  unfold Oper.wp
  simp [execOp, ho, resolve, invoke, builtin, hv, hx, hrun, Result.andThen]
  refine hK v' w' ?_ h2
  show w'.ownsRow B 31 2 v' (l ++ [k]).length (sc (l ++ [k]))
  rw [List.length_append, sc_append]
  exact h1

/-- the state behind k ways: where one is, and which ways were gone -/
def go (f t : Int) : Nat → Int × List Nat
  | 0 => (f, [])
  | k + 1 => if (go f t k).1 ≠ t ∧ wF k = (go f t k).1 ∧ decide (wF k < wT k) = decide (f < t) then (wT k, (go f t k).2 ++ [k]) else go f t k
theorem go_len (f t : Int) : ∀ k, (go f t k).2.length ≤ k
  | 0 => Nat.le_refl _
  | k + 1 => by
    have := go_len f t k
    unfold go
    split
    · simp; omega
    · omega
theorem rng_alloc {w : World} {g o : Nat} {cs : List Value} (h : w.rangeAt g o cs) {w' : World} (hb : Below w.heap.size w w') : w'.rangeAt g o cs := fun m v hv =>
  (hb.cell (p := ⟨g, o + m, none⟩) (World.block_lt_of_cell? _ _ (h m v hv))).trans (h m v hv)

set_option maxRecDepth 100000 in
set_option maxHeartbeats 2000000 in
theorem walk_any (f t : Int) (w : World) (hT : WaysT w) :
    Calls Tryd.prog 7 #[.int .i64 f, .int .i64 t] w fun e w' => ∃ o, e = .returned o ∧ RoS w.heap.size w' o (go f t 4).2 ∧ Below w.heap.size w w' := by
  have hin := infoStep
  unfold WaysT at hT
  have HIX : Hid (∀ w' (k : Nat), k < 4 → (Instr.index 34 (.agg ((List.range 4).flatMap fun k => [.int .i64 (wF k), .int .i64 (wT k), .string (wN k)]).toArray) (.int .i64 (k : Int))).run Tryd.prog w' = .ok (.agg #[.int .i64 (wF k), .int .i64 (wT k), .string (wN k)]) w') := fun w' k hk => idx_way k hk w'
  have HN : Hid ((Tryd.prog.info? 34).map (·.size) = some ((List.range 4).flatMap fun k => [Value.int .i64 (wF k), .int .i64 (wT k), .string (wN k)]).length) := by show _ = _; exact infoWays
  generalize ((List.range 4).flatMap fun k => [Value.int .i64 (wF k), .int .i64 (wT k), .string (wN k)]) = D at *
  go_enter Tryd.func7, Tryd.ntmps7
  go_wp2_with (refine wpList_load_mid rfl 34 _ rfl 0 _ rfl D _ hT Tryd.underlying34 rfl HN.out ?_)
  clear hT HN
  go_loopw [5, 7, 15] (fun o c i wr => ∃ k : Nat, k ≤ 4 ∧ i = .int .i64 (k : Int) ∧ c = .int .i64 (go f t k).1 ∧ RoS w.heap.size wr o (go f t k).2 ∧ Below w.heap.size w wr) (fun _ _ i _ => 4 - (intOf i).toNat)
  case atStart => exact ⟨0, by omega, rfl, rfl, roS_nil _ _, Below.refl _ _⟩
  case round =>
    obtain ⟨k, hk, rfl, rfl, hro, hbel⟩ := hrel
    by_cases hlt : k < 4
    · have hix := fun w' => HIX.out w' k hlt
      have HD : Hid (∀ w', Calls Tryd.prog 8 #[.agg #[.int .i64 (wF k), .int .i64 (wT k), .string (wN k)]] w' fun e w'' => e = .returned (.func (.func (9 + k)) #[] #[]) ∧ w'' = w'.alloc (.cells #[.int .i64 (wF k), .int .i64 (wT k), .string (wN k)] 33)) := fun w' => deed_any k hlt _ w'
      have HGO : Hid (go f t (k + 1) = if (go f t k).1 ≠ t ∧ wF k = (go f t k).1 ∧ decide (wF k < wT k) = decide (f < t) then (wT k, (go f t k).2 ++ [k]) else go f t k) := rfl
      have HL : Hid ((go f t k).2.length ≤ k) := go_len f t k
      have HRR : Hid (∀ o, RoS w.heap.size (wr.alloc o) u5 (go f t k).2 ∧ Below w.heap.size w (wr.alloc o)) := fun o => ⟨hro.kept (up0 _ _), up hbel _⟩
      have hsz := hbel.size
      have HNE : Hid (some wr.heap.size ≠ u5.ownBlock) := fun e => absurd (World.ownsRow.lt hro _ e.symm).2 (Nat.lt_irrefl _)
      clear hro hbel HIX
      obtain ⟨ao, cap, rfl⟩ := ((HRR.out (.cells #[] 0)).1).shape
      generalize hG : go f t k = G at *
      obtain ⟨c, L⟩ := G
      simp only at HGO HL HRR
      have hll : L.length ≤ 1000 := by have := HL.out; omega
      by_cases h1 : c = t
      · subst h1
        have HG2 : Hid (go f c (k + 1) = (c, L)) := by show _ = _; rw [HGO.out, if_neg (by simp)]
        have d1 : (c != c) = false := by simp
        clear HGO HD HL
        go_wp2
        go_roundw
        case rel => exact ⟨k + 1, by omega, by go_num, by rw [HG2.out], by rw [HG2.out]; exact (HRR.out _).1, (HRR.out _).2⟩
        case measure => simp [intOf]; omega
      · have d1 : (c != t) = true := by rw [bne_iff_ne]; exact h1
        by_cases h2 : wF k = c
        · by_cases h3 : decide (wF k < wT k) = decide (f < t)
          · have HG2 : Hid (go f t (k + 1) = (wT k, L ++ [k])) := by show _ = _; rw [HGO.out, if_pos ⟨h1, h2, h3⟩]
            have d2 : (wF k == c) = true := by rw [h2]; exact beq_self_eq_true _
            have d3 : (decide (wF k < wT k) == decide (f < t)) = true := by rw [h3]; exact beq_self_eq_true _
            clear HGO HL h1 h2 h3 hG
            generalize decide (f < t) = e1 at *
            have HSP : Hid (∀ {ops : Array Oper} {o : Oper} {a : Act} {w1 : World} {K : Act → World → Prop} {Q : Exit → Act → World → Prop} {E : Prop} (_ : o.guard = none) (s x : Operand)
                (_ : o.op = .call { callee := .builtin .append, args := #[s, x], argTypes := #[27, 27] }) (_ : a.eval s = .slice ao L.length cap) (_ : RoS w.heap.size w1 (.slice ao L.length cap) L) (g : Nat) (_ : a.eval x = .slice (some ⟨g, 0, none⟩) 1 1) (_ : w1.cell? ⟨g, 0, none⟩ = some (.string (wN k))) (_ : w1.cell? ⟨g, 1, none⟩ = some (.func (.func (9 + k)) #[] #[])) (_ : w.heap.size ≤ w1.heap.size)
                (_ : ∀ v' w', RoS w.heap.size w' v' (L ++ [k]) → w1.grownBy w' (Value.slice ao L.length cap).ownBlock → K (a.put o.dst v') w'), if Region.wanted o (yielded ops a.tmps) = true then Oper.wp Tryd.prog o a w1 K Q else E) := fun hgd s x ho hv h g hx hc0 hc1 hB hK => step_push hgd s x _ ho w.heap.size hin Tryd.underlying27 _ L hv h g k hx hc0 hc1 hll hB hK
            generalize wF k = a at *
            generalize wT k = b at *
            generalize wN k = nm at *
            clear hin
            go_wp2
            have HR := HRR.out (.cells #[.int .i64 a, .int .i64 b, .string nm] 33)
            have cc0 : (wr.alloc (.cells #[.int .i64 a, .int .i64 b, .string nm] 33)).cell? ⟨wr.heap.size, 0, none⟩ = some (.int .i64 a) := by rw [World.cell?_alloc_new]; rfl
            have cc1 : (wr.alloc (.cells #[.int .i64 a, .int .i64 b, .string nm] 33)).cell? ⟨wr.heap.size, 1, none⟩ = some (.int .i64 b) := by rw [World.cell?_alloc_new]; rfl
            have cc2 : (wr.alloc (.cells #[.int .i64 a, .int .i64 b, .string nm] 33)).cell? ⟨wr.heap.size, 2, none⟩ = some (.string nm) := by rw [World.cell?_alloc_new]; rfl
            generalize wr.alloc (.cells #[.int .i64 a, .int .i64 b, .string nm] 33) = W1 at *
            generalize wr.heap.size = g at *
            obtain ⟨hr, hb⟩ := HR
            have HRK : Hid (∀ w', Below W1.heap.size W1 w' → RoS w.heap.size w' (.slice ao L.length cap) L ∧ Below w.heap.size w w') := fun w' h => ⟨hr.kept h, andThen hb h⟩
            clear hr hb HRR
            go_region_held_law (fun w' => w'.cell? ⟨g, 0, none⟩ = some (.int .i64 a) ∧ w'.cell? ⟨g, 1, none⟩ = some (.int .i64 b) ∧ w'.cell? ⟨g, 2, none⟩ = some (.string nm)) (first | go_keep | (refine ⟨hg3.cell (a := ⟨g, 0, none⟩) ?_ HNE.out, hg3.cell (a := ⟨g, 1, none⟩) ?_ HNE.out, hg3.cell (a := ⟨g, 2, none⟩) ?_ HNE.out⟩ <;> simp [*]))
              (first
                | (go_at_call 8; refine (HD.out _).mono ?_; rintro e w2 ⟨rfl, rfl⟩)
                | (refine HSP.out rfl (.tmp 36) (.tmp 42) rfl (by simp [Act.eval]) (HRK.out _ (up (up (Below.drew (Below.refl _ _)) _) _)).1 _ (by simp [Act.eval]) (World.cell?_alloc_new _ _ _ 0) (World.cell?_alloc_new _ _ _ 1) (HRK.out _ (up (up (Below.drew (Below.refl _ _)) _) _)).2.size ?_; intro v3 w3 hr3 hg3))
            have b3 : Below w.heap.size w w3 := by
              have h := HRK.out _ (up (up (Below.drew (Below.refl _ W1)) (.cells #[.int .i64 a, .int .i64 b, .string nm] 33)) (.cells #[.string nm, .func (.func (9 + k)) #[] #[]] 31))
              exact h.2.grown hg3 h.2.size (fun j hj => (World.ownsRow.lt h.1 j hj).1)
            have q1 := hg3.cell (a := ⟨g, 1, none⟩) (v := .int .i64 b) (by simp [*, World.cell?_alloc_some]) HNE.out
            have HRR3 : Hid (RoS w.heap.size w3 v3 (L ++ [k])) := hr3
            clear hg3 hr3 HRK cc0 cc1 cc2 HNE HSP HD
            go_wp2
            go_roundw
            case rel => exact ⟨k + 1, by omega, by go_num, by rw [HG2.out], by rw [HG2.out]; exact HRR3.out, b3⟩
            case measure => simp [intOf]; omega
          · have HG2 : Hid (go f t (k + 1) = (c, L)) := by show _ = _; rw [HGO.out, if_neg (fun h => h3 h.2.2)]
            have d2 : (wF k == c) = true := by rw [h2]; exact beq_self_eq_true _
            have d3 : (decide (wF k < wT k) == decide (f < t)) = false := by rw [beq_eq_false_iff_ne]; exact h3
            clear HGO HD HL h1 h2 h3
            generalize decide (f < t) = e1 at *
            generalize wF k = a at *
            generalize wT k = b at *
            generalize wN k = nm at *
            go_wp2
            go_roundw
            case rel => exact ⟨k + 1, by omega, by go_num, by rw [HG2.out], by rw [HG2.out]; exact (HRR.out _).1, (HRR.out _).2⟩
            case measure => simp [intOf]; omega
        · have HG2 : Hid (go f t (k + 1) = (c, L)) := by show _ = _; rw [HGO.out, if_neg (fun h => h2 h.2.1)]
          have d2 : (wF k == c) = false := by rw [beq_eq_false_iff_ne]; exact h2
          clear HGO HD HL h1 h2
          generalize decide (f < t) = e1 at *
          generalize wF k = a at *
          generalize wT k = b at *
          generalize wN k = nm at *
          go_wp2
          go_roundw
          case rel => exact ⟨k + 1, by omega, by go_num, by rw [HG2.out], by rw [HG2.out]; exact (HRR.out _).1, (HRR.out _).2⟩
          case measure => simp [intOf]; omega
    · obtain rfl : k = 4 := by omega
      go_wp2
      go_ret
      exact ⟨_, rfl, hro, hbel⟩
end Go.Proofs.YtfkkjhcfmncieaaDoor
