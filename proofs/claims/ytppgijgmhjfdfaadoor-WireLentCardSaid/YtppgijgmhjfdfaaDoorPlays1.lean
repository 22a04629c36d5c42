/-
  The law package's helpers for a call's script: kept, laid.
-/
import Derived.Test.YtppgijgmhjfdfaaDoorPlays0
import Derived.Test.YtppgijgmhjfdfaaDoorRuns
import Derived.Deep.RegionHeld
import Derived.Deep.RegionHeldLaw
namespace Go.Proofs.YtppgijgmhjfdfaaDoor
open Go Go.RowKit
open Wb

/-- append(v, x) of one value to a row, as one step of a region that draws its order -/
theorem step_push {P : Program} {ops : Array Oper} {o : Oper} {a : Act} {w : World} {K : Act → World → Prop} {Q : Exit → Act → World → Prop} {E : Prop} (hgd : o.guard = none) (s x : Operand) (t : TypeId)
    (ho : o.op = .call { callee := .builtin .append, args := #[s, x], argTypes := #[t, t] })
    (B : Nat) (hinfo : (P.info? 25).map (fun i => (i.zero, i.size, i.bytes)) = some (some (.slice none 0 0), 1, 24)) (ht : P.underlying t = some (.slice 25))
    (v : Value) (vs : List Value) (hv : a.eval s = v) (h : Row B w v vs) (g : Nat) (u : Value) (hx : a.eval x = .slice (some ⟨g, 0, none⟩) 1 1) (hu : w.cell? ⟨g, 0, none⟩ = some u) (h1 : u.oneCell' = true)
    (hmax : vs.length ≤ 5000000000) (hB : B ≤ w.heap.size)
    (hK : ∀ v' w', Row B w' v' (vs ++ [u]) → Below B w w' → w.grownBy w' v.ownBlock → K (a.put o.dst v') w') :
    if Region.wanted o (yielded ops a.tmps) = true then Oper.wp P o a w K Q else E := by
  have hw : Region.wanted o (yielded ops a.tmps) = true := by simp [Region.wanted, hgd]
  rw [if_pos hw]
  obtain ⟨i0, hi, hz0, hz1, hz2⟩ := info_parts hinfo
  obtain ⟨v', w', hrun, h2, h3, _⟩ := run_append_own (P := P) w B t o.type 25 i0 (.slice none 0 0) 1 24 ht hi hz0 hz1 hz2 rfl (by decide) v vs.length vs h ⟨g, 0, none⟩ 1 1 [u] rfl (by
    intro j y hj
    match j, hj with
    | 0, hj => simp at hj; subst hj; simpa [Addr.add] using hu) (by intro y hy; simp at hy; subst hy; exact h1) (by unfold maxLen; omega) (by omega) hB
  unfold Oper.wp
  simp [execOp, ho, resolve, invoke, builtin, hv, hx, hrun, Result.andThen]
  refine hK v' w' ?_ ((Below.refl B w).grown h3 hB (fun k hk => (h.lt k hk).1)) h3
  show w'.ownsRow B 25 1 v' (vs ++ [u]).length (vs ++ [u])
  rw [List.length_append]
  exact h2

set_option maxHeartbeats 2000000 in
theorem kept_any (v : Value) (ls : List (List Nat)) (w : World) (h : Ps w v ls) (hsum : ls.flatten.length + ls.length ≤ 4194304) :
    Calls Tryd.prog 8 #[v] w fun e w' => ∃ v', e = .returned v' ∧ OwnP w.heap.size w' v' ls ∧ Below w.heap.size w w' := by
  have hin := info22
  obtain ⟨ao, cap, rfl, hmx, hc⟩ := h.shape
  unfold maxLen at hmx
  clear h
  go_enter Tryd.func8, Tryd.ntmps8
  go_wp2
  go_loopw [3, 4] (fun o i wr => ∃ k : Nat, k ≤ ls.length ∧ i = .int .i64 (k : Int) ∧ OwnP w.heap.size wr o (ls.take k) ∧ Below w.heap.size w wr) (fun _ i _ => ls.length - (intOf i).toNat)
  case atStart => exact ⟨0, Nat.zero_le _, rfl, ⟨[], Row.nil _ _, rfl, fun j h => absurd h (Nat.not_lt_zero _)⟩, Below.refl _ _⟩
  case round =>
    obtain ⟨k, hk, rfl, hown, hbel⟩ := hrel
    by_cases hlt : k < ls.length
    · obtain ⟨b, off, rfl, hcell⟩ := hc (List.ne_nil_of_length_pos (by omega))
      obtain ⟨vk, hck, hbk⟩ := hcell k hlt
      have HB : Hid (∀ w', Below w.heap.size w w' → w'.cell? ⟨b, off + k, none⟩ = some vk) := fun w' hb => (hb.cell (p := ⟨b, off + k, none⟩) (World.block_lt_of_cell? _ _ hck)).trans hck
      have H1 : Hid (∀ w', Below w.heap.size w w' → Bs w' vk ls[k]) := fun w' hb => hbk.kept hb
      have q1 := HB.out wr hbel
      obtain ⟨aok, capk, rfl, hlk, hmk, hx1, hx2⟩ := hbk.shape
      have hkl : ls[k].length ≤ 4194304 := by
        have h1 := fl_le ls (k + 1)
        rw [List.take_succ_eq_append_getElem hlt, List.flatten_append, List.length_append, List.flatten_cons, List.flatten_nil, List.append_nil] at h1
        omega
      have HS : Hid (ls.take (k + 1) = ls.take k ++ [ls[k]]) := List.take_succ_eq_append_getElem hlt
      have hdl : (ls.take k).length = k := by simp; omega
      obtain ⟨vs, hrow, hvl, hel⟩ := hown
      have hvs : vs.length ≤ 5000000000 := by omega
      have HR : Hid (∀ w', Below wr.heap.size wr w' → Row w.heap.size w' u3 vs) := fun w' hb => hrow.kept hb
      have HE : Hid (∀ w', Below wr.heap.size wr w' → ∀ j (h : j < vs.length) (h2 : j < (ls.take k).length), Own w.heap.size w' vs[j] (ls.take k)[j]) := fun w' hb j a b => (hel j a b).kept hb
      have hsz := hbel.size
      clear hx1 hx2 hc hcell hbk hck hel hrow
      generalize ls[k] = x at *
      generalize ls.take k = done at *
      go_wp2
      go_region_held_law (fun w' => w'.cell? ⟨b, off + k, none⟩ = some (.slice aok x.length capk)) (first | go_keep | (exact HB.out _ (andThen (Below.drew hbel) b2)) | (exact HB.out _ ((up (andThen (Below.drew hbel) b2) _).trans b3)))
        (first
          | (go_at_call 21; refine (rwhole_any _ x _ ?_ ?_).mono ?_; (exact H1.out _ (Below.drew hbel)); (exact Nat.le_trans hkl (by decide)); rintro e w2 ⟨v2, rfl, ho2, b2⟩; obtain ⟨ao2, cap2, rfl, _⟩ := ho2.bs.shape)
          | (refine step_push rfl (.tmp 11) (.tmp 22) 23 rfl w.heap.size hin Tryd.underlying23 u3 vs (by simp [Act.eval]) (HR.out _ (up (andThen ((Below.refl _ wr).drew) b2) _)) w2.heap.size (.slice ao2 x.length cap2) (by simp [Act.eval]) (World.cell?_alloc_new w2 _ _ 0) rfl hvs (Nat.le_trans (andThen (Below.drew hbel) b2).size (by simp)) ?_; intro v3 w3 hr3 b3 hg3))
      have R : Hid (OwnP w.heap.size w3 v3 (ls.take (k + 1)) ∧ Below w.heap.size w w3) := by
        have hb2 := andThen (Below.refl _ wr).drew b2
        rw [HS.out]
        refine ⟨⟨vs ++ [.slice ao2 x.length cap2], hr3, by simp [hvl], fun j a b => ?_⟩, (up (andThen (Below.drew hbel) b2) _).trans b3⟩
        by_cases hj : j < vs.length
        · rw [List.getElem_append_left hj, List.getElem_append_left (by omega)]
          exact Own.grown (HR.out _ (up hb2 _)) (HE.out _ (up hb2 _) j hj (by omega)) hg3
        · have ej : j = vs.length := by simp at a; omega
          subst ej
          rw [List.getElem_append_right (Nat.le_refl _), List.getElem_append_right (by omega)]
          simp only [hvl, Nat.sub_self, List.getElem_cons_zero]
          exact Own.grown (HR.out _ (up hb2 _)) ((ho2.mono hsz).kept (up0 _ _)) hg3
      clear hr3 b3 hg3 HR HE HB H1 q1 hbel b2 ho2 HS
      go_wp2
      go_roundw
      case rel => exact ⟨k + 1, by omega, by go_num, R.out.1, R.out.2⟩
      case measure => simp [intOf]; omega
    · rw [List.take_of_length_le (by omega)] at hown
      go_wp2
      go_ret
      exact ⟨_, rfl, hown, hbel⟩
end Go.Proofs.YtppgijgmhjfdfaaDoor
