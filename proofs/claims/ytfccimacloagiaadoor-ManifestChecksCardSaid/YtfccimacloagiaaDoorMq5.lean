/-
  ManifestChecks: all, laidSegs, intactSegs.
-/
import Derived.Test.YtfccimacloagiaaDoorMq4
import Derived.Test.YtfccimacloagiaaDoorMpb
namespace Go.Proofs.YtfccimacloagiaaDoor
open Go Go.RowKit
open Wb

set_option maxRecDepth 100000 in
theorem all_yes (v : Value) (l : List Nat) (mk : Nat) (w : World) (h : Bs w v l) (hm : ∀ x ∈ l, x = mk) :
    Calls Tryd.prog 18 #[v, .int .u8 (mk : Int)] w fun e w' => e = .returned (.bool true) ∧ Below w.heap.size w w' := by
  obtain ⟨ao, cap, rfl, hl, hmx, hn, hc⟩ := h.shape
  unfold maxLen at hmx
  have HC : Hid (∀ k, k < l.length → ∃ b off, ao = some ⟨b, off, none⟩ ∧ w.cell? ⟨b, off + k, none⟩ = some (.int .u8 (mk : Int))) := fun k hk => by
    obtain ⟨b, off, e, hcell⟩ := hc (List.ne_nil_of_length_pos (by omega))
    refine ⟨b, off, e, ?_⟩
    rw [hcell k hk, hm _ (List.getElem_mem hk)]
  clear hc hm h hn
  go_enter Tryd.func18, Tryd.ntmps18
  go_wp2
  go_loopw [5] (fun i wr => ∃ k : Nat, k ≤ l.length ∧ i = .int .i64 (k : Int) ∧ wr = w) (fun i _ => l.length - (intOf i).toNat)
  case atStart => exact ⟨0, Nat.zero_le _, rfl, rfl⟩
  case round =>
    obtain ⟨k, hk, rfl, rfl⟩ := hrel
    by_cases hlt : k < l.length
    · obtain ⟨b, off, rfl, q⟩ := HC.out k hlt
      clear HC
      go_wp2
      go_roundw
      case rel => exact ⟨k + 1, by omega, by go_num, trivial⟩
      case measure => simp [intOf]; omega
    · obtain rfl : k = l.length := by omega
      clear HC
      go_wp2
      go_ret
      exact ⟨rfl, Below.refl _ _⟩
theorem flat_sgc_append (a b : List Sg) : (a ++ b).flatMap sgc = a.flatMap sgc ++ b.flatMap sgc := by simp
theorem wpList_append_segs {P : Program} (w : World) {ops : Array Oper} {rest : List Oper} {o : Oper} {a : Act} {Q : Exit → Act → World → Prop} (hgd : o.guard = none) (s x : Operand) (t : TypeId)
    (ho : o.op = .call { callee := .builtin .append, args := #[s, x], argTypes := #[t, t] })
    (B : Nat) (hinfo : (P.info? 46).map (fun i => (i.zero, i.size, i.bytes)) = some (some (.agg #[.int .i64 0, .int .i64 0, .int .i64 0]), 3, 24)) (ht : P.underlying t = some (.slice 46))
    (v : Value) (l : List Sg) (hv : a.eval s = v) (h : SgR B w v l) (xv : Value) (m : List Sg) (hx : a.eval x = xv) (hm : SgsAt w xv m)
    (hne : ∀ ao n cap, xv = .slice ao n cap → ao = none → cap = 0) (hmax : (l.length + m.length) * 24 ≤ 140737488355328) (hB : B ≤ w.heap.size)
    (hK : ∀ v' w', SgR B w' v' (l ++ m) → w.grownBy w' v.ownBlock → (v'.ownBlock = v.ownBlock ∨ v'.ownBlock = some w.heap.size) → wpList P ops Q rest (a.put o.dst v') w') : wpList P ops Q (o :: rest) a w := by
  obtain ⟨i0, hi, hz0, hz1, hz2⟩ := info_partsM hinfo
  obtain ⟨ao, cap, rfl, hl, hmx, hc⟩ := hm
  cases ao with
  | none =>
    obtain rfl := hne _ _ _ rfl rfl
    have h0 : m = [] := List.eq_nil_of_length_eq_zero (by omega)
    subst h0
    refine wpList_append_own_none hgd s x t ho B 46 i0 3 ht hi v l.length (l.flatMap sgc) hv h hx ?_
    exact hK v w (by simpa using h) (World.grownBy.refl _ _) (.inl rfl)
  | some ad =>
    refine wpList_append_own_at w hgd s x t ho B 46 i0 _ 3 24 ht hi hz0 hz1 hz2 rfl (by decide) v l.length (l.flatMap sgc) hv h ad m.length cap (m.flatMap sgc) hx (flat_sgc_len m) ?_ ?_ (by unfold maxLen; omega) hmax hB ?_
    · intro j u hj
      have hjl : j < m.length * 3 := by have := (List.getElem?_eq_some_iff.1 hj).1; rwa [flat_sgc_len] at this
      obtain ⟨sg, hsg⟩ : ∃ sg, m[j / 3]? = some sg := ⟨m[j / 3]'(by omega), List.getElem?_eq_getElem _⟩
      obtain ⟨b, off, e, hr⟩ := hc (j / 3) sg hsg
      obtain rfl := Option.some.inj e
      rw [Addr.add_lit]
      have h3 : ∃ u', (sgc sg)[j % 3]? = some u' := by
        have : j % 3 < 3 := Nat.mod_lt _ (by decide)
        exact ⟨(sgc sg)[j % 3]'(by simpa [sgc] using this), List.getElem?_eq_getElem _⟩
      obtain ⟨u', hu'⟩ := h3
      have h4 := flat_sgc_get m (j / 3) sg (j % 3) u' hsg hu'
      rw [show j / 3 * 3 + j % 3 = j by omega, hj] at h4
      obtain rfl := Option.some.inj h4
      have h5 := hr (j % 3) _ hu'
      rw [show off + j / 3 * 3 + j % 3 = off + j by omega] at h5
      exact h5
    · intro u hu
      obtain ⟨sg, _, hu2⟩ := List.mem_flatMap.1 hu
      simp only [sgc, List.mem_cons, List.not_mem_nil, or_false] at hu2
      rcases hu2 with rfl | rfl | rfl <;> rfl
    · intro v' w' h2 h3 _ h5
      refine hK v' w' ?_ h3 h5
      unfold SgR
      rw [List.length_append, flat_sgc_append]
      exact h2
end Go.Proofs.YtfccimacloagiaaDoor
