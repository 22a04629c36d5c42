/-
  Package lift: Steps; the law's sameWords.
-/
import Derived.Test.YtfkkjhcfmncieaaDoorLsB
import Derived.Laws.EntriesVeiled
namespace Go.Proofs.YtfkkjhcfmncieaaDoor
open Go Go.RowKit

theorem infoStr : ∃ i, Tryd.prog.info? 9 = some i ∧ i.zero = some (.string ⟨#[]⟩) ∧ i.size = 1 ∧ i.bytes = 16 := by
  have h : (Tryd.prog.info? 9).map (fun i => (i.zero, i.size, i.bytes)) = some (some (.string ⟨#[]⟩), 1, 16) := by kernel_rfl
  exact info_parts3 h
def tc (l : List ByteArray) : List Value := l.map fun z => Value.string z
/-- texts in a row of the call's own -/
def RoT (B : Nat) (w : World) (v : Value) (l : List ByteArray) : Prop := w.ownsRow B 9 1 v l.length (tc l)
theorem RoT.kept {B : Nat} {w w' : World} {v : Value} {l : List ByteArray} (h : RoT B w v l) (hb : Below w.heap.size w w') : RoT B w' v l := by
  refine ⟨h.1, ?_⟩
  rcases h.2 with h1 | ⟨g, cap, cur, rfl, h1, hg, rest⟩
  · exact .inl h1
  · exact .inr ⟨g, cap, cur, rfl, h1, (hb.block g (Array.getElem?_eq_some_iff.1 hg).1).trans hg, rest⟩
theorem RoT.below {w0 w w' : World} {v : Value} {l : List ByteArray} (h : RoT w0.heap.size w v l) (hb : Below w0.heap.size w0 w) (hg : w.grownBy w' v.ownBlock) : Below w0.heap.size w0 w' :=
  hb.grown hg hb.size (fun k hk => (World.ownsRow.lt h k hk).1)
theorem RoT.shape {B : Nat} {w : World} {v : Value} {l : List ByteArray} (h : RoT B w v l) : ∃ ao cap, v = .slice ao l.length cap := by
  rcases h.2 with ⟨rfl, h1⟩ | ⟨g, cap, cur, rfl, _⟩
  · exact ⟨none, 0, by rw [h1]⟩
  · exact ⟨_, cap, rfl⟩
theorem RoT.mono {B B' : Nat} {w : World} {v : Value} {l : List ByteArray} (h : RoT B w v l) (hB : B' ≤ B) : RoT B' w v l := by
  refine ⟨h.1, ?_⟩
  rcases h.2 with h1 | ⟨g, cap, cur, rfl, h1, rest⟩
  · exact .inl h1
  · exact .inr ⟨g, cap, cur, rfl, by omega, rest⟩
theorem roT_nil (B : Nat) (w : World) : RoT B w (.slice none 0 0) [] := ⟨rfl, .inl ⟨rfl, rfl⟩⟩
/-- append(v, c) of one text -/
theorem wpList_app_str {P : Program} (w : World) {ops : Array Oper} {rest : List Oper} {o : Oper} {a : Act} {Q : Exit → Act → World → Prop} (hgd : o.guard = none) (s x : Operand) (t : TypeId)
    (ho : o.op = .call { callee := .builtin .append, args := #[s, x], argTypes := #[t, t] })
    (B : Nat) (hinfo : ∃ i, P.info? 9 = some i ∧ i.zero = some (.string ⟨#[]⟩) ∧ i.size = 1 ∧ i.bytes = 16) (ht : P.underlying t = some (.slice 9))
    (v : Value) (l : List ByteArray) (hv : a.eval s = v) (h : RoT B w v l) (g : Nat) (c : ByteArray) (hx : a.eval x = .slice (some ⟨g, 0, none⟩) 1 1) (hc : w.cell? ⟨g, 0, none⟩ = some (.string c)) (hl : l.length ≤ 1000) (hB : B ≤ w.heap.size)
    (hK : ∀ v' w', RoT B w' v' (l ++ [c]) → w.grownBy w' v.ownBlock → wpList P ops Q rest (a.put o.dst v') w') : wpList P ops Q (o :: rest) a w := by
  obtain ⟨i, hi, hz, h1, h2⟩ := hinfo
  refine wpList_append_own w hgd s x t ho B 9 i (.string ⟨#[]⟩) 1 16 ht hi hz h1 h2 rfl (by decide) v l.length (tc l) hv h ⟨g, 0, none⟩ 1 1 [.string c] hx rfl ?_ (by intro u hu; simp at hu; subst hu; rfl) (by unfold maxLen; omega) (by omega) hB fun v' w' h3 h4 _ => hK v' w' ?_ h4
  · intro j u hj
    match j, hj with
    | 0, hj =>
      simp at hj
      subst hj
      rw [Addr.add_lit]
      exact hc
  · show w'.ownsRow B 9 1 v' (l ++ [c]).length (tc (l ++ [c]))
    have e2 : tc (l ++ [c]) = tc l ++ [.string c] := by simp [tc]
    rw [List.length_append, e2]
    exact h3
theorem sc_get (l : List Nat) : ∀ (j : Nat) (hj : j < l.length), (sc l)[j * 2]? = some (.string (wN l[j])) ∧ (sc l)[j * 2 + 1]? = some (.func (.func (9 + l[j])) #[] #[]) := by
  induction l with
  | nil => intro j hj; simp at hj
  | cons a r ih =>
    intro j hj
    have e : sc (a :: r) = .string (wN a) :: .func (.func (9 + a)) #[] #[] :: sc r := by simp [sc]
    rw [e]
    match j, hj with
    | 0, _ => exact ⟨rfl, rfl⟩
    | j + 1, hj =>
      have h := ih j (by simpa using hj)
      rw [show (j + 1) * 2 = j * 2 + 1 + 1 by omega]
      simpa using h
theorem RoS.cell {B : Nat} {w : World} {ao : Option Addr} {n cap : Nat} {l : List Nat} (h : RoS B w (.slice ao n cap) l) (j : Nat) (hj : j < l.length) : ∃ g, ao = some ⟨g, 0, none⟩ ∧ w.cell? ⟨g, j * 2, none⟩ = some (.string (wN l[j])) ∧ w.cell? ⟨g, j * 2 + 1, none⟩ = some (.func (.func (9 + l[j])) #[] #[]) := by
  have h0 := h
  rcases h.2 with ⟨_, h1⟩ | ⟨g, cap', cur, he, hb, hg, h1, h2, h3, h4⟩
  · omega
  · cases he
    refine ⟨g, rfl, ?_, ?_⟩
    · rw [World.ownsRow.cellAt h0 (j * 2) (by omega)]
      exact (sc_get l j hj).1
    · rw [World.ownsRow.cellAt h0 (j * 2 + 1) (by omega)]
      exact (sc_get l j hj).2
theorem new2 (w : World) (o : Obj) (x : ByteArray) (t : TypeId) : ((w.alloc o).alloc (.cells #[.string x] t)).cell? ⟨w.heap.size + 1, 0, none⟩ = some (.string x) := by
  have e : (w.alloc o).heap.size = w.heap.size + 1 := by
    show (w.heap.push o).size = _
    rw [Array.size_push]
  rw [← e, World.cell?_alloc_new]
  rfl
theorem WaysT.kept {w w' : World} (h : WaysT w) (hb : Below w.heap.size w w') : WaysT w' := rng_alloc h hb
def names (l : List Nat) : List ByteArray := l.map wN

theorem steps_out (f t : Int) (w : World) (h : ¬ (1 ≤ f ∧ f ≤ 3 ∧ 1 ≤ t ∧ t ≤ 3)) :
    Calls Tryd.prog 4 #[.int .i64 f, .int .i64 t] w fun e w' => e = .returned (.slice none 0 0) ∧ w' = w := by
  by_cases hf : 1 ≤ f ∧ f ≤ 3
  · have HV : Hid ((decide (1 ≤ f) && decide (f ≤ 3)) = true) := by show _ = _; simp [hf.1, hf.2]
    have HK : Hid ((decide (1 ≤ t) && decide (t ≤ 3)) = false) := by
      show _ = _
      rw [Bool.and_eq_false_iff]
      by_cases h1 : 1 ≤ t
      · right; rw [decide_eq_false]; omega
      · left; rw [decide_eq_false]; omega
    clear h hf
    go_enter Tryd.func4, Tryd.ntmps4
    go_wp2_with fail
    refine (isV_any f _).mono ?_
    rw [HV.out]
    rintro e w1 ⟨rfl, rfl⟩
    go_wp2_with fail
    refine (isV_any t _).mono ?_
    rw [HK.out]
    rintro e w2 ⟨rfl, rfl⟩
    go_wp2
    go_ret
    exact ⟨rfl, rfl⟩
  · have HV : Hid ((decide (1 ≤ f) && decide (f ≤ 3)) = false) := by
      show _ = _
      rw [Bool.and_eq_false_iff]
      by_cases h1 : 1 ≤ f
      · right; rw [decide_eq_false]; omega
      · left; rw [decide_eq_false]; omega
    clear h hf
    go_enter Tryd.func4, Tryd.ntmps4
    go_wp2_with fail
    refine (isV_any f _).mono ?_
    rw [HV.out]
    rintro e w1 ⟨rfl, rfl⟩
    go_wp2
    go_ret
    exact ⟨rfl, rfl⟩
set_option maxRecDepth 100000 in
set_option maxHeartbeats 2000000 in
theorem steps_in (f t : Int) (w : World) (hT : WaysT w) (h1 : 1 ≤ f) (h2 : f ≤ 3) (h3 : 1 ≤ t) (h4 : t ≤ 3) :
    Calls Tryd.prog 4 #[.int .i64 f, .int .i64 t] w fun e w' => ∃ o, e = .returned o ∧ RoT w.heap.size w' o (names (go f t 4).2) ∧ Below w.heap.size w w' := by
  have hin := infoStr
  have HV : Hid ((decide (1 ≤ f) && decide (f ≤ 3)) = true) := by show _ = _; simp [h1, h2]
  have HK : Hid ((decide (1 ≤ t) && decide (t ≤ 3)) = true) := by show _ = _; simp [h3, h4]
  have HLen : Hid ((go f t 4).2.length ≤ 4) := go_len f t 4
  clear h1 h2 h3 h4
  go_enter Tryd.func4, Tryd.ntmps4
  go_wp2_with fail
  refine (isV_any f _).mono ?_
  rw [HV.out]
  rintro e w1 ⟨rfl, rfl⟩
  go_wp2_with fail
  refine (isV_any t _).mono ?_
  rw [HK.out]
  rintro e w2 ⟨rfl, rfl⟩
  go_wp2_with fail
  refine (walk_any f t _ hT).mono ?_
  rintro e w3 ⟨o, rfl, hro, hb3⟩
  have HG4 : ∃ L, Hid ((go f t 4).2 = L) := ⟨_, rfl⟩
  obtain ⟨L, HG⟩ := HG4
  rw [HG.out] at hro HLen
  obtain ⟨ao, cap, rfl⟩ := hro.shape
  have HRS : Hid (∀ w', Below w3.heap.size w3 w' → RoS w2.heap.size w' (.slice ao L.length cap) L) := fun w' hb => hro.kept hb
  clear hro HV HK hT
  go_wp2
  go_loopw [5, 20] (fun o i wr => ∃ k : Nat, k ≤ L.length ∧ i = .int .i64 (k : Int) ∧ RoT w3.heap.size wr o (names (L.take k)) ∧ Below w3.heap.size w3 wr) (fun _ i _ => L.length - (intOf i).toNat)
  case atStart => exact ⟨0, Nat.zero_le _, rfl, roT_nil _ _, Below.refl _ _⟩
  case round =>
    obtain ⟨k, hk, rfl, hro, hbel⟩ := hrel
    have hL4 : L.length ≤ 4 := HLen.out
    by_cases hlt : k < L.length
    · obtain ⟨g, rfl, hc0, hc1⟩ := (HRS.out _ hbel).cell k hlt
      have HS : Hid (names (L.take (k + 1)) = names (L.take k) ++ [wN L[k]]) := by show _ = _; rw [List.take_succ_eq_append_getElem hlt]; unfold names; rw [List.map_append]; rfl
      generalize wN L[k] = x at *
      generalize 9 + L[k] = fx at *
      have hl5 : (names (L.take k)).length ≤ 1000 := by unfold names; rw [List.length_map, List.length_take]; omega
      generalize names (L.take k) = T at *
      obtain ⟨ao5, cap5, rfl⟩ := hro.shape
      have HR5 : Hid (∀ w', Below wr.heap.size wr w' → RoT w3.heap.size w' (.slice ao5 T.length cap5) T ∧ Below w3.heap.size w3 w') := fun w' hb => ⟨hro.kept hb, andThen hbel hb⟩
      clear hro hbel HRS
      go_wp2_with (at_builtin; refine wpList_app_str _ rfl (.tmp 24) (.tmp 27) 22 rfl w3.heap.size hin Tryd.underlying22 _ T rfl (HR5.out _ (up (up0 _ _) _)).1 (wr.heap.size + 1) x rfl (new2 _ _ _ _) hl5 (HR5.out _ (up (up0 _ _) _)).2.size ?_)
      intro v6 w6 hr6 hg6
      have HR6 : Hid (RoT w3.heap.size w6 v6 (names (L.take (k + 1)))) := by show RoT _ _ _ _; rw [HS.out]; exact hr6
      have HB6 : Hid (Below w3.heap.size w3 w6) := by
        have h := HR5.out _ (up (up0 wr (.cells #[.string x, .func (.func fx) #[] #[]] 31)) (.cells #[.string x] 9))
        exact h.1.below h.2 hg6
      clear hr6 hg6 HR5 HS
      go_wp2
      go_roundw
      case rel => exact ⟨k + 1, by omega, by go_num, HR6.out, HB6.out⟩
      case measure => simp [intOf]; omega
    · rw [List.take_of_length_le (by omega)] at hro
      go_wp2
      go_ret
      exact ⟨_, rfl, HG.out ▸ hro.mono hb3.size, andThen hb3 hbel⟩
end Go.Proofs.YtfkkjhcfmncieaaDoor
