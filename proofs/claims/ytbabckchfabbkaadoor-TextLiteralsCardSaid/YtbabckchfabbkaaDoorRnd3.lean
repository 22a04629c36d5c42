/-
  What is quoted is read again: the whole.
-/
import Derived.Test.YtbabckchfabbkaaDoorRnd2
namespace Go.Proofs.YtbabckchfabbkaaDoor
open Go Go.RowKit Go.Lib
open Tx

namespace Tx
theorem con_skips (z : ByteArray) (L : List UInt8) (e : Nat) : ∀ (m q : Nat), (∀ i, i < m → q + i < z.size ∧ at' z (q + i) < 128) → q + m ≤ e → con z q L e = con z (q + m) L e
  | 0, q, _, _ => rfl
  | m + 1, q, h, he => by
    have h0 := h 0 (by omega)
    have hd : (Utf8.decode z q).2 = 1 := by rw [dec_ascii z q h0.2]
    have e1 := con_skip z q L e h0.1 (by omega)
    rw [hd] at e1
    rw [← e1, con_skips z L e m (q + 1) (fun i hi => by
      have := h (i + 1) (by omega)
      rw [show q + 1 + i = q + (i + 1) by omega]
      exact this) (by omega)]
    rw [show q + 1 + m = q + (m + 1) by omega]
/-- an escape is read -/
theorem con_esc (z : ByteArray) (q : Nat) (L : List UInt8) (e : Nat) (W : List UInt8) (x : ByteArray) (h : Has z q (92 :: W)) (he : e ≤ q) (hlow : ∀ b ∈ W, b.toNat < 128) (hx : esc (z.extract q z.size) = (x, W.length + 1)) :
    con z q L e = con z (q + (W.length + 1)) (L ++ x.data.toList) (q + (W.length + 1)) := by
  have h0 := h.at0
  have hd : Utf8.decode z q = (92, 1) := by rw [dec_ascii z q (by rw [h0.2]; decide), h0.2]; rfl
  have e1 := con_e z q L e h0.1 (by omega) (by rw [hd]) (by rw [hx]; simp)
  rw [hd, hx] at e1
  rw [← e1]
  have ht := h.tail
  rw [con_skips z _ _ W.length (q + 1) (fun i hi => by
    have := ht i hi
    refine ⟨this.1, ?_⟩
    rw [this.2]
    exact hlow _ (List.getElem_mem hi)) (by omega)]
  rw [show q + 1 + W.length = q + (W.length + 1) by omega]
theorem enc_two (r : Nat) (hv : Utf8.valid (r : Int) = true) (h : 128 ≤ r) : 2 ≤ (Utf8.encode (r : Int)).size := by
  rw [← list_size]
  by_cases h2 : r ≤ 2047
  · rw [enc2 r h h2]; simp
  · by_cases h3 : r ≤ 65535
    · rw [enc3 r (by omega) h3 hv]; simp
    · rw [enc4 r (by omega) hv]; simp
/-- a rune is read -/
theorem con_rune (z : ByteArray) (q : Nat) (L : List UInt8) (e r : Nat) (hv : Utf8.valid (r : Int) = true) (h : Has z q (Utf8.encode (r : Int)).data.toList) (h0 : q < z.size) (he : e ≤ q) (h34 : r ≠ 34) (h92 : r ≠ 92) (hc : ctl (r : Int) = false) (hh : among hids (r : Int) = false) :
    con z q L e = con z (q + (Utf8.encode (r : Int)).size) (L ++ (Utf8.encode (r : Int)).data.toList) e := by
  have hd := dec_enc z q r hv h
  have h2 : 128 ≤ r → 2 ≤ (Utf8.encode (r : Int)).size := enc_two r hv
  have hlow : r < 128 → at' z q = r := fun h1 => by
    have e1 := enc1 r h1
    rw [e1] at h
    exact h.at0.2.trans (ofNat_lt r (by omega))
  have key := con_on z q L e h0 (by omega)
  generalize hE : Utf8.encode (r : Int) = E at *
  rw [hd] at key
  have hs : stray z q = false := by
    unfold stray
    rw [hd]
    by_cases h1 : r < 128
    · rw [hlow h1, decide_eq_false (by omega), Bool.false_and]
    · have := h2 (by omega)
      rw [Bool.and_eq_false_iff]
      right
      rw [decide_eq_false_iff_not]
      dsimp only
      omega
  dsimp only at key
  rw [hE, hc, hh, hs] at key
  exact (key h34 h92 rfl).symm
theorem byte_back (c : Nat) : UInt8.ofNat (16 * (c / 16) + c % 16) = UInt8.ofNat c := by rw [show 16 * (c / 16) + c % 16 = c by omega]
/-- two digits are read -/
theorem con_hex (z : ByteArray) (q : Nat) (L : List UInt8) (e c : Nat) (hc : c < 256) (h : Has z q (hexB c).data.toList) (he : e ≤ q) :
    con z q L e = con z (q + (hexB c).size) (L ++ [UInt8.ofNat c]) (q + (hexB c).size) := by
  have a1 := (hexD_all (c / 16) (by omega)).2.1
  have a2 := (hexD_all (c % 16) (by omega)).2.1
  have h4 : Has z q [92, 120, hexD (c / 16), hexD (c % 16)] := h
  have hx : esc (z.extract q z.size) = (⟨#[UInt8.ofNat c]⟩, 4) := by
    have := esc_x (a := c / 16) (b := c % 16) (by omega) (by omega) (by
      have := Has.cut q (Nat.le_refl _) h4
      rwa [Nat.sub_self] at this)
    rw [byte_back c] at this
    exact this
  exact con_esc z q L e [120, hexD (c / 16), hexD (c % 16)] ⟨#[UInt8.ofNat c]⟩ h4 he (by
    intro b hb
    simp at hb
    rcases hb with rfl | rfl | rfl
    · decide
    · exact a1
    · exact a2) hx
theorem hexL_low (u : Nat) : ∀ b ∈ hexL u, b.toNat < 128 := by
  by_cases hu : u < 16
  · rw [hexL_lo u hu]
    intro b hb
    simp at hb
    subst hb
    exact (hexD_all u hu).2.1
  · rw [hexL_hi u hu]
    intro b hb
    rw [List.mem_append] at hb
    rcases hb with hb | hb
    · exact hexL_low (u / 16) b hb
    · simp at hb
      subst hb
      exact (hexD_all (u % 16) (by omega)).2.1
termination_by u
decreasing_by omega
theorem two_esc (z : ByteArray) (q : Nat) (L : List UInt8) (e : Nat) (b : UInt8) (x : ByteArray) (hb : b.toNat < 128) (h : Has z q [92, b]) (he : e ≤ q) (hx : ∀ s, Has s 0 [92, b] → esc s = (x, 2)) :
    con z q L e = con z (q + 2) (L ++ x.data.toList) (q + 2) :=
  con_esc z q L e [b] x h he (by
    intro y hy
    simp at hy
    subst hy
    exact hb) (hx _ (by
      have := Has.cut q (Nat.le_refl _) h
      rwa [Nat.sub_self] at this))
theorem wrt_step (z : ByteArray) (q : Nat) (L : List UInt8) (e r : Nat) (hv : Utf8.valid (r : Int) = true) (h : Has z q (wrt r).data.toList) (hq : q < z.size) (he : e ≤ q) :
    ∃ e', con z q L e = con z (q + (wrt r).size) (L ++ (Utf8.encode (r : Int)).data.toList) e' ∧ e' ≤ q + (wrt r).size := by
  revert h
  unfold wrt
  split
  · rename_i c0
    intro h
    rcases c0 with rfl | rfl
    · rw [enc1 34 (by decide)]
      exact ⟨_, two_esc z q L e 34 ⟨#[34]⟩ (by decide) h he (fun s hs => esc_q hs), Nat.le_refl _⟩
    · rw [enc1 92 (by decide)]
      exact ⟨_, two_esc z q L e 92 ⟨#[92]⟩ (by decide) h he (fun s hs => esc_b hs), Nat.le_refl _⟩
  · rename_i c0
    split
    · rename_i c1
      subst c1
      intro h
      rw [enc1 10 (by decide)]
      exact ⟨_, two_esc z q L e 110 ⟨#[10]⟩ (by decide) h he (fun s hs => esc_n hs), Nat.le_refl _⟩
    · split
      · rename_i c1
        subst c1
        intro h
        rw [enc1 9 (by decide)]
        exact ⟨_, two_esc z q L e 116 ⟨#[9]⟩ (by decide) h he (fun s hs => esc_t hs), Nat.le_refl _⟩
      · split
        · rename_i c1
          subst c1
          intro h
          rw [enc1 13 (by decide)]
          exact ⟨_, two_esc z q L e 114 ⟨#[13]⟩ (by decide) h he (fun s hs => esc_r hs), Nat.le_refl _⟩
        · split
          · rename_i c1
            intro h
            have hr : r < 128 := by
              unfold ctl at c1
              rw [Bool.or_eq_true, decide_eq_true_eq, decide_eq_true_eq] at c1
              omega
            rw [enc1 r hr]
            exact ⟨_, con_hex z q L e r (by omega) h he, Nat.le_refl _⟩
          · rename_i c1
            split
            · intro h
              have hw : ((⟨#[92, 117, 123]⟩ : ByteArray) ++ ⟨(hexL r).toArray⟩ ++ ⟨#[125]⟩).data.toList = 92 :: ([117, 123] ++ (hexL r ++ [125])) := by
                simp [ByteArray.data_append]
              have hz : ((⟨#[92, 117, 123]⟩ : ByteArray) ++ ⟨(hexL r).toArray⟩ ++ ⟨#[125]⟩).size = ([117, 123] ++ (hexL r ++ [125])).length + 1 := by
                rw [← list_size, hw, List.length_cons]
              rw [hw] at h
              rw [hz]
              refine ⟨_, con_esc z q L e ([117, 123] ++ (hexL r ++ [125])) (Utf8.encode (r : Int)) h he ?_ ?_, Nat.le_refl _⟩
              · intro b hb
                rw [List.mem_append, List.mem_append] at hb
                rcases hb with hb | hb | hb
                · simp at hb
                  rcases hb with rfl | rfl <;> decide
                · exact hexL_low r b hb
                · simp at hb
                  subst hb
                  decide
              · have h9 := Has.cut q (Nat.le_refl _) h
                rw [Nat.sub_self] at h9
                rw [esc_u hv h9]
                have e9 : (hexL r).length + 4 = ([117, 123] ++ (hexL r ++ [125])).length + 1 := by
                  simp only [List.length_append, List.length_cons, List.length_nil]
                  omega
                rw [e9]
            · rename_i c2
              intro h
              exact ⟨e, con_rune z q L e r hv h hq he (fun h => c0 (.inl h)) (fun h => c0 (.inr h)) (by simpa using c1) (by simpa using c2), by omega⟩
/-- a piece is read -/
theorem pc_step (t z : ByteArray) (p q : Nat) (L : List UInt8) (e : Nat) (hp : p < t.size) (h : Has z q (pcW t p).data.toList) (hq : q < z.size) (he : e ≤ q) :
    ∃ l e', con z q L e = con z (q + (pcW t p).size) (L ++ l) e' ∧ e' ≤ q + (pcW t p).size ∧ Has t p l ∧ l.length = (Utf8.decode t p).2 := by
  cases hs : stray t p with
  | true =>
    have hw : pcW t p = hexB (at' t p) := by unfold pcW; rw [if_pos hs]
    rw [hw] at h ⊢
    have h1 : (Utf8.decode t p).2 = 1 := by
      unfold stray at hs
      rw [Bool.and_eq_true, decide_eq_true_eq, decide_eq_true_eq] at hs
      exact hs.2
    exact ⟨_, _, con_hex z q L e (at' t p) (at_lt t p) h he, Nat.le_refl _, has1 hp (ofNat_lt _ (at_lt t p)).symm, by rw [h1]; rfl⟩
  | false =>
    have hw : pcW t p = wrt (Utf8.decode t p).1 := by unfold pcW; rw [if_neg (by simp [hs])]
    rw [hw] at h ⊢
    obtain ⟨e', h1, h2⟩ := wrt_step z q L e (Utf8.decode t p).1 (dec_valid t p) h hq he
    have h3 := enc_dec t p hp hs
    exact ⟨_, e', h1, h2, h3.1, by rw [list_size]; exact h3.2⟩
theorem take_has {t : ByteArray} {p : Nat} {l : List UInt8} (h : Has t p l) : t.data.toList.take p ++ l = t.data.toList.take (p + l.length) := by
  rw [List.take_add]
  congr 1
  apply List.ext_getElem?
  intro j
  by_cases hj : j < l.length
  · have h1 := h j hj
    have h2 : p + j < t.data.toList.length := by rw [list_size]; exact h1.1
    rw [List.getElem?_eq_getElem hj, List.getElem?_take, if_pos hj, List.getElem?_drop, List.getElem?_eq_getElem h2]
    congr 1
    have h3 := at_get t (p + j) h1.1
    apply u8_eq
    rw [← h1.2, h3]
    rfl
  · rw [List.getElem?_eq_none (by omega), List.getElem?_eq_none (by rw [List.length_take]; omega)]
/-- what is quoted is read -/
theorem rnd (t z : ByteArray) : ∀ (k p q : Nat) (e : Nat), t.size - p ≤ k → p ≤ t.size → Has z q (qs t p ++ [34]) → e ≤ q → con z q (t.data.toList.take p) e = (t, q + (qs t p).length + 1, 0)
  | 0, p, q, e, hk, hp, h, he => by
    have hpe : p = t.size := by omega
    rw [qs_out t p (by omega)] at *
    have h0 := Has.at0 (b := []) h
    rw [con_q z q _ e h0.1 (by omega) (by rw [dec_ascii z q (by rw [h0.2]; decide), h0.2]; rfl)]
    rw [List.take_of_length_le (by rw [list_size]; omega)]
    rfl
  | k + 1, p, q, e, hk, hp, h, he => by
    by_cases hlt : p < t.size
    · have hd := decode_fits t p hlt
      rw [qs_in t p hlt, List.append_assoc] at h
      have hq : q < z.size := by
        have h1 := has_size h (by simp; omega)
        simp at h1
        omega
      obtain ⟨l, e', h1, h2, h3, h4⟩ := pc_step t z p q (t.data.toList.take p) e hlt h.left hq he
      have hr := h.right
      rw [list_size] at hr
      rw [h1, take_has h3, h4, rnd t z k (p + (Utf8.decode t p).2) (q + (pcW t p).size) e' (by omega) hd.2.1 hr h2]
      rw [qs_in t p hlt, List.length_append, list_size]
      congr 2
      omega
    · have hpe : p = t.size := by omega
      rw [qs_out t p (by omega)] at *
      have h0 := Has.at0 (b := []) h
      rw [con_q z q _ e h0.1 (by omega) (by rw [dec_ascii z q (by rw [h0.2]; decide), h0.2]; rfl)]
      rw [List.take_of_length_le (by rw [list_size]; omega)]
      rfl
end Tx
end Go.Proofs.YtbabckchfabbkaaDoor
