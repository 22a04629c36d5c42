import Derived.Laws.Externs
import Derived.WalkMore
import Derived.BigQuiet
import Derived.Test.YtcnnpohnfoaceaaGreatDoorQT2
/-
  The library: utf8.ValidRune, strings.IndexByte, utf8.AppendRune.
-/
namespace Go.Proofs.YtcnnpohnfoaceaaGreatDoor.Text
open Go Go.RowKit Go.Lib
open Tx

theorem validRune_any (r : Int) (w : World) :
    Calls Tryz.prog 109 #[.int .i32 r] w fun e w' => e = .returned (.bool (Utf8.valid r)) ∧ w' = w := by
  by_cases h0 : 0 ≤ r
  · by_cases h1 : r < 55296
    · have H : Hid (Utf8.valid r = true) := by show _ = _; simp [Utf8.valid]; omega
      rw [H.out]
      go_enter Tryz.func109, Tryz.ntmps109
      go_wp2
      go_ret
      exact ⟨rfl, rfl⟩
    · by_cases h2 : 57343 < r
      · by_cases h3 : r ≤ 1114111
        · have H : Hid (Utf8.valid r = true) := by show _ = _; simp [Utf8.valid]; omega
          rw [H.out]
          go_enter Tryz.func109, Tryz.ntmps109
          go_wp2
          go_ret
          exact ⟨rfl, rfl⟩
        · have H : Hid (Utf8.valid r = false) := by show _ = _; simp [Utf8.valid]; omega
          rw [H.out]
          go_enter Tryz.func109, Tryz.ntmps109
          go_wp2
          go_ret
          exact ⟨rfl, rfl⟩
      · have H : Hid (Utf8.valid r = false) := by show _ = _; simp [Utf8.valid]; omega
        rw [H.out]
        go_enter Tryz.func109, Tryz.ntmps109
        go_wp2
        go_ret
        exact ⟨rfl, rfl⟩
  · have h2 : ¬ 57343 < r := by omega
    have H : Hid (Utf8.valid r = false) := by show _ = _; simp [Utf8.valid]; omega
    rw [H.out]
    go_enter Tryz.func109, Tryz.ntmps109
    go_wp2
    go_ret
    exact ⟨rfl, rfl⟩
theorem run_ib (s : ByteArray) (c : Nat) (w : World) : (callFunc 140 #[.string s, .int .u8 (c : Int)]).run Tryz.prog w = .ok (.value (.int .i64 (firstIdx s c.toUInt8))) w := by
  have h := run_callFunc_extern (P := Tryz.prog) (f := 140) (fn := Tryz.f140) (e := Extern.BytealgIndexByte.indexByte) (args := #[.string s, .int .u8 (c : Int)]) (w := w) Tryz.func140 (by kernel_rfl) (by kernel_rfl) (by kernel_rfl) (by kernel_rfl)
  rw [h, run_indexByte_string]
  rfl
theorem sliteIB (s : ByteArray) (c : Nat) (w : World) :
    Calls Tryz.prog 130 #[.string s, .int .u8 (c : Int)] w fun e w' => e = .returned (.int .i64 (firstIdx s c.toUInt8)) ∧ w' = w := by
  have hx := run_ib s c w
  generalize firstIdx s c.toUInt8 = k at *
  go_enter Tryz.func130, Tryz.ntmps130
  go_wp2
  go_ret
  exact ⟨rfl, rfl⟩
theorem indexByte_any (s : ByteArray) (c : Nat) (w : World) :
    Calls Tryz.prog 108 #[.string s, .int .u8 (c : Int)] w fun e w' => e = .returned (.int .i64 (firstIdx s c.toUInt8)) ∧ w' = w := by
  go_enter Tryz.func108, Tryz.ntmps108
  go_wp2_with fail
  refine (sliteIB s c _).mono ?_
  rintro e w1 ⟨rfl, rfl⟩
  go_wp2
  go_ret
  exact ⟨rfl, rfl⟩

/-- append(v, c..) of some bytes of a new row -/
theorem wpList_app_new {P : Program} (w : World) {ops : Array Oper} {rest : List Oper} {o : Oper} {a : Act} {Q : Exit → Act → World → Prop} (hgd : o.guard = none) (s x : Operand) (t : TypeId)
    (ho : o.op = .call { callee := .builtin .append, args := #[s, x], argTypes := #[t, t] })
    (B : Nat) (hinfo : ∃ i, P.info? 5 = some i ∧ i.zero = some (.int .u8 0) ∧ i.size = 1 ∧ i.bytes = 1) (ht : P.underlying t = some (.slice 5))
    (v : Value) (l : List UInt8) (hv : a.eval s = v) (h : Ro B w v l) (g n : Nat) (m : List UInt8) (hx : a.eval x = .slice (some ⟨g, 0, none⟩) n n) (hn : n = m.length) (hc : ∀ j (h : j < m.length), w.cell? ⟨g, j, none⟩ = some (.int .u8 (m[j].toNat : Int))) (hl : l.length ≤ 100000000) (hm : m.length ≤ 100) (hB : B ≤ w.heap.size)
    (hK : ∀ v' w', Ro B w' v' (l ++ m) → w.grownBy w' v.ownBlock → wpList P ops Q rest (a.put o.dst v') w') : wpList P ops Q (o :: rest) a w := by
  obtain ⟨i, hi, hz, h1, h2⟩ := hinfo
  subst hn
  refine wpList_append_own w hgd s x t ho B 5 i (.int .u8 0) 1 1 ht hi hz h1 h2 rfl (by decide) v l.length (bc l) hv h ⟨g, 0, none⟩ m.length m.length (bc m) hx (by rw [bc_len, Nat.mul_one]) ?_ (by intro u hu; simp [bc] at hu; obtain ⟨b, _, rfl⟩ := hu; rfl) (by unfold maxLen; omega) (by omega) hB fun v' w' h3 h4 _ => hK v' w' ?_ h4
  · intro j u hj
    have hjl : j < m.length := by have := (List.getElem?_eq_some_iff.1 hj).1; rwa [bc_len] at this
    rw [Addr.add_lit, Nat.zero_add, hc j hjl]
    simp [bc, hjl] at hj
    rw [← hj]
  · show w'.ownsRow B 5 1 v' (l ++ m).length (bc (l ++ m))
    have e2 : bc (l ++ m) = bc l ++ bc m := by simp [bc]
    rw [List.length_append, e2]
    exact h3
theorem new_cells (w : World) (m : List UInt8) (cs : Array Value) (hcs : cs.toList = bc m) (t : TypeId) : ∀ j (h : j < m.length), (w.alloc (.cells cs t)).cell? ⟨w.heap.size, j, none⟩ = some (.int .u8 (m[j].toNat : Int)) := by
  intro j h
  rw [World.cell?_alloc_new w _ _ j, ← Array.getElem?_toList, hcs]
  simp [bc, h]
theorem grown_alloc {w w' : World} {o : Obj} {g : Option Nat} (h : (w.alloc o).grownBy w' g) : w.grownBy w' g := by
  have hb := up0 w o
  refine ⟨h.os.trans hb.os, h.tape.trans hb.tape, h.output.trans hb.output, Nat.le_trans hb.size h.size, fun k hk hne => ?_⟩
  rw [h.block k (Nat.lt_of_lt_of_le hk hb.size) hne, hb.block k hk]

/-- the four shapes of a rune's bytes, as the library makes them -/
theorem enc2 (r : Nat) (h0 : 128 ≤ r) (h1 : r ≤ 2047) : (Utf8.encode (r : Int)).data.toList = [UInt8.ofNat (192 + r / 64), UInt8.ofNat (128 + r % 64)] := by
  have hv : Utf8.valid (r : Int) = true := by simp [Utf8.valid]; omega
  unfold Utf8.encode
  simp only [hv, if_true, Int.toNat_natCast]
  rw [if_neg (by omega), if_pos (by omega)]
theorem enc3 (r : Nat) (h0 : 2048 ≤ r) (h1 : r ≤ 65535) (hv : Utf8.valid (r : Int) = true) : (Utf8.encode (r : Int)).data.toList = [UInt8.ofNat (224 + r / 4096), UInt8.ofNat (128 + r / 64 % 64), UInt8.ofNat (128 + r % 64)] := by
  unfold Utf8.encode
  simp only [hv, if_true, Int.toNat_natCast]
  rw [if_neg (by omega), if_neg (by omega), if_pos (by omega)]
theorem enc4 (r : Nat) (h0 : 65536 ≤ r) (hv : Utf8.valid (r : Int) = true) : (Utf8.encode (r : Int)).data.toList = [UInt8.ofNat (240 + r / 262144), UInt8.ofNat (128 + r / 4096 % 64), UInt8.ofNat (128 + r / 64 % 64), UInt8.ofNat (128 + r % 64)] := by
  unfold Utf8.encode
  simp only [hv, if_true, Int.toNat_natCast]
  rw [if_neg (by omega), if_neg (by omega), if_neg (by omega)]
theorem and63 (n b : Nat) (h : n % 64 = b) : bits .and .u8 (IntKind.u8.wrap (n : Int)) 63 = (b : Int) := by
  have e : IntKind.u8.wrap (n : Int) = ((n % 256 : Nat) : Int) := by
    simp [IntKind.wrap, IntKind.bits, IntKind.signed]
  rw [e]
  have h0 := u8_and_nat (n % 256) 63 (by omega) (by decide)
  have e2 : (n % 256) &&& 63 = (n % 256) % 64 := Nat.and_two_pow_sub_one_eq_mod (n % 256) 6
  rw [e2, show (n % 256) % 64 = b by omega] at h0
  exact h0
theorem bc2 (x y : Nat) (hx : x < 256) (hy : y < 256) : bc [UInt8.ofNat x, UInt8.ofNat y] = [Value.int .u8 (x : Int), .int .u8 (y : Int)] := by
  simp [bc, Nat.mod_eq_of_lt hx, Nat.mod_eq_of_lt hy]
theorem bc3 (x y z : Nat) (hx : x < 256) (hy : y < 256) (hz : z < 256) : bc [UInt8.ofNat x, UInt8.ofNat y, UInt8.ofNat z] = [Value.int .u8 (x : Int), .int .u8 (y : Int), .int .u8 (z : Int)] := by
  simp [bc, Nat.mod_eq_of_lt hx, Nat.mod_eq_of_lt hy, Nat.mod_eq_of_lt hz]
theorem bc4 (x y z u : Nat) (hx : x < 256) (hy : y < 256) (hz : z < 256) (hu : u < 256) : bc [UInt8.ofNat x, UInt8.ofNat y, UInt8.ofNat z, UInt8.ofNat u] = [Value.int .u8 (x : Int), .int .u8 (y : Int), .int .u8 (z : Int), .int .u8 (u : Int)] := by
  simp [bc, Nat.mod_eq_of_lt hx, Nat.mod_eq_of_lt hy, Nat.mod_eq_of_lt hz, Nat.mod_eq_of_lt hu]
theorem or192 (a : Int) (h0 : 0 ≤ a) (h : a < 32) : bits .or .u8 192 a = 192 + a := by
  have key : ∀ a, a < 32 → bits .or .u8 192 ((a : Nat) : Int) = 192 + (a : Int) := by decide +kernel
  have := key a.toNat (by omega)
  rwa [Int.toNat_of_nonneg h0] at this
theorem or224 (a : Int) (h0 : 0 ≤ a) (h : a < 16) : bits .or .u8 224 a = 224 + a := by
  have key : ∀ a, a < 16 → bits .or .u8 224 ((a : Nat) : Int) = 224 + (a : Int) := by decide +kernel
  have := key a.toNat (by omega)
  rwa [Int.toNat_of_nonneg h0] at this
theorem or240 (a : Int) (h0 : 0 ≤ a) (h : a < 8) : bits .or .u8 240 a = 240 + a := by
  have key : ∀ a, a < 8 → bits .or .u8 240 ((a : Nat) : Int) = 240 + (a : Int) := by decide +kernel
  have := key a.toNat (by omega)
  rwa [Int.toNat_of_nonneg h0] at this
theorem or128 (a : Int) (h0 : 0 ≤ a) (h : a < 64) : bits .or .u8 128 a = 128 + a := by
  have key : ∀ a, a < 64 → bits .or .u8 128 ((a : Nat) : Int) = 128 + (a : Int) := by decide +kernel
  have := key a.toNat (by omega)
  rwa [Int.toNat_of_nonneg h0] at this
set_option maxRecDepth 100000 in
theorem appNon2 (r : Nat) (B : Nat) (v : Value) (l : List UInt8) (w : World) (h0 : 128 ≤ r) (h1 : r ≤ 2047) (hro : Ro B w v l) (hl : l.length ≤ 100000000) (hB : B ≤ w.heap.size) :
    Calls Tryz.prog 136 #[v, .int .i32 (r : Int)] w fun e w' => ∃ v', e = .returned v' ∧ Ro B w' v' (l ++ (Utf8.encode (r : Int)).data.toList) ∧ w.grownBy w' v.ownBlock := by
  have hin := info5q
  obtain ⟨ao, cap, rfl⟩ := hro.shape
  rw [enc2 r h0 h1]
  obtain ⟨x, hx⟩ : ∃ x : Int, (r : Int) = x := ⟨_, rfl⟩
  rw [hx]
  obtain ⟨a, ha⟩ : ∃ a : Int, x / 64 = a := ⟨_, rfl⟩
  obtain ⟨b, hb⟩ : ∃ b : Int, x % 64 = b := ⟨_, rfl⟩
  obtain ⟨m, hm⟩ : ∃ m : List UInt8, [UInt8.ofNat (192 + r / 64), UInt8.ofNat (128 + r % 64)] = m := ⟨_, rfl⟩
  have hml : m.length = 2 := by rw [← hm]; rfl
  have HB : Hid (bc m = [Value.int .u8 (192 + a), Value.int .u8 (128 + b)]) := by
    show _ = _
    rw [← hm, bc2 (192 + r / 64) (128 + r % 64) (by omega) (by omega)]
    simp only [List.cons.injEq, Value.int.injEq, true_and, and_true]
    omega
  rw [hm]
  clear hm
  have h0i : (128 : Int) ≤ x := by omega
  have h1i : x ≤ 2047 := by omega
  have ha0 : 0 ≤ a := by omega
  have hal : a < 32 := by omega
  have q1 := or192 a ha0 hal
  have hb0 : 0 ≤ b := by omega
  have hbl : b < 64 := by omega
  have q2b := or128 b hb0 hbl
  have q5b : bits .and .u8 (IntKind.u8.wrap (x)) 63 = b := by
    have h := and63 (r) (r % 64) rfl
    rw [show (((r : Nat)) : Int) = x by omega] at h
    rw [h]
    omega
  have q4 : IntKind.u8.wrap a = a := by
    simp [IntKind.wrap, IntKind.bits, IntKind.signed]
    omega
  have HRO : Hid (∀ o, Ro B (w.alloc o) (.slice ao l.length cap) l) := fun o => hro.kept (up0 _ _)
  have HL : Hid (m.length = 2) := hml
  have HE : Hid (x % 64 = b) := hb
  have q3 := ha
  clear hro hml h0 h1 hx  ha hb
  go_enter Tryz.func136, Tryz.ntmps136
  go_wp2_with (at_builtin; refine wpList_app_new _ rfl (.tmp 14) (.tmp 23) 92 rfl B hin Tryz.underlying92 _ l rfl (HRO.out _) _ 2 m rfl HL.out.symm (new_cells w _ _ (by rw [HB.out]; have := HE.out; simp; try omega) _) hl (by have := HL.out; omega) (by simp; omega) ?_)
  intro v6 w6 hr6 hg6
  have HR : Hid (Ro B w6 v6 (l ++ m) ∧ w.grownBy w6 (Value.slice ao l.length cap).ownBlock) := ⟨hr6, grown_alloc hg6⟩
  obtain ⟨ao6, cap6, rfl⟩ := hr6.shape
  clear hr6 hg6 HRO
  go_wp2
  go_ret
  exact ⟨_, rfl, HR.out.1, HR.out.2⟩
set_option maxRecDepth 100000 in
theorem appNon3 (r : Nat) (B : Nat) (v : Value) (l : List UInt8) (w : World) (h0 : 2048 ≤ r) (h1 : r ≤ 65535) (hv : Utf8.valid (r : Int) = true) (hs : r < 55296 ∨ 57343 < r) (hro : Ro B w v l) (hl : l.length ≤ 100000000) (hB : B ≤ w.heap.size) :
    Calls Tryz.prog 136 #[v, .int .i32 (r : Int)] w fun e w' => ∃ v', e = .returned v' ∧ Ro B w' v' (l ++ (Utf8.encode (r : Int)).data.toList) ∧ w.grownBy w' v.ownBlock := by
  have hin := info5q
  obtain ⟨ao, cap, rfl⟩ := hro.shape
  rw [enc3 r h0 h1 hv]
  obtain ⟨x, hx⟩ : ∃ x : Int, (r : Int) = x := ⟨_, rfl⟩
  rw [hx]
  obtain ⟨a, ha⟩ : ∃ a : Int, x / 4096 = a := ⟨_, rfl⟩
  obtain ⟨b, hb⟩ : ∃ b : Int, x / 64 % 64 = b := ⟨_, rfl⟩
  obtain ⟨c, hc⟩ : ∃ c : Int, x % 64 = c := ⟨_, rfl⟩
  obtain ⟨m, hm⟩ : ∃ m : List UInt8, [UInt8.ofNat (224 + r / 4096), UInt8.ofNat (128 + r / 64 % 64), UInt8.ofNat (128 + r % 64)] = m := ⟨_, rfl⟩
  have hml : m.length = 3 := by rw [← hm]; rfl
  have HB : Hid (bc m = [Value.int .u8 (224 + a), Value.int .u8 (128 + b), Value.int .u8 (128 + c)]) := by
    show _ = _
    rw [← hm, bc3 (224 + r / 4096) (128 + r / 64 % 64) (128 + r % 64) (by omega) (by omega) (by omega)]
    simp only [List.cons.injEq, Value.int.injEq, true_and, and_true]
    omega
  rw [hm]
  clear hm
  have h0i : (2048 : Int) ≤ x := by omega
  have h1i : x ≤ 65535 := by omega
  have hsi : x < 55296 ∨ 57343 < x := by omega
  have ha0 : 0 ≤ a := by omega
  have hal : a < 16 := by omega
  have q1 := or224 a ha0 hal
  have hb0 : 0 ≤ b := by omega
  have hbl : b < 64 := by omega
  have q2b := or128 b hb0 hbl
  have hc0 : 0 ≤ c := by omega
  have hcl : c < 64 := by omega
  have q2c := or128 c hc0 hcl
  have q5b : bits .and .u8 (IntKind.u8.wrap (x / 64)) 63 = b := by
    have h := and63 (r / 64) (r / 64 % 64) rfl
    rw [show (((r / 64 : Nat)) : Int) = x / 64 by omega] at h
    rw [h]
    omega
  have q5c : bits .and .u8 (IntKind.u8.wrap (x)) 63 = c := by
    have h := and63 (r) (r % 64) rfl
    rw [show (((r : Nat)) : Int) = x by omega] at h
    rw [h]
    omega
  have q4 : IntKind.u8.wrap a = a := by
    simp [IntKind.wrap, IntKind.bits, IntKind.signed]
    omega
  have HRO : Hid (∀ o, Ro B (w.alloc o) (.slice ao l.length cap) l) := fun o => hro.kept (up0 _ _)
  have HL : Hid (m.length = 3) := hml
  have HE : Hid (x / 64 % 64 = b ∧ x % 64 = c) := ⟨hb, hc⟩
  have q3 := ha
  clear hro hml h0 h1 hx hv hs ha hb hc
  rcases hsi with hsi | hsi
  · go_enter Tryz.func136, Tryz.ntmps136
    go_wp2_with (at_builtin; refine wpList_app_new _ rfl (.tmp 34) (.tmp 48) 92 rfl B hin Tryz.underlying92 _ l rfl (HRO.out _) _ 3 m rfl HL.out.symm (new_cells w _ _ (by rw [HB.out]; have := HE.out; simp; try omega) _) hl (by have := HL.out; omega) (by simp; omega) ?_)
    intro v6 w6 hr6 hg6
    have HR : Hid (Ro B w6 v6 (l ++ m) ∧ w.grownBy w6 (Value.slice ao l.length cap).ownBlock) := ⟨hr6, grown_alloc hg6⟩
    obtain ⟨ao6, cap6, rfl⟩ := hr6.shape
    clear hr6 hg6 HRO
    go_wp2
    go_ret
    exact ⟨_, rfl, HR.out.1, HR.out.2⟩
  · go_enter Tryz.func136, Tryz.ntmps136
    go_wp2_with (at_builtin; refine wpList_app_new _ rfl (.tmp 34) (.tmp 48) 92 rfl B hin Tryz.underlying92 _ l rfl (HRO.out _) _ 3 m rfl HL.out.symm (new_cells w _ _ (by rw [HB.out]; have := HE.out; simp; try omega) _) hl (by have := HL.out; omega) (by simp; omega) ?_)
    intro v6 w6 hr6 hg6
    have HR : Hid (Ro B w6 v6 (l ++ m) ∧ w.grownBy w6 (Value.slice ao l.length cap).ownBlock) := ⟨hr6, grown_alloc hg6⟩
    obtain ⟨ao6, cap6, rfl⟩ := hr6.shape
    clear hr6 hg6 HRO
    go_wp2
    go_ret
    exact ⟨_, rfl, HR.out.1, HR.out.2⟩
set_option maxRecDepth 100000 in
theorem appNon4 (r : Nat) (B : Nat) (v : Value) (l : List UInt8) (w : World) (h0 : 65536 ≤ r) (h1 : r ≤ 1114111) (hv : Utf8.valid (r : Int) = true) (hro : Ro B w v l) (hl : l.length ≤ 100000000) (hB : B ≤ w.heap.size) :
    Calls Tryz.prog 136 #[v, .int .i32 (r : Int)] w fun e w' => ∃ v', e = .returned v' ∧ Ro B w' v' (l ++ (Utf8.encode (r : Int)).data.toList) ∧ w.grownBy w' v.ownBlock := by
  have hin := info5q
  obtain ⟨ao, cap, rfl⟩ := hro.shape
  rw [enc4 r h0 hv]
  obtain ⟨x, hx⟩ : ∃ x : Int, (r : Int) = x := ⟨_, rfl⟩
  rw [hx]
  obtain ⟨a, ha⟩ : ∃ a : Int, x / 262144 = a := ⟨_, rfl⟩
  obtain ⟨b, hb⟩ : ∃ b : Int, x / 4096 % 64 = b := ⟨_, rfl⟩
  obtain ⟨c, hc⟩ : ∃ c : Int, x / 64 % 64 = c := ⟨_, rfl⟩
  obtain ⟨d, hd⟩ : ∃ d : Int, x % 64 = d := ⟨_, rfl⟩
  obtain ⟨m, hm⟩ : ∃ m : List UInt8, [UInt8.ofNat (240 + r / 262144), UInt8.ofNat (128 + r / 4096 % 64), UInt8.ofNat (128 + r / 64 % 64), UInt8.ofNat (128 + r % 64)] = m := ⟨_, rfl⟩
  have hml : m.length = 4 := by rw [← hm]; rfl
  have HB : Hid (bc m = [Value.int .u8 (240 + a), Value.int .u8 (128 + b), Value.int .u8 (128 + c), Value.int .u8 (128 + d)]) := by
    show _ = _
    rw [← hm, bc4 (240 + r / 262144) (128 + r / 4096 % 64) (128 + r / 64 % 64) (128 + r % 64) (by omega) (by omega) (by omega) (by omega)]
    simp only [List.cons.injEq, Value.int.injEq, true_and, and_true]
    omega
  rw [hm]
  clear hm
  have h0i : (65536 : Int) ≤ x := by omega
  have h1i : x ≤ 1114111 := by omega
  have ha0 : 0 ≤ a := by omega
  have hal : a < 8 := by omega
  have q1 := or240 a ha0 hal
  have hb0 : 0 ≤ b := by omega
  have hbl : b < 64 := by omega
  have q2b := or128 b hb0 hbl
  have hc0 : 0 ≤ c := by omega
  have hcl : c < 64 := by omega
  have q2c := or128 c hc0 hcl
  have hd0 : 0 ≤ d := by omega
  have hdl : d < 64 := by omega
  have q2d := or128 d hd0 hdl
  have q5b : bits .and .u8 (IntKind.u8.wrap (x / 4096)) 63 = b := by
    have h := and63 (r / 4096) (r / 4096 % 64) rfl
    rw [show (((r / 4096 : Nat)) : Int) = x / 4096 by omega] at h
    rw [h]
    omega
  have q5c : bits .and .u8 (IntKind.u8.wrap (x / 64)) 63 = c := by
    have h := and63 (r / 64) (r / 64 % 64) rfl
    rw [show (((r / 64 : Nat)) : Int) = x / 64 by omega] at h
    rw [h]
    omega
  have q5d : bits .and .u8 (IntKind.u8.wrap (x)) 63 = d := by
    have h := and63 (r) (r % 64) rfl
    rw [show (((r : Nat)) : Int) = x by omega] at h
    rw [h]
    omega
  have q4 : IntKind.u8.wrap a = a := by
    simp [IntKind.wrap, IntKind.bits, IntKind.signed]
    omega
  have HRO : Hid (∀ o, Ro B (w.alloc o) (.slice ao l.length cap) l) := fun o => hro.kept (up0 _ _)
  have HL : Hid (m.length = 4) := hml
  have HE : Hid (x / 4096 % 64 = b ∧ x / 64 % 64 = c ∧ x % 64 = d) := ⟨hb, hc, hd⟩
  have q3 := ha
  clear hro hml h0 h1 hx hv ha hb hc hd
  go_enter Tryz.func136, Tryz.ntmps136
  go_wp2_with (at_builtin; refine wpList_app_new _ rfl (.tmp 57) (.tmp 76) 92 rfl B hin Tryz.underlying92 _ l rfl (HRO.out _) _ 4 m rfl HL.out.symm (new_cells w _ _ (by rw [HB.out]; have := HE.out; simp; try omega) _) hl (by have := HL.out; omega) (by simp; omega) ?_)
  intro v6 w6 hr6 hg6
  have HR : Hid (Ro B w6 v6 (l ++ m) ∧ w.grownBy w6 (Value.slice ao l.length cap).ownBlock) := ⟨hr6, grown_alloc hg6⟩
  obtain ⟨ao6, cap6, rfl⟩ := hr6.shape
  clear hr6 hg6 HRO
  go_wp2
  go_ret
  exact ⟨_, rfl, HR.out.1, HR.out.2⟩
end Go.Proofs.YtcnnpohnfoaceaaGreatDoor.Text

/-
  The library: utf8.AppendRune. Package text: escapedByte.
-/
namespace Go.Proofs.YtcnnpohnfoaceaaGreatDoor.Text
open Go Go.RowKit Go.Lib
open Tx

theorem enc1 (r : Nat) (h : r < 128) : (Utf8.encode (r : Int)).data.toList = [UInt8.ofNat r] := by
  have hv : Utf8.valid (r : Int) = true := by simp [Utf8.valid]; omega
  unfold Utf8.encode
  simp only [hv, if_true, Int.toNat_natCast]
  rw [if_pos (by omega)]
theorem bc1 (x : Nat) (hx : x < 256) : bc [UInt8.ofNat x] = [Value.int .u8 (x : Int)] := by
  simp [bc, Nat.mod_eq_of_lt hx]
set_option maxRecDepth 100000 in
theorem appRune_any (r : Nat) (B : Nat) (v : Value) (l : List UInt8) (w : World) (hv : Utf8.valid (r : Int) = true) (hro : Ro B w v l) (hl : l.length ≤ 100000000) (hB : B ≤ w.heap.size) :
    Calls Tryz.prog 120 #[v, .int .i32 (r : Int)] w fun e w' => ∃ v', e = .returned v' ∧ Ro B w' v' (l ++ (Utf8.encode (r : Int)).data.toList) ∧ w.grownBy w' v.ownBlock := by
  have hv2 : r ≤ 1114111 ∧ (r < 55296 ∨ 57343 < r) := by
    simp [Utf8.valid] at hv
    omega
  by_cases h1 : r < 128
  · have hin := info5q
    obtain ⟨ao, cap, rfl⟩ := hro.shape
    rw [enc1 r h1]
    obtain ⟨x, hx⟩ : ∃ x : Int, (r : Int) = x := ⟨_, rfl⟩
    rw [hx]
    obtain ⟨m, hm⟩ : ∃ m : List UInt8, [UInt8.ofNat r] = m := ⟨_, rfl⟩
    have hml : m.length = 1 := by rw [← hm]; rfl
    have HB : Hid (bc m = [Value.int .u8 x]) := by
      show _ = _
      rw [← hm, bc1 r (by omega), hx]
    rw [hm]
    clear hm
    have h0i : 0 ≤ x := by omega
    have h1i : x ≤ 127 := by omega
    have HRO : Hid (∀ o, Ro B (w.alloc o) (.slice ao l.length cap) l) := fun o => hro.kept (up0 _ _)
    have HL : Hid (m.length = 1) := hml
    clear hro hml h1 hx hv hv2
    go_enter Tryz.func120, Tryz.ntmps120
    go_wp2_with (at_builtin; refine wpList_app_new _ rfl (.tmp 8) (.tmp 11) 92 rfl B hin Tryz.underlying92 _ l rfl (HRO.out _) _ 1 m rfl HL.out.symm (new_cells w _ _ (by rw [HB.out]) _) hl (by have := HL.out; omega) (by simp; omega) ?_)
    intro v6 w6 hr6 hg6
    have HR : Hid (Ro B w6 v6 (l ++ m) ∧ w.grownBy w6 (Value.slice ao l.length cap).ownBlock) := ⟨hr6, grown_alloc hg6⟩
    obtain ⟨ao6, cap6, rfl⟩ := hr6.shape
    clear hr6 hg6 HRO
    go_wp2
    go_ret
    exact ⟨_, rfl, HR.out.1, HR.out.2⟩
  · have HC : Hid (Calls Tryz.prog 136 #[v, .int .i32 (r : Int)] w fun e w' => ∃ v', e = .returned v' ∧ Ro B w' v' (l ++ (Utf8.encode (r : Int)).data.toList) ∧ w.grownBy w' v.ownBlock) := by
      show Calls _ _ _ _ _
      by_cases h2 : r ≤ 2047
      · exact appNon2 r B v l w (by omega) h2 hro hl hB
      by_cases h3 : r ≤ 65535
      · exact appNon3 r B v l w (by omega) h3 hv hv2.2 hro hl hB
      · exact appNon4 r B v l w (by omega) hv2.1 hv hro hl hB
    obtain ⟨x, hx⟩ : ∃ x : Int, (r : Int) = x := ⟨_, rfl⟩
    rw [hx] at HC ⊢
    have h0i : 128 ≤ x := by omega
    have h1i : x ≤ 1114111 := by omega
    obtain ⟨ao, cap, rfl⟩ := hro.shape
    clear hro hl hB hx hv hv2 h1
    go_enter Tryz.func120, Tryz.ntmps120
    go_wp2_with fail
    refine (HC.out).mono ?_
    rintro e w1 ⟨v1, rfl, h2, h3⟩
    have HR : Hid (Ro B w1 v1 (l ++ (Utf8.encode x).data.toList) ∧ w.grownBy w1 (Value.slice ao l.length cap).ownBlock) := ⟨h2, h3⟩
    obtain ⟨ao6, cap6, hsh⟩ := h2.shape
    obtain ⟨n6, hn6⟩ : ∃ n, (l ++ (Utf8.encode x).data.toList).length = n := ⟨_, rfl⟩
    rw [hn6] at hsh
    subst hsh
    clear h2 h3 HC hn6
    go_wp2
    go_ret
    exact ⟨_, rfl, HR.out.1, HR.out.2⟩

namespace Tx
/-- the digits of text.hexDigits -/
def hxs : ByteArray := ⟨#[48, 49, 50, 51, 52, 53, 54, 55, 56, 57, 97, 98, 99, 100, 101, 102]⟩
/-- a hexadecimal digit's value -/
def hv (c : Nat) : Option Nat := if 48 ≤ c ∧ c ≤ 57 then some (c - 48) else if 97 ≤ c ∧ c ≤ 102 then some (c - 87) else none
end Tx
theorem hv_lt {c n : Nat} (h : hv c = some n) : n < 16 := by
  unfold hv at h
  split at h
  · simp at h; omega
  · split at h
    · simp at h; omega
    · simp at h
theorem idx_hxs (c : Nat) (h : c < 256) : firstIdx hxs c.toUInt8 = ((hv c).map (fun n => (n : Int))).getD (-1) := by
  have key : ∀ c, c < 256 → firstIdx hxs c.toUInt8 = ((hv c).map (fun n => (n : Int))).getD (-1) := by decide +kernel
  exact key c h
/-- what escapedByte reads -/
def Tx.eb (s : ByteArray) : ByteArray × Nat :=
  if s.size < 4 then (⟨#[]⟩, 0) else
    match hv (at' s 2), hv (at' s 3) with
    | some a, some b => (⟨#[UInt8.ofNat (16 * a + b)]⟩, 4)
    | _, _ => (⟨#[]⟩, 0)
theorem shl4or (a b : Int) (h0 : 0 ≤ a) (h1 : a < 16) (h2 : 0 ≤ b) (h3 : b < 16) : bits .or .i64 (a * 16) b = a * 16 + b := by
  have key : ∀ a, a < 16 → ∀ b, b < 16 → bits .or .i64 (((a : Nat) : Int) * 16) ((b : Nat) : Int) = (a : Int) * 16 + (b : Int) := by decide +kernel
  have := key a.toNat (by omega) b.toNat (by omega)
  rwa [Int.toNat_of_nonneg h0, Int.toNat_of_nonneg h2] at this
theorem one_str (w : World) (g : Nat) (x : UInt8) (hc0 : w.cell? ⟨g, 0, none⟩ = some (.int .u8 (x.toNat : Int))) :
    (convert 92 9 (.slice (some ⟨g, 0, none⟩) 1 1)).run Tryz.prog w = .ok (.string ⟨#[x]⟩) w := by
  refine run_convert_bytes_back w 92 9 5 ⟨g, 0, none⟩ 1 [x] Tryz.underlying92 Tryz.underlying5 Tryz.underlying9 (fun j hj => ?_)
  match j, hj with
  | 0, _ => rw [Addr.add_lit]; exact hc0
set_option maxRecDepth 100000 in
theorem ebyte_any (s : ByteArray) (w : World) (hs : s.size ≤ 8000000) :
    Calls Tryz.prog 134 #[.string s] w fun e w' => e = .returned (.tuple #[.string (eb s).1, .int .i64 (eb s).2]) ∧ Below w.heap.size w w' := by
  by_cases h4 : s.size < 4
  · have HE : Hid (eb s = (⟨#[]⟩, 0)) := by show _ = _; unfold eb; rw [if_pos h4]
    rw [HE.out]
    go_enter Tryz.func134, Tryz.ntmps134
    go_wp2
    go_ret2
    exact ⟨rfl, Below.refl _ _⟩
  · have hl2 : 2 < s.size := by omega
    have hl3 : 3 < s.size := by omega
    obtain ⟨c, hc⟩ : ∃ c, (s[2]'hl2).toNat = c := ⟨_, rfl⟩
    obtain ⟨d, hd⟩ : ∃ c, (s[3]'hl3).toNat = c := ⟨_, rfl⟩
    have hc2 : at' s 2 = c := by rw [at_get s 2 hl2, hc]
    have hd2 : at' s 3 = d := by rw [at_get s 3 hl3, hd]
    have hcl : c < 256 := hc2 ▸ at_lt s 2
    have hdl : d < 256 := hd2 ▸ at_lt s 3
    have HC : Hid (∀ w', Calls Tryz.prog 108 #[.string hxs, .int .u8 (c : Int)] w' fun e w1 => e = .returned (.int .i64 (((hv c).map (fun n => (n : Int))).getD (-1))) ∧ w1 = w') := fun w' => idx_hxs c hcl ▸ indexByte_any hxs c w'
    have HD : Hid (∀ w', Calls Tryz.prog 108 #[.string hxs, .int .u8 (d : Int)] w' fun e w1 => e = .returned (.int .i64 (((hv d).map (fun n => (n : Int))).getD (-1))) ∧ w1 = w') := fun w' => idx_hxs d hdl ▸ indexByte_any hxs d w'
    cases hvc : hv c with
    | none =>
      have HE : Hid (eb s = (⟨#[]⟩, 0)) := by show _ = _; unfold eb; rw [if_neg h4, hc2, hvc]
      rw [HE.out]
      rw [hvc] at HC
      obtain ⟨y, hy⟩ : ∃ y : Int, ((hv d).map (fun n => (n : Int))).getD (-1) = y := ⟨_, rfl⟩
      rw [hy] at HD
      clear hc2 hd2 hy
      go_enter Tryz.func134, Tryz.ntmps134
      go_wp2_with fail
      refine (HC.out _).mono ?_
      rintro e w1 ⟨rfl, rfl⟩
      go_wp2_with fail
      refine (HD.out _).mono ?_
      rintro e w1 ⟨rfl, rfl⟩
      go_wp2
      go_ret2
      exact ⟨rfl, Below.refl _ _⟩
    | some a =>
      have ha := hv_lt hvc
      rw [hvc] at HC
      cases hvd : hv d with
      | none =>
        have HE : Hid (eb s = (⟨#[]⟩, 0)) := by show _ = _; unfold eb; rw [if_neg h4, hc2, hd2, hvc, hvd]
        rw [HE.out]
        rw [hvd] at HD
        clear hc2 hd2
        go_enter Tryz.func134, Tryz.ntmps134
        go_wp2_with fail
        refine (HC.out _).mono ?_
        rintro e w1 ⟨rfl, rfl⟩
        go_wp2_with fail
        refine (HD.out _).mono ?_
        rintro e w1 ⟨rfl, rfl⟩
        go_wp2
        go_ret2
        exact ⟨rfl, Below.refl _ _⟩
      | some b =>
        have hb := hv_lt hvd
        have HE : Hid (eb s = (⟨#[UInt8.ofNat (16 * a + b)]⟩, 4)) := by show _ = _; unfold eb; rw [if_neg h4, hc2, hd2, hvc, hvd]
        rw [HE.out]
        rw [hvd] at HD
        obtain ⟨x, hx⟩ : ∃ x : Int, (a : Int) = x := ⟨_, rfl⟩
        obtain ⟨y, hy⟩ : ∃ y : Int, (b : Int) = y := ⟨_, rfl⟩
        obtain ⟨z, hz⟩ : ∃ z, UInt8.ofNat (16 * a + b) = z := ⟨_, rfl⟩
        have hzn : (z.toNat : Int) = x * 16 + y := by
          rw [← hz, UInt8.toNat_ofNat_of_lt' (show 16 * a + b < 256 by omega)]
          omega
        rw [hz]
        have hx0 : 0 ≤ x := by omega
        have hx1 : x < 16 := by omega
        have hy0 : 0 ≤ y := by omega
        have hy1 : y < 16 := by omega
        have q1 := shl4or x y hx0 hx1 hy0 hy1
        obtain ⟨t, ht⟩ : ∃ t, x * 16 + y = t := ⟨_, rfl⟩
        rw [ht] at q1 hzn
        have ht0 : 0 ≤ t := by omega
        have ht1 : t < 256 := by omega
        have HC1 : Hid (∀ w', Calls Tryz.prog 108 #[.string hxs, .int .u8 (c : Int)] w' fun e w1 => e = .returned (.int .i64 x) ∧ w1 = w') := hx ▸ HC
        have HD1 : Hid (∀ w', Calls Tryz.prog 108 #[.string hxs, .int .u8 (d : Int)] w' fun e w1 => e = .returned (.int .i64 y) ∧ w1 = w') := hy ▸ HD
        have hcw := one_str (w.alloc (.cells #[.int .u8 t] 5)) w.heap.size z (by rw [World.cell?_alloc_new w _ _ 0, hzn]; rfl)
        clear hc2 hd2 ht hx hy hz hzn HC HD ha hb hvc hvd HE
        go_enter Tryz.func134, Tryz.ntmps134
        go_wp2_with fail
        refine (HC1.out _).mono ?_
        rintro e w1 ⟨rfl, rfl⟩
        go_wp2_with fail
        refine (HD1.out _).mono ?_
        rintro e w1 ⟨rfl, rfl⟩
        go_wp2
        go_ret2
        exact ⟨rfl, up0 _ _⟩
end Go.Proofs.YtcnnpohnfoaceaaGreatDoor.Text

/-
  The library: strings.IndexRune over the sixteen digits.
-/
namespace Go.Proofs.YtcnnpohnfoaceaaGreatDoor.Text
open Go Go.RowKit Go.Lib
open Tx

/-- a rune's value as a hexadecimal digit, or -1 -/
def Tx.hvi (r : Nat) : Int := ((hv r).map (fun n => (n : Int))).getD (-1)
theorem hvi_far (r : Nat) (h : 128 ≤ r) : hvi r = -1 := by
  unfold hvi hv
  rw [if_neg (by omega), if_neg (by omega)]
  rfl
theorem hxs_dec : ∀ p, p < 16 → (Utf8.decode hxs p).2 = 1 ∧ (Utf8.decode hxs p).1 < 128 := by decide +kernel
theorem hxs_size : hxs.size = 16 := by decide +kernel
set_option maxRecDepth 100000 in
theorem irune_low (r : Nat) (w : World) (h : r < 128) :
    Calls Tryz.prog 94 #[.string hxs, .int .i32 (r : Int)] w fun e w' => e = .returned (.int .i64 (hvi r)) ∧ w' = w := by
  have HC : Hid (∀ w', Calls Tryz.prog 108 #[.string hxs, .int .u8 (r : Int)] w' fun e w1 => e = .returned (.int .i64 (hvi r)) ∧ w1 = w') := fun w' => by
    show Calls _ _ _ _ _
    have h1 := indexByte_any hxs r w'
    rw [idx_hxs r (by omega)] at h1
    exact h1
  generalize hvi r = k at *
  generalize hxs = S at *
  go_enter Tryz.func94, Tryz.ntmps94
  go_wp2_with fail
  refine (HC.out _).mono ?_
  rintro e w1 ⟨rfl, rfl⟩
  go_wp2
  go_ret
  exact ⟨rfl, rfl⟩
set_option maxRecDepth 100000 in
theorem irune_bad (w : World) :
    Calls Tryz.prog 94 #[.string hxs, .int .i32 65533] w fun e w' => e = .returned (.int .i64 (-1)) ∧ Below w.heap.size w w' := by
  have HS := hxs_size
  have HD : Hid (∀ p, p < 16 → (Utf8.decode hxs p).2 = 1 ∧ (Utf8.decode hxs p).1 < 128) := hxs_dec
  generalize hxs = s at *
  have HI : Hid ((w.iter s 0).heap[w.heap.size]? = some (.stringIter s 0)) := World.iter_heap w s 0
  have HB : Hid (Below w.heap.size w (w.iter s 0)) := up_iter w s 0
  go_enter Tryz.func94, Tryz.ntmps94
  go_wp2
  go_loopw [] (fun wr => ∃ (p : Nat), p ≤ s.size ∧ wr.heap[w.heap.size]? = some (.stringIter s p) ∧ Below w.heap.size w wr) (fun wr => s.size - wr.iterPos w.heap.size)
  case atStart => exact ⟨0, Nat.zero_le _, HI.out, HB.out⟩
  case round =>
    obtain ⟨p, hp, hit, hbel⟩ := hrel
    have HPOS : Hid (wr.iterPos w.heap.size = p) := iter_pos hit
    clear HI HB
    by_cases hlt : p < s.size
    · have hd := HD.out p (by omega)
      have hnx : ∀ ty, (Instr.next (.pointer (some ⟨w.heap.size, 0, none⟩)) true ty).run Tryz.prog wr = _ := fun ty => run_next_at wr w.heap.size s p ty hit hlt
      have HI2 : Hid ((setIter wr w.heap.size s (p + (Utf8.decode s p).2)).heap[w.heap.size]? = some (.stringIter s (p + (Utf8.decode s p).2))) := iter_at wr w.heap.size s _ _ hit
      have hB2 : Below w.heap.size w (setIter wr w.heap.size s (p + (Utf8.decode s p).2)) := below_iter hbel _ (Nat.le_refl _) s _
      clear hbel hit
      rw [hd.1] at HI2 hB2
      have hd1 := hd.1
      have hd2 := hd.2
      simp only [hd1] at hnx
      clear hd hd1
      generalize setIter wr w.heap.size s (p + 1) = w2 at *
      obtain ⟨x, hx⟩ : ∃ x : Nat, (Utf8.decode s p).1 = x := ⟨_, rfl⟩
      rw [hx] at hnx hd2
      clear hx
      go_wp2
      go_roundw
      case rel => exact ⟨p + 1, by omega, HI2.out, hB2⟩
      case measure => rw [iter_pos HI2.out, HPOS.out]; omega
    · have hnx : ∀ ty, (Instr.next (.pointer (some ⟨w.heap.size, 0, none⟩)) true ty).run Tryz.prog wr = _ := fun ty => run_next_over wr w.heap.size s p ty hit hlt
      clear hit
      go_wp2
      go_ret
      exact ⟨rfl, hbel⟩
theorem no_high (s : ByteArray) (c : UInt8) (h : 128 ≤ c.toNat) (hs : ∀ i, (hi : i < s.size) → (s[i]'hi).toNat < 128) : firstIdx s c = -1 := by
  unfold firstIdx
  rw [show (List.range s.size).find? (fun i => s[i]! == c) = none from ?_]
  rw [List.find?_eq_none]
  intro i hi
  have hlt : i < s.size := List.mem_range.1 hi
  have := hs i hlt
  rw [getElem!_pos s i hlt]
  intro he
  have e : s[i]'hlt = c := by simpa using he
  rw [e] at this
  omega
theorem hxs_part : ∀ k, k < 5 → ∀ i, i < (hxs.extract k 16).size → ((hxs.extract k 16).get! i).toNat < 128 := by decide +kernel
theorem idx_part (k : Nat) (hk : k < 5) (c : Nat) (h : 128 ≤ c) (h2 : c < 256) : firstIdx (hxs.extract k 16) c.toUInt8 = -1 := by
  refine no_high _ _ (by rw [show c.toUInt8.toNat = c from by simp; omega]; exact h) fun i hi => ?_
  have h3 : at' (hxs.extract k 16) i < 128 := hxs_part k hk i hi
  rwa [at_get _ i hi] at h3
end Go.Proofs.YtcnnpohnfoaceaaGreatDoor.Text

/-
  The library: strings.IndexRune over the sixteen digits, at a rune of two bytes and more.
-/
namespace Go.Proofs.YtcnnpohnfoaceaaGreatDoor.Text
open Go Go.RowKit Go.Lib
open Tx
set_option maxRecDepth 100000 in
set_option maxHeartbeats 2000000 in
theorem irune_far2 (S E : ByteArray) (x : Int) (w : World) (h : 128 ≤ x) (h1 : x ≤ 1114111) (h2 : x ≠ 65533) (hv : Utf8.valid x = true) (hE : Utf8.encode x = E) (hn : E.size = 2) (c : Nat) (hc : (E[1]'(by omega)).toNat = c) (hc0 : 128 ≤ c) (hc1 : c < 256)
    (hx1 : S.size = 16) (hx2 : (S[1]'(by omega)).toNat = 49) (HI : Hid (∀ w', Calls Tryz.prog 108 #[.string (S.extract 2 16), .int .u8 (c : Int)] w' fun e w1 => e = .returned (.int .i64 (-1)) ∧ w1 = w')) :
    Calls Tryz.prog 94 #[.string S, .int .i32 x] w fun e w' => e = .returned (.int .i64 (-1)) ∧ Below w.heap.size w w' := by
  have hcv : ∀ w', (convert 21 9 (.int .i32 x)).run Tryz.prog w' = .ok (.string E) w' := fun w' => by rw [← hE]; exact run_convert_int_string w' 21 9 .i32 x (by kernel_rfl) Tryz.underlying9
  have hw2 : IntKind.i64.wrap 2 = 2 := by decide
  have HV : Hid (Utf8.valid x = true) := hv
  clear hv
  go_enter Tryz.func94, Tryz.ntmps94
  go_wp2_with fail
  refine (validRune_any _ _).mono ?_
  rw [HV.out]
  rintro e w1 ⟨rfl, rfl⟩
  go_wp2
  go_step3
  go_wp2
  go_loopw [9, 10] (fun i k wr => i = .int .i64 1 ∧ k = .int .i64 0 ∧ wr = w1) (fun _ _ _ => 0)
  case atStart => exact ⟨by go_num, rfl, rfl⟩
  case round =>
    obtain ⟨rfl, rfl, rfl⟩ := hrel
    go_wp2
    go_step3
    go_wp2
    go_quiet (fail)
    have B5 := below_drewN (Below.refl wr.heap.size wr) nq
    generalize wr.drewN nq = w5 at *
    go_wp2
    go_quiet (first | (go_at_call 108; refine Calls.quiet_of_same (HI.out _)))
    go_wp2
    dsimp +zetaDelta only [Exit.noGoto, Exit.inBlock, Exit.then]
    go_ret
    exact ⟨rfl, below_drewN B5 _⟩
set_option maxRecDepth 100000 in
set_option maxHeartbeats 2000000 in
theorem irune_far3 (S E : ByteArray) (x : Int) (w : World) (h : 128 ≤ x) (h1 : x ≤ 1114111) (h2 : x ≠ 65533) (hv : Utf8.valid x = true) (hE : Utf8.encode x = E) (hn : E.size = 3) (c : Nat) (hc : (E[2]'(by omega)).toNat = c) (hc0 : 128 ≤ c) (hc1 : c < 256)
    (hx1 : S.size = 16) (hx2 : (S[2]'(by omega)).toNat = 50) (HI : Hid (∀ w', Calls Tryz.prog 108 #[.string (S.extract 3 16), .int .u8 (c : Int)] w' fun e w1 => e = .returned (.int .i64 (-1)) ∧ w1 = w')) :
    Calls Tryz.prog 94 #[.string S, .int .i32 x] w fun e w' => e = .returned (.int .i64 (-1)) ∧ Below w.heap.size w w' := by
  have hcv : ∀ w', (convert 21 9 (.int .i32 x)).run Tryz.prog w' = .ok (.string E) w' := fun w' => by rw [← hE]; exact run_convert_int_string w' 21 9 .i32 x (by kernel_rfl) Tryz.underlying9
  have hw2 : IntKind.i64.wrap 3 = 3 := by decide
  have HV : Hid (Utf8.valid x = true) := hv
  clear hv
  go_enter Tryz.func94, Tryz.ntmps94
  go_wp2_with fail
  refine (validRune_any _ _).mono ?_
  rw [HV.out]
  rintro e w1 ⟨rfl, rfl⟩
  go_wp2
  go_step3
  go_wp2
  go_loopw [9, 10] (fun i k wr => i = .int .i64 2 ∧ k = .int .i64 0 ∧ wr = w1) (fun _ _ _ => 0)
  case atStart => exact ⟨by go_num, rfl, rfl⟩
  case round =>
    obtain ⟨rfl, rfl, rfl⟩ := hrel
    go_wp2
    go_step3
    go_wp2
    go_quiet (fail)
    have B5 := below_drewN (Below.refl wr.heap.size wr) nq
    generalize wr.drewN nq = w5 at *
    go_wp2
    go_quiet (first | (go_at_call 108; refine Calls.quiet_of_same (HI.out _)))
    go_wp2
    dsimp +zetaDelta only [Exit.noGoto, Exit.inBlock, Exit.then]
    go_ret
    exact ⟨rfl, below_drewN B5 _⟩
set_option maxRecDepth 100000 in
set_option maxHeartbeats 2000000 in
theorem irune_far4 (S E : ByteArray) (x : Int) (w : World) (h : 128 ≤ x) (h1 : x ≤ 1114111) (h2 : x ≠ 65533) (hv : Utf8.valid x = true) (hE : Utf8.encode x = E) (hn : E.size = 4) (c : Nat) (hc : (E[3]'(by omega)).toNat = c) (hc0 : 128 ≤ c) (hc1 : c < 256)
    (hx1 : S.size = 16) (hx2 : (S[3]'(by omega)).toNat = 51) (HI : Hid (∀ w', Calls Tryz.prog 108 #[.string (S.extract 4 16), .int .u8 (c : Int)] w' fun e w1 => e = .returned (.int .i64 (-1)) ∧ w1 = w')) :
    Calls Tryz.prog 94 #[.string S, .int .i32 x] w fun e w' => e = .returned (.int .i64 (-1)) ∧ Below w.heap.size w w' := by
  have hcv : ∀ w', (convert 21 9 (.int .i32 x)).run Tryz.prog w' = .ok (.string E) w' := fun w' => by rw [← hE]; exact run_convert_int_string w' 21 9 .i32 x (by kernel_rfl) Tryz.underlying9
  have hw2 : IntKind.i64.wrap 4 = 4 := by decide
  have HV : Hid (Utf8.valid x = true) := hv
  clear hv
  go_enter Tryz.func94, Tryz.ntmps94
  go_wp2_with fail
  refine (validRune_any _ _).mono ?_
  rw [HV.out]
  rintro e w1 ⟨rfl, rfl⟩
  go_wp2
  go_step3
  go_wp2
  go_loopw [9, 10] (fun i k wr => i = .int .i64 3 ∧ k = .int .i64 0 ∧ wr = w1) (fun _ _ _ => 0)
  case atStart => exact ⟨by go_num, rfl, rfl⟩
  case round =>
    obtain ⟨rfl, rfl, rfl⟩ := hrel
    go_wp2
    go_step3
    go_wp2
    go_quiet (fail)
    have B5 := below_drewN (Below.refl wr.heap.size wr) nq
    generalize wr.drewN nq = w5 at *
    go_wp2
    go_quiet (first | (go_at_call 108; refine Calls.quiet_of_same (HI.out _)))
    go_wp2
    dsimp +zetaDelta only [Exit.noGoto, Exit.inBlock, Exit.then]
    go_ret
    exact ⟨rfl, below_drewN B5 _⟩

theorem part_idx (k : Nat) (hk : k < 5) (c : Nat) (h0 : 128 ≤ c) (h1 : c < 256) (w' : World) : Calls Tryz.prog 108 #[.string (hxs.extract k 16), .int .u8 (c : Int)] w' fun e w1 => e = .returned (.int .i64 (-1)) ∧ w1 = w' := by
  have h := indexByte_any (hxs.extract k 16) c w'
  rw [idx_part k hk c h0 h1] at h
  exact h
theorem hxs_at : ∀ k, (h : k < hxs.size) → k < 4 → (hxs[k]'h).toNat = 48 + k := by decide +kernel
theorem last_byte (E : ByteArray) (l : List UInt8) (h : E.data.toList = l) (n : Nat) (hn : l.length = n) (k : Nat) (c : UInt8) (hk : l[k]? = some c) (hkE : k < E.size) : E.size = n ∧ (E[k]'hkE).toNat = c.toNat := by
  refine ⟨by rw [← hn, ← h]; simp, ?_⟩
  have e : E.data.toList[k]? = some c := by rw [h]; exact hk
  have e2 : E[k]'hkE = c := by
    have := List.getElem?_eq_some_iff.1 e
    obtain ⟨_, h3⟩ := this
    have h4 : E.data[k] = c := by simpa using h3
    exact h4
  rw [e2]
end Go.Proofs.YtcnnpohnfoaceaaGreatDoor.Text

/-
  The library: strings.IndexRune over the sixteen digits, at every rune.
-/
namespace Go.Proofs.YtcnnpohnfoaceaaGreatDoor.Text
open Go Go.RowKit Go.Lib
open Tx
theorem valid_two (r : Nat) (hv : Utf8.valid (r : Int) = true) : r ≤ 1114111 ∧ (r < 55296 ∨ 57343 < r) := by
  simp [Utf8.valid] at hv
  omega
theorem tail_byte (r : Nat) : (UInt8.ofNat (128 + r % 64)).toNat = 128 + r % 64 := UInt8.toNat_ofNat_of_lt' (show 128 + r % 64 < 256 by omega)
theorem size_list (E : ByteArray) : E.size = E.data.toList.length := by simp
theorem irune_b2 (r : Nat) (w : World) (hv : Utf8.valid (r : Int) = true) (h1 : 128 ≤ r) (h3 : r ≤ 2047) :
    Calls Tryz.prog 94 #[.string hxs, .int .i32 (r : Int)] w fun e w' => e = .returned (.int .i64 (-1)) ∧ Below w.heap.size w w' := by
  have hl := enc2 r h1 h3
  have hs : (Utf8.encode (r : Int)).size = 2 := by rw [size_list, hl]; rfl
  have hb := (last_byte _ _ hl 2 rfl 1 _ rfl (by omega)).2.trans (tail_byte r)
  have b0 : (128 : Int) ≤ r := by omega
  have b1 : (r : Int) ≤ 1114111 := by omega
  have b2 : (r : Int) ≠ 65533 := by omega
  exact irune_far2 hxs _ (r : Int) w b0 b1 b2 hv rfl hs (128 + r % 64) hb (by omega) (by omega) hxs_size (hxs_at 1 _ (by omega)) (part_idx 2 (by omega) _ (by omega) (by omega))
theorem irune_b3 (r : Nat) (w : World) (hv : Utf8.valid (r : Int) = true) (h1 : 2048 ≤ r) (h3 : r ≤ 65535) (b1 : (r : Int) ≤ 1114111) (b2 : (r : Int) ≠ 65533) :
    Calls Tryz.prog 94 #[.string hxs, .int .i32 (r : Int)] w fun e w' => e = .returned (.int .i64 (-1)) ∧ Below w.heap.size w w' := by
  have hl := enc3 r h1 h3 hv
  have hs : (Utf8.encode (r : Int)).size = 3 := by rw [size_list, hl]; rfl
  have hb := (last_byte _ _ hl 3 rfl 2 _ rfl (by omega)).2.trans (tail_byte r)
  have b0 : (128 : Int) ≤ r := by omega
  exact irune_far3 hxs _ (r : Int) w b0 b1 b2 hv rfl hs (128 + r % 64) hb (by omega) (by omega) hxs_size (hxs_at 2 _ (by omega)) (part_idx 3 (by omega) _ (by omega) (by omega))
theorem irune_b4 (r : Nat) (w : World) (hv : Utf8.valid (r : Int) = true) (h1 : 65536 ≤ r) (b1 : (r : Int) ≤ 1114111) (b2 : (r : Int) ≠ 65533) :
    Calls Tryz.prog 94 #[.string hxs, .int .i32 (r : Int)] w fun e w' => e = .returned (.int .i64 (-1)) ∧ Below w.heap.size w w' := by
  have hl := enc4 r h1 hv
  have hs : (Utf8.encode (r : Int)).size = 4 := by rw [size_list, hl]; rfl
  have hb := (last_byte _ _ hl 4 rfl 3 _ rfl (by omega)).2.trans (tail_byte r)
  have b0 : (128 : Int) ≤ r := by omega
  exact irune_far4 hxs _ (r : Int) w b0 b1 b2 hv rfl hs (128 + r % 64) hb (by omega) (by omega) hxs_size (hxs_at 3 _ (by omega)) (part_idx 4 (by omega) _ (by omega) (by omega))
theorem irune_any (r : Nat) (w : World) (hv : Utf8.valid (r : Int) = true) :
    Calls Tryz.prog 94 #[.string hxs, .int .i32 (r : Int)] w fun e w' => e = .returned (.int .i64 (hvi r)) ∧ Below w.heap.size w w' := by
  by_cases h1 : r < 128
  · refine (irune_low r w h1).mono ?_
    rintro e w' ⟨rfl, rfl⟩
    exact ⟨rfl, Below.refl _ _⟩
  rw [hvi_far r (by omega)]
  have hv2 := valid_two r hv
  have b1 : (r : Int) ≤ 1114111 := by omega
  by_cases b2 : (r : Int) = 65533
  · rw [b2]
    exact irune_bad w
  by_cases h3 : r ≤ 2047
  · exact irune_b2 r w hv (by omega) h3
  by_cases h4 : r ≤ 65535
  · exact irune_b3 r w hv (by omega) h4 b1 b2
  · exact irune_b4 r w hv (by omega) b1 b2
end Go.Proofs.YtcnnpohnfoaceaaGreatDoor.Text
