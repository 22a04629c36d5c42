/-
  The library: utf8.ValidRune, strings.IndexByte, utf8.AppendRune.
-/
import Derived.Test.YtbabckchfabbkaaDoorQuo
import Derived.Laws.Externs
namespace Go.Proofs.YtbabckchfabbkaaDoor
open Go Go.RowKit Go.Lib
open Tx

theorem validRune_any (r : Int) (w : World) :
    Calls Tryd.prog 79 #[.int .i32 r] w fun e w' => e = .returned (.bool (Utf8.valid r)) ∧ w' = w := by
  by_cases h0 : 0 ≤ r
  · by_cases h1 : r < 55296
    · have H : Hid (Utf8.valid r = true) := by show _ = _; simp [Utf8.valid]; omega
      rw [H.out]
      go_enter Tryd.func79, Tryd.ntmps79
      go_wp2
      go_ret
      exact ⟨rfl, rfl⟩
    · by_cases h2 : 57343 < r
      · by_cases h3 : r ≤ 1114111
        · have H : Hid (Utf8.valid r = true) := by show _ = _; simp [Utf8.valid]; omega
          rw [H.out]
          go_enter Tryd.func79, Tryd.ntmps79
          go_wp2
          go_ret
          exact ⟨rfl, rfl⟩
        · have H : Hid (Utf8.valid r = false) := by show _ = _; simp [Utf8.valid]; omega
          rw [H.out]
          go_enter Tryd.func79, Tryd.ntmps79
          go_wp2
          go_ret
          exact ⟨rfl, rfl⟩
      · have H : Hid (Utf8.valid r = false) := by show _ = _; simp [Utf8.valid]; omega
        rw [H.out]
        go_enter Tryd.func79, Tryd.ntmps79
        go_wp2
        go_ret
        exact ⟨rfl, rfl⟩
  · have h2 : ¬ 57343 < r := by omega
    have H : Hid (Utf8.valid r = false) := by show _ = _; simp [Utf8.valid]; omega
    rw [H.out]
    go_enter Tryd.func79, Tryd.ntmps79
    go_wp2
    go_ret
    exact ⟨rfl, rfl⟩
theorem run_ib (s : ByteArray) (c : Nat) (w : World) : (callFunc 101 #[.string s, .int .u8 (c : Int)]).run Tryd.prog w = .ok (.value (.int .i64 (firstIdx s c.toUInt8))) w := by
  have h := run_callFunc_extern (P := Tryd.prog) (f := 101) (fn := Tryd.f101) (e := Extern.BytealgIndexByte.indexByte) (args := #[.string s, .int .u8 (c : Int)]) (w := w) Tryd.func101 (by kernel_rfl) (by kernel_rfl) (by kernel_rfl) (by kernel_rfl)
  rw [h, run_indexByte_string]
  rfl
theorem sliteIB (s : ByteArray) (c : Nat) (w : World) :
    Calls Tryd.prog 88 #[.string s, .int .u8 (c : Int)] w fun e w' => e = .returned (.int .i64 (firstIdx s c.toUInt8)) ∧ w' = w := by
  have hx := run_ib s c w
  generalize firstIdx s c.toUInt8 = k at *
  go_enter Tryd.func88, Tryd.ntmps88
  go_wp2
  go_ret
  exact ⟨rfl, rfl⟩
theorem indexByte_any (s : ByteArray) (c : Nat) (w : World) :
    Calls Tryd.prog 78 #[.string s, .int .u8 (c : Int)] w fun e w' => e = .returned (.int .i64 (firstIdx s c.toUInt8)) ∧ w' = w := by
  go_enter Tryd.func78, Tryd.ntmps78
  go_wp2_with fail
  refine (sliteIB s c _).mono ?_
  rintro e w1 ⟨rfl, rfl⟩
  go_wp2
  go_ret
  exact ⟨rfl, rfl⟩

/-- append(v, c..) of some bytes of a new row -/
theorem wpList_app_new {P : Program} (w : World) {ops : Array Oper} {rest : List Oper} {o : Oper} {a : Act} {Q : Exit → Act → World → Prop} (hgd : o.guard = none) (s x : Operand) (t : TypeId)
    (ho : o.op = .call { callee := .builtin .append, args := #[s, x], argTypes := #[t, t] })
    (B : Nat) (hinfo : ∃ i, P.info? 5 = some i ∧ i.zero = some (.int .u8 0) ∧ i.size = 1 ∧ i.bytes = 1) (ht : P.underlying t = some (.slice 5))
    (v : Value) (l : List UInt8) (hv : a.eval s = v) (h : Ro B w v l) (g n : Nat) (m : List UInt8) (hx : a.eval x = .slice (some ⟨g, 0, none⟩) n n) (hn : n = m.length) (hc : ∀ j (h : j < m.length), w.cell? ⟨g, j, none⟩ = some (.int .u8 (m[j].toNat : Int))) (hl : l.length ≤ 100000000) (hm : m.length ≤ 100) (hB : B ≤ w.heap.size)
    (hK : ∀ v' w', Ro B w' v' (l ++ m) → w.grownBy w' v.ownBlock → wpList P ops Q rest (a.put o.dst v') w') : wpList P ops Q (o :: rest) a w := by
  obtain ⟨i, hi, hz, h1, h2⟩ := hinfo
  subst hn
  refine wpList_append_own w hgd s x t ho B 5 i (.int .u8 0) 1 1 ht hi hz h1 h2 rfl (by decide) v l.length (bc l) hv h ⟨g, 0, none⟩ m.length m.length (bc m) hx (by rw [bc_len, Nat.mul_one]) ?_ (by intro u hu; simp [bc] at hu; obtain ⟨b, _, rfl⟩ := hu; rfl) (by unfold maxLen; omega) (by omega) hB fun v' w' h3 h4 _ => hK v' w' ?_ h4
  · intro j u hj
    have hjl : j < m.length := by have := (List.getElem?_eq_some_iff.1 hj).1; rwa [bc_len] at this
    rw [Addr.add_lit, Nat.zero_add, hc j hjl]
    simp [bc, hjl] at hj
    rw [← hj]
  · show w'.ownsRow B 5 1 v' (l ++ m).length (bc (l ++ m))
    have e2 : bc (l ++ m) = bc l ++ bc m := by simp [bc]
    rw [List.length_append, e2]
    exact h3
theorem new_cells (w : World) (m : List UInt8) (cs : Array Value) (hcs : cs.toList = bc m) (t : TypeId) : ∀ j (h : j < m.length), (w.alloc (.cells cs t)).cell? ⟨w.heap.size, j, none⟩ = some (.int .u8 (m[j].toNat : Int)) := by
  intro j h
  rw [World.cell?_alloc_new w _ _ j, ← Array.getElem?_toList, hcs]
  simp [bc, h]
theorem grown_alloc {w w' : World} {o : Obj} {g : Option Nat} (h : (w.alloc o).grownBy w' g) : w.grownBy w' g := by
  have hb := up0 w o
  refine ⟨h.os.trans hb.os, h.tape.trans hb.tape, h.output.trans hb.output, Nat.le_trans hb.size h.size, fun k hk hne => ?_⟩
  rw [h.block k (Nat.lt_of_lt_of_le hk hb.size) hne, hb.block k hk]

/-- the four shapes of a rune's bytes, as the library makes them -/
theorem enc2 (r : Nat) (h0 : 128 ≤ r) (h1 : r ≤ 2047) : (Utf8.encode (r : Int)).data.toList = [UInt8.ofNat (192 + r / 64), UInt8.ofNat (128 + r % 64)] := by
  have hv : Utf8.valid (r : Int) = true := by simp [Utf8.valid]; omega
  unfold Utf8.encode
  simp only [hv, if_true, Int.toNat_natCast]
  rw [if_neg (by omega), if_pos (by omega)]
theorem enc3 (r : Nat) (h0 : 2048 ≤ r) (h1 : r ≤ 65535) (hv : Utf8.valid (r : Int) = true) : (Utf8.encode (r : Int)).data.toList = [UInt8.ofNat (224 + r / 4096), UInt8.ofNat (128 + r / 64 % 64), UInt8.ofNat (128 + r % 64)] := by
  unfold Utf8.encode
  simp only [hv, if_true, Int.toNat_natCast]
  rw [if_neg (by omega), if_neg (by omega), if_pos (by omega)]
theorem enc4 (r : Nat) (h0 : 65536 ≤ r) (hv : Utf8.valid (r : Int) = true) : (Utf8.encode (r : Int)).data.toList = [UInt8.ofNat (240 + r / 262144), UInt8.ofNat (128 + r / 4096 % 64), UInt8.ofNat (128 + r / 64 % 64), UInt8.ofNat (128 + r % 64)] := by
  unfold Utf8.encode
  simp only [hv, if_true, Int.toNat_natCast]
  rw [if_neg (by omega), if_neg (by omega), if_neg (by omega)]
theorem and63 (n b : Nat) (h : n % 64 = b) : bits .and .u8 (IntKind.u8.wrap (n : Int)) 63 = (b : Int) := by
  have e : IntKind.u8.wrap (n : Int) = ((n % 256 : Nat) : Int) := by
    simp [IntKind.wrap, IntKind.bits, IntKind.signed]
  rw [e]
  have h0 := u8_and_nat (n % 256) 63 (by omega) (by decide)
  have e2 : (n % 256) &&& 63 = (n % 256) % 64 := Nat.and_two_pow_sub_one_eq_mod (n % 256) 6
  rw [e2, show (n % 256) % 64 = b by omega] at h0
  exact h0
theorem bc2 (x y : Nat) (hx : x < 256) (hy : y < 256) : bc [UInt8.ofNat x, UInt8.ofNat y] = [Value.int .u8 (x : Int), .int .u8 (y : Int)] := by
  simp [bc, Nat.mod_eq_of_lt hx, Nat.mod_eq_of_lt hy]
theorem bc3 (x y z : Nat) (hx : x < 256) (hy : y < 256) (hz : z < 256) : bc [UInt8.ofNat x, UInt8.ofNat y, UInt8.ofNat z] = [Value.int .u8 (x : Int), .int .u8 (y : Int), .int .u8 (z : Int)] := by
  simp [bc, Nat.mod_eq_of_lt hx, Nat.mod_eq_of_lt hy, Nat.mod_eq_of_lt hz]
theorem bc4 (x y z u : Nat) (hx : x < 256) (hy : y < 256) (hz : z < 256) (hu : u < 256) : bc [UInt8.ofNat x, UInt8.ofNat y, UInt8.ofNat z, UInt8.ofNat u] = [Value.int .u8 (x : Int), .int .u8 (y : Int), .int .u8 (z : Int), .int .u8 (u : Int)] := by
  simp [bc, Nat.mod_eq_of_lt hx, Nat.mod_eq_of_lt hy, Nat.mod_eq_of_lt hz, Nat.mod_eq_of_lt hu]
theorem or192 (a : Int) (h0 : 0 ≤ a) (h : a < 32) : bits .or .u8 192 a = 192 + a := by
  have key : ∀ a, a < 32 → bits .or .u8 192 ((a : Nat) : Int) = 192 + (a : Int) := by decide +kernel
  have := key a.toNat (by omega)
  rwa [Int.toNat_of_nonneg h0] at this
theorem or224 (a : Int) (h0 : 0 ≤ a) (h : a < 16) : bits .or .u8 224 a = 224 + a := by
  have key : ∀ a, a < 16 → bits .or .u8 224 ((a : Nat) : Int) = 224 + (a : Int) := by decide +kernel
  have := key a.toNat (by omega)
  rwa [Int.toNat_of_nonneg h0] at this
theorem or240 (a : Int) (h0 : 0 ≤ a) (h : a < 8) : bits .or .u8 240 a = 240 + a := by
  have key : ∀ a, a < 8 → bits .or .u8 240 ((a : Nat) : Int) = 240 + (a : Int) := by decide +kernel
  have := key a.toNat (by omega)
  rwa [Int.toNat_of_nonneg h0] at this
theorem or128 (a : Int) (h0 : 0 ≤ a) (h : a < 64) : bits .or .u8 128 a = 128 + a := by
  have key : ∀ a, a < 64 → bits .or .u8 128 ((a : Nat) : Int) = 128 + (a : Int) := by decide +kernel
  have := key a.toNat (by omega)
  rwa [Int.toNat_of_nonneg h0] at this
set_option maxRecDepth 100000 in
theorem appNon2 (r : Nat) (B : Nat) (v : Value) (l : List UInt8) (w : World) (h0 : 128 ≤ r) (h1 : r ≤ 2047) (hro : Ro B w v l) (hl : l.length ≤ 100000000) (hB : B ≤ w.heap.size) :
    Calls Tryd.prog 70 #[v, .int .i32 (r : Int)] w fun e w' => ∃ v', e = .returned v' ∧ Ro B w' v' (l ++ (Utf8.encode (r : Int)).data.toList) ∧ w.grownBy w' v.ownBlock := by
  have hin := info5q
  obtain ⟨ao, cap, rfl⟩ := hro.shape
  rw [enc2 r h0 h1]
  obtain ⟨x, hx⟩ : ∃ x : Int, (r : Int) = x := ⟨_, rfl⟩
  rw [hx]
  obtain ⟨a, ha⟩ : ∃ a : Int, x / 64 = a := ⟨_, rfl⟩
  obtain ⟨b, hb⟩ : ∃ b : Int, x % 64 = b := ⟨_, rfl⟩
  obtain ⟨m, hm⟩ : ∃ m : List UInt8, [UInt8.ofNat (192 + r / 64), UInt8.ofNat (128 + r % 64)] = m := ⟨_, rfl⟩
  have hml : m.length = 2 := by rw [← hm]; rfl
  have HB : Hid (bc m = [Value.int .u8 (192 + a), Value.int .u8 (128 + b)]) := by
    show _ = _
    rw [← hm, bc2 (192 + r / 64) (128 + r % 64) (by omega) (by omega)]
    simp only [List.cons.injEq, Value.int.injEq, true_and, and_true]
    omega
  rw [hm]
  clear hm
  have h0i : (128 : Int) ≤ x := by omega
  have h1i : x ≤ 2047 := by omega
  have ha0 : 0 ≤ a := by omega
  have hal : a < 32 := by omega
  have q1 := or192 a ha0 hal
  have hb0 : 0 ≤ b := by omega
  have hbl : b < 64 := by omega
  have q2b := or128 b hb0 hbl
  have q5b : bits .and .u8 (IntKind.u8.wrap (x)) 63 = b := by
    have h := and63 (r) (r % 64) rfl
    rw [show (((r : Nat)) : Int) = x by omega] at h
    rw [h]
    omega
  have q4 : IntKind.u8.wrap a = a := by
    simp [IntKind.wrap, IntKind.bits, IntKind.signed]
    omega
  have HRO : Hid (∀ o, Ro B (w.alloc o) (.slice ao l.length cap) l) := fun o => hro.kept (up0 _ _)
  have HL : Hid (m.length = 2) := hml
  have HE : Hid (x % 64 = b) := hb
  have q3 := ha
  clear hro hml h0 h1 hx  ha hb
  go_enter Tryd.func70, Tryd.ntmps70
  go_wp2_with (at_builtin; refine wpList_app_new _ rfl (.tmp 14) (.tmp 23) 66 rfl B hin Tryd.underlying66 _ l rfl (HRO.out _) _ 2 m rfl HL.out.symm (new_cells w _ _ (by rw [HB.out]; have := HE.out; simp; try omega) _) hl (by have := HL.out; omega) (by simp; omega) ?_)
  intro v6 w6 hr6 hg6
  have HR : Hid (Ro B w6 v6 (l ++ m) ∧ w.grownBy w6 (Value.slice ao l.length cap).ownBlock) := ⟨hr6, grown_alloc hg6⟩
  obtain ⟨ao6, cap6, rfl⟩ := hr6.shape
  clear hr6 hg6 HRO
  go_wp2
  go_ret
  exact ⟨_, rfl, HR.out.1, HR.out.2⟩
set_option maxRecDepth 100000 in
theorem appNon3 (r : Nat) (B : Nat) (v : Value) (l : List UInt8) (w : World) (h0 : 2048 ≤ r) (h1 : r ≤ 65535) (hv : Utf8.valid (r : Int) = true) (hs : r < 55296 ∨ 57343 < r) (hro : Ro B w v l) (hl : l.length ≤ 100000000) (hB : B ≤ w.heap.size) :
    Calls Tryd.prog 70 #[v, .int .i32 (r : Int)] w fun e w' => ∃ v', e = .returned v' ∧ Ro B w' v' (l ++ (Utf8.encode (r : Int)).data.toList) ∧ w.grownBy w' v.ownBlock := by
  have hin := info5q
  obtain ⟨ao, cap, rfl⟩ := hro.shape
  rw [enc3 r h0 h1 hv]
  obtain ⟨x, hx⟩ : ∃ x : Int, (r : Int) = x := ⟨_, rfl⟩
  rw [hx]
  obtain ⟨a, ha⟩ : ∃ a : Int, x / 4096 = a := ⟨_, rfl⟩
  obtain ⟨b, hb⟩ : ∃ b : Int, x / 64 % 64 = b := ⟨_, rfl⟩
  obtain ⟨c, hc⟩ : ∃ c : Int, x % 64 = c := ⟨_, rfl⟩
  obtain ⟨m, hm⟩ : ∃ m : List UInt8, [UInt8.ofNat (224 + r / 4096), UInt8.ofNat (128 + r / 64 % 64), UInt8.ofNat (128 + r % 64)] = m := ⟨_, rfl⟩
  have hml : m.length = 3 := by rw [← hm]; rfl
  have HB : Hid (bc m = [Value.int .u8 (224 + a), Value.int .u8 (128 + b), Value.int .u8 (128 + c)]) := by
    show _ = _
    rw [← hm, bc3 (224 + r / 4096) (128 + r / 64 % 64) (128 + r % 64) (by omega) (by omega) (by omega)]
    simp only [List.cons.injEq, Value.int.injEq, true_and, and_true]
    omega
  rw [hm]
  clear hm
  have h0i : (2048 : Int) ≤ x := by omega
  have h1i : x ≤ 65535 := by omega
  have hsi : x < 55296 ∨ 57343 < x := by omega
  have ha0 : 0 ≤ a := by omega
  have hal : a < 16 := by omega
  have q1 := or224 a ha0 hal
  have hb0 : 0 ≤ b := by omega
  have hbl : b < 64 := by omega
  have q2b := or128 b hb0 hbl
  have hc0 : 0 ≤ c := by omega
  have hcl : c < 64 := by omega
  have q2c := or128 c hc0 hcl
  have q5b : bits .and .u8 (IntKind.u8.wrap (x / 64)) 63 = b := by
    have h := and63 (r / 64) (r / 64 % 64) rfl
    rw [show (((r / 64 : Nat)) : Int) = x / 64 by omega] at h
    rw [h]
    omega
  have q5c : bits .and .u8 (IntKind.u8.wrap (x)) 63 = c := by
    have h := and63 (r) (r % 64) rfl
    rw [show (((r : Nat)) : Int) = x by omega] at h
    rw [h]
    omega
  have q4 : IntKind.u8.wrap a = a := by
    simp [IntKind.wrap, IntKind.bits, IntKind.signed]
    omega
  have HRO : Hid (∀ o, Ro B (w.alloc o) (.slice ao l.length cap) l) := fun o => hro.kept (up0 _ _)
  have HL : Hid (m.length = 3) := hml
  have HE : Hid (x / 64 % 64 = b ∧ x % 64 = c) := ⟨hb, hc⟩
  have q3 := ha
  clear hro hml h0 h1 hx hv hs ha hb hc
  rcases hsi with hsi | hsi
  · go_enter Tryd.func70, Tryd.ntmps70
    go_wp2_with (at_builtin; refine wpList_app_new _ rfl (.tmp 34) (.tmp 48) 66 rfl B hin Tryd.underlying66 _ l rfl (HRO.out _) _ 3 m rfl HL.out.symm (new_cells w _ _ (by rw [HB.out]; have := HE.out; simp; try omega) _) hl (by have := HL.out; omega) (by simp; omega) ?_)
    intro v6 w6 hr6 hg6
    have HR : Hid (Ro B w6 v6 (l ++ m) ∧ w.grownBy w6 (Value.slice ao l.length cap).ownBlock) := ⟨hr6, grown_alloc hg6⟩
    obtain ⟨ao6, cap6, rfl⟩ := hr6.shape
    clear hr6 hg6 HRO
    go_wp2
    go_ret
    exact ⟨_, rfl, HR.out.1, HR.out.2⟩
  · go_enter Tryd.func70, Tryd.ntmps70
    go_wp2_with (at_builtin; refine wpList_app_new _ rfl (.tmp 34) (.tmp 48) 66 rfl B hin Tryd.underlying66 _ l rfl (HRO.out _) _ 3 m rfl HL.out.symm (new_cells w _ _ (by rw [HB.out]; have := HE.out; simp; try omega) _) hl (by have := HL.out; omega) (by simp; omega) ?_)
    intro v6 w6 hr6 hg6
    have HR : Hid (Ro B w6 v6 (l ++ m) ∧ w.grownBy w6 (Value.slice ao l.length cap).ownBlock) := ⟨hr6, grown_alloc hg6⟩
    obtain ⟨ao6, cap6, rfl⟩ := hr6.shape
    clear hr6 hg6 HRO
    go_wp2
    go_ret
    exact ⟨_, rfl, HR.out.1, HR.out.2⟩
set_option maxRecDepth 100000 in
theorem appNon4 (r : Nat) (B : Nat) (v : Value) (l : List UInt8) (w : World) (h0 : 65536 ≤ r) (h1 : r ≤ 1114111) (hv : Utf8.valid (r : Int) = true) (hro : Ro B w v l) (hl : l.length ≤ 100000000) (hB : B ≤ w.heap.size) :
    Calls Tryd.prog 70 #[v, .int .i32 (r : Int)] w fun e w' => ∃ v', e = .returned v' ∧ Ro B w' v' (l ++ (Utf8.encode (r : Int)).data.toList) ∧ w.grownBy w' v.ownBlock := by
  have hin := info5q
  obtain ⟨ao, cap, rfl⟩ := hro.shape
  rw [enc4 r h0 hv]
  obtain ⟨x, hx⟩ : ∃ x : Int, (r : Int) = x := ⟨_, rfl⟩
  rw [hx]
  obtain ⟨a, ha⟩ : ∃ a : Int, x / 262144 = a := ⟨_, rfl⟩
  obtain ⟨b, hb⟩ : ∃ b : Int, x / 4096 % 64 = b := ⟨_, rfl⟩
  obtain ⟨c, hc⟩ : ∃ c : Int, x / 64 % 64 = c := ⟨_, rfl⟩
  obtain ⟨d, hd⟩ : ∃ d : Int, x % 64 = d := ⟨_, rfl⟩
  obtain ⟨m, hm⟩ : ∃ m : List UInt8, [UInt8.ofNat (240 + r / 262144), UInt8.ofNat (128 + r / 4096 % 64), UInt8.ofNat (128 + r / 64 % 64), UInt8.ofNat (128 + r % 64)] = m := ⟨_, rfl⟩
  have hml : m.length = 4 := by rw [← hm]; rfl
  have HB : Hid (bc m = [Value.int .u8 (240 + a), Value.int .u8 (128 + b), Value.int .u8 (128 + c), Value.int .u8 (128 + d)]) := by
    show _ = _
    rw [← hm, bc4 (240 + r / 262144) (128 + r / 4096 % 64) (128 + r / 64 % 64) (128 + r % 64) (by omega) (by omega) (by omega) (by omega)]
    simp only [List.cons.injEq, Value.int.injEq, true_and, and_true]
    omega
  rw [hm]
  clear hm
  have h0i : (65536 : Int) ≤ x := by omega
  have h1i : x ≤ 1114111 := by omega
  have ha0 : 0 ≤ a := by omega
  have hal : a < 8 := by omega
  have q1 := or240 a ha0 hal
  have hb0 : 0 ≤ b := by omega
  have hbl : b < 64 := by omega
  have q2b := or128 b hb0 hbl
  have hc0 : 0 ≤ c := by omega
  have hcl : c < 64 := by omega
  have q2c := or128 c hc0 hcl
  have hd0 : 0 ≤ d := by omega
  have hdl : d < 64 := by omega
  have q2d := or128 d hd0 hdl
  have q5b : bits .and .u8 (IntKind.u8.wrap (x / 4096)) 63 = b := by
    have h := and63 (r / 4096) (r / 4096 % 64) rfl
    rw [show (((r / 4096 : Nat)) : Int) = x / 4096 by omega] at h
    rw [h]
    omega
  have q5c : bits .and .u8 (IntKind.u8.wrap (x / 64)) 63 = c := by
    have h := and63 (r / 64) (r / 64 % 64) rfl
    rw [show (((r / 64 : Nat)) : Int) = x / 64 by omega] at h
    rw [h]
    omega
  have q5d : bits .and .u8 (IntKind.u8.wrap (x)) 63 = d := by
    have h := and63 (r) (r % 64) rfl
    rw [show (((r : Nat)) : Int) = x by omega] at h
    rw [h]
    omega
  have q4 : IntKind.u8.wrap a = a := by
    simp [IntKind.wrap, IntKind.bits, IntKind.signed]
    omega
  have HRO : Hid (∀ o, Ro B (w.alloc o) (.slice ao l.length cap) l) := fun o => hro.kept (up0 _ _)
  have HL : Hid (m.length = 4) := hml
  have HE : Hid (x / 4096 % 64 = b ∧ x / 64 % 64 = c ∧ x % 64 = d) := ⟨hb, hc, hd⟩
  have q3 := ha
  clear hro hml h0 h1 hx hv ha hb hc hd
  go_enter Tryd.func70, Tryd.ntmps70
  go_wp2_with (at_builtin; refine wpList_app_new _ rfl (.tmp 57) (.tmp 76) 66 rfl B hin Tryd.underlying66 _ l rfl (HRO.out _) _ 4 m rfl HL.out.symm (new_cells w _ _ (by rw [HB.out]; have := HE.out; simp; try omega) _) hl (by have := HL.out; omega) (by simp; omega) ?_)
  intro v6 w6 hr6 hg6
  have HR : Hid (Ro B w6 v6 (l ++ m) ∧ w.grownBy w6 (Value.slice ao l.length cap).ownBlock) := ⟨hr6, grown_alloc hg6⟩
  obtain ⟨ao6, cap6, rfl⟩ := hr6.shape
  clear hr6 hg6 HRO
  go_wp2
  go_ret
  exact ⟨_, rfl, HR.out.1, HR.out.2⟩
end Go.Proofs.YtbabckchfabbkaaDoor
