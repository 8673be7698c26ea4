/- The document's cut, word, turn and three. -/
import Derived.Test.YtjlmmlnldjandaaGreatDoorShD
import Derived.Test.YtjlmmlnldjandaaGreatDoorShAX
import Derived.Deep.QuietTactic
namespace Go.Proofs.YtjlmmlnldjandaaGreatDoor
open Go.RowKit
set_option linter.unusedVariables false
set_option linter.unusedSimpArgs false
def RetUs (n : Nat) (w : World) (e : Ending) (w' : World) : Prop := e = .returned (.int .u64 (n : Int)) ∧ w = w'
theorem sh_toNat (x : Nat) (h : x < 18446744073709551616) : (BitVec.ofInt 64 (x : Int)).toNat = x := by
  rw [BitVec.toNat_ofInt]
  omega
theorem sh_or (x y : Nat) (hx : x < 18446744073709551616) (hy : y < 18446744073709551616) : bits .or .u64 (x : Int) (y : Int) = ((x ||| y : Nat) : Int) := by
  show IntKind.u64.wrap ((BitVec.ofInt 64 (x : Int) ||| BitVec.ofInt 64 (y : Int)).toNat : Nat) = _
  rw [BitVec.toNat_or, sh_toNat x hx, sh_toNat y hy]
  have := Nat.or_lt_two_pow (n := 64) hx hy
  simp [IntKind.wrap, IntKind.bits, IntKind.signed]
  omega
theorem sh_xor (x y : Nat) (hx : x < 18446744073709551616) (hy : y < 18446744073709551616) : bits .xor .u64 (x : Int) (y : Int) = ((x ^^^ y : Nat) : Int) := by
  show IntKind.u64.wrap ((BitVec.ofInt 64 (x : Int) ^^^ BitVec.ofInt 64 (y : Int)).toNat : Nat) = _
  rw [BitVec.toNat_xor, sh_toNat x hx, sh_toNat y hy]
  have := Nat.xor_lt_two_pow (n := 64) hx hy
  simp [IntKind.wrap, IntKind.bits, IntKind.signed]
  omega
theorem sh_shr (x n : Nat) : (x : Int) / (2 : Int) ^ n = ((x >>> n : Nat) : Int) := by
  rw [Nat.shiftRight_eq_div_pow, Int.natCast_ediv]
  simp
theorem sh_shl (x m : Nat) : IntKind.u64.wrap ((x : Int) * (2 : Int) ^ m) = (((x <<< m) % 2 ^ 64 : Nat) : Int) := by
  rw [show (x : Int) * (2 : Int) ^ m = ((x <<< m : Nat) : Int) by rw [Nat.shiftLeft_eq]; simp]
  generalize x <<< m = q
  simp [IntKind.wrap, IntKind.bits, IntKind.signed]
theorem u64_fit (n : Nat) (h : n < 2 ^ 64) : IntKind.u64.wrap (n : Int) = (n : Int) := by simp [IntKind.wrap, IntKind.bits, IntKind.signed]; omega
/-- a kind, and its words' bits -/
def kb (kind : Int) (b : Nat) : Prop := (kind = 256 ∧ b = 32) ∨ (kind ≠ 256 ∧ b = 64)
set_option maxRecDepth 100000 in
theorem cut_any (g x b : Nat) (kind : Int) (w : World) (hk : w.cell? ⟨g, 0, none⟩ = some (.int .i64 kind)) (hb : kb kind b) : Calls Tryz.prog 81 #[.pointer (some ⟨g, 0, none⟩), .int .u64 (x : Int)] w (RetUs (Sh.cut b x) w) := by
  have s1 : (x : Int) / (4294967296 : Int) = ((x >>> 32 : Nat) : Int) := sh_shr x 32
  rcases hb with ⟨rfl, rfl⟩ | ⟨hne, rfl⟩
  · have S1 := Lib.hid s1
    clear s1
    go_enter Tryz.func81, Tryz.ntmps81
    go_wp2_with fail
    go_ret
    exact ⟨by show Ending.returned (.int .u64 ((x : Int) / 4294967296)) = _; rw [S1.out]; rfl, rfl⟩
  · have e1 : (kind == 256) = false := by rw [beq_eq_false_iff_ne]; exact hne
    clear s1
    go_enter Tryz.func81, Tryz.ntmps81
    go_wp2_with fail
    go_ret
    exact ⟨rfl, rfl⟩
set_option maxRecDepth 100000 in
theorem word_any3 (g x b : Nat) (kind : Int) (w : World) (hx : x < 2 ^ 64) (hk : w.cell? ⟨g, 0, none⟩ = some (.int .i64 kind)) (hb : kb kind b) : Calls Tryz.prog 130 #[.pointer (some ⟨g, 0, none⟩), .int .u64 (x : Int)] w (RetUs (x % 2 ^ b) w) := by
  rcases hb with ⟨rfl, rfl⟩ | ⟨hne, rfl⟩
  · obtain ⟨y, hy⟩ : ∃ y, x % 2 ^ 32 = y := ⟨_, rfl⟩
    have e2 : (x : Int).tmod 4294967296 = (y : Int) := u64_tmod x 4294967296 _ hy
    have e4 : IntKind.u64.wrap (y : Int) = (y : Int) := u64_fit _ (by omega)
    rw [hy]
    clear hy hx
    go_enter Tryz.func130, Tryz.ntmps130
    go_wp2_with fail
    go_ret
    exact ⟨rfl, rfl⟩
  · have e1 : (kind == 256) = false := by rw [beq_eq_false_iff_ne]; exact hne
    rw [Nat.mod_eq_of_lt hx]
    clear hx
    go_enter Tryz.func130, Tryz.ntmps130
    go_wp2_with fail
    go_ret
    exact ⟨rfl, rfl⟩
set_option maxRecDepth 100000 in
theorem turn_any3 (g x n b : Nat) (kind : Int) (w : World) (hx : x < 2 ^ b) (hn : 0 < n) (hnb : n < b) (hk : w.cell? ⟨g, 0, none⟩ = some (.int .i64 kind)) (hb : kb kind b) : Calls Tryz.prog 142 #[.pointer (some ⟨g, 0, none⟩), .int .u64 (x : Int), .int .u64 (n : Int)] w (RetUs (Sh.rotR b x n) w) := by
  have hx64 : x < 2 ^ 64 := by
    rcases hb with ⟨_, rfl⟩ | ⟨_, rfl⟩
    · omega
    · exact hx
  obtain ⟨p, hp⟩ : ∃ p, x >>> n = p := ⟨_, rfl⟩
  have hpl : p < 2 ^ 64 := by rw [← hp, Nat.shiftRight_eq_div_pow]; exact Nat.lt_of_le_of_lt (Nat.div_le_self _ _) hx64
  have s1 := sh_shr x n
  rw [hp] at s1
  obtain ⟨m, hm⟩ : ∃ m, b - n = m := ⟨_, rfl⟩
  have s2 := sh_shl x m
  obtain ⟨q, hq⟩ : ∃ q, (x <<< m) % 2 ^ 64 = q := ⟨_, rfl⟩
  have hql : q < 2 ^ 64 := by rw [← hq]; exact Nat.mod_lt _ (by decide)
  rw [hq] at s2
  have s3 := sh_or p q hpl hql
  obtain ⟨o, ho⟩ : ∃ o, p ||| q = o := ⟨_, rfl⟩
  rw [ho] at s3
  have hol : o < 2 ^ 64 := by rw [← ho]; exact Nat.or_lt_two_pow hpl hql
  have n1 : (n : Int) < 64 := by rcases hb with ⟨_, rfl⟩ | ⟨_, rfl⟩ <;> omega
  have m1 : (m : Int) < 64 := by rcases hb with ⟨_, rfl⟩ | ⟨_, rfl⟩ <;> omega
  have m2 : IntKind.u64.wrap (m : Int) = (m : Int) := u64_fit _ (by omega)
  rcases hb with ⟨rfl, rfl⟩ | ⟨hne, rfl⟩
  · have m3 : (32 : Int) - (n : Int) = (m : Int) := by omega
    have hr : Sh.rotR 32 x n = o % 2 ^ 32 := by
      have e : x <<< m < 2 ^ 64 := by
        rw [Nat.shiftLeft_eq]
        calc x * 2 ^ m ≤ (2 ^ 32 - 1) * 2 ^ 32 := Nat.mul_le_mul (by omega) (Nat.pow_le_pow_right (by decide) (by omega))
          _ < 2 ^ 64 := by decide
      rw [Sh.rotR, hm, hp, ← ho, ← hq, Nat.mod_eq_of_lt e]
    have W := Lib.hid (fun w hk => word_any3 g o 32 256 w hol hk (.inl ⟨rfl, rfl⟩))
    have HR := Lib.hid hr
    have HK := Lib.hid hk
    clear hr hp hm hq ho hx hx64 hpl hql hol hn hnb
    go_enter Tryz.func142, Tryz.ntmps142
    go_wp2_with fail
    refine (W.out _ HK.out).mono ?_
    rintro e w1 ⟨rfl, rfl⟩
    go_wp2_with fail
    go_ret
    exact ⟨by rw [HR.out]; rfl, rfl⟩
  · have e1 : (kind == 256) = false := by rw [beq_eq_false_iff_ne]; exact hne
    have m3 : (64 : Int) - (n : Int) = (m : Int) := by omega
    have hr : Sh.rotR 64 x n = o := by
      rw [Sh.rotR, hm, hp, Nat.or_mod_two_pow, hq, Nat.mod_eq_of_lt hpl, ho]
    have HR := Lib.hid hr
    clear hr hp hm hq ho hx hx64 hpl hql hol hn hnb
    go_enter Tryz.func142, Tryz.ntmps142
    go_wp2_with fail
    go_ret
    exact ⟨by rw [HR.out]; rfl, rfl⟩
set_option maxRecDepth 100000 in
set_option maxHeartbeats 1600000 in
/-- turned by two, and turned or shifted by a third -/
theorem three_any (g x b i : Nat) (sh : Bool) (kind : Int) (w : World) (hx : x < 2 ^ b) (hi : i = 0 ∨ i = 3 ∨ i = 6 ∨ i = 9) (hk : w.cell? ⟨g, 0, none⟩ = some (.int .i64 kind)) (hb : kb kind b) (hT : ∀ j, j < 12 → w.cell? ⟨g, 13 + j, none⟩ = some (.int .u64 ((Sh.tn b j : Nat) : Int))) :
    Calls Tryz.prog 131 #[.pointer (some ⟨g, 0, none⟩), .int .u64 (x : Int), .int .i64 (i : Int), .bool sh] w (fun e w' => e = .returned (.int .u64 (((if sh then Sh.sB b i x else Sh.sA b i x) : Nat) : Int)) ∧ ∃ n, w' = w.drewN n) := by
  have tl : ∀ j, j < 12 → 0 < Sh.tn b j ∧ Sh.tn b j < b := by
    rcases hb with ⟨_, rfl⟩ | ⟨_, rfl⟩ <;> decide
  have hx64 : x < 2 ^ 64 := by
    rcases hb with ⟨_, rfl⟩ | ⟨_, rfl⟩
    · omega
    · exact hx
  have hrl : ∀ n, Sh.rotR b x n < 2 ^ 64 := fun n => by
    have h : Sh.rotR b x n < 2 ^ b := Nat.mod_lt _ (Nat.two_pow_pos b)
    rcases hb with ⟨_, rfl⟩ | ⟨_, rfl⟩
    · omega
    · exact h
  obtain ⟨t0, ht0⟩ : ∃ t, Sh.tn b i = t := ⟨_, rfl⟩
  obtain ⟨t1, ht1⟩ : ∃ t, Sh.tn b (i + 1) = t := ⟨_, rfl⟩
  obtain ⟨t2, ht2⟩ : ∃ t, Sh.tn b (i + 2) = t := ⟨_, rfl⟩
  have c0 := hT i (by omega)
  have c1 := hT (i + 1) (by omega)
  have c2 := hT (i + 2) (by omega)
  rw [ht0] at c0
  rw [ht1] at c1
  rw [ht2] at c2
  have l0 := tl i (by omega)
  have l1 := tl (i + 1) (by omega)
  have l2 := tl (i + 2) (by omega)
  rw [ht0] at l0
  rw [ht1] at l1
  rw [ht2] at l2
  have b64 : b ≤ 64 := by rcases hb with ⟨_, rfl⟩ | ⟨_, rfl⟩ <;> decide
  have T0 := Lib.hid (fun w hk => turn_any3 g x t0 b kind w hx l0.1 l0.2 hk hb)
  have T1 := Lib.hid (fun w hk => turn_any3 g x t1 b kind w hx l1.1 l1.2 hk hb)
  have T2 := Lib.hid (fun w hk => turn_any3 g x t2 b kind w hx l2.1 l2.2 hk hb)
  obtain ⟨r0, hr0⟩ : ∃ r, Sh.rotR b x t0 = r := ⟨_, rfl⟩
  obtain ⟨r1, hr1⟩ : ∃ r, Sh.rotR b x t1 = r := ⟨_, rfl⟩
  obtain ⟨r2, hr2⟩ : ∃ r, Sh.rotR b x t2 = r := ⟨_, rfl⟩
  have h0 := hrl t0
  have h1 := hrl t1
  have h2 := hrl t2
  rw [hr0] at h0 T0
  rw [hr1] at h1 T1
  rw [hr2] at h2 T2
  have x01 := sh_xor r0 r1 h0 h1
  have h01 : r0 ^^^ r1 < 2 ^ 64 := Nat.xor_lt_two_pow h0 h1
  have s2 := sh_shr x t2
  obtain ⟨p, hp⟩ : ∃ p, x >>> t2 = p := ⟨_, rfl⟩
  have hpl : p < 2 ^ 64 := by rw [← hp, Nat.shiftRight_eq_div_pow]; exact Nat.lt_of_le_of_lt (Nat.div_le_self _ _) hx64
  rw [hp] at s2
  have xa := sh_xor (r0 ^^^ r1) r2 h01 h2
  have xb := sh_xor (r0 ^^^ r1) p h01 hpl
  have hA : Sh.sA b i x = (r0 ^^^ r1) ^^^ r2 := by rw [Sh.sA, ht0, ht1, ht2, hr0, hr1, hr2]
  have hB : Sh.sB b i x = (r0 ^^^ r1) ^^^ p := by rw [Sh.sB, ht0, ht1, ht2, hr0, hr1, hp]
  have HAB := Lib.hid (And.intro hA hB)
  have HC := Lib.hid (And.intro hk (And.intro c0 c1))
  have t2l : (t2 : Int) < 64 := by omega
  clear ht0 ht1 ht2 hr0 hr1 hr2 hp h0 h1 h2 h01 hpl l0 l1 l2 hx hx64 hrl tl hT hA hB hb b64
  have HKn : ∀ n, (w.drewN n).cell? ⟨g, 0, none⟩ = some (.int .i64 kind) := fun n => hk
  have Q0 := Lib.hid (fun n => (T0.out (w.drewN n) (HKn n)).mono fun e w' (h : RetUs r0 _ e w') => (⟨h.1, h.2.symm⟩ : e = .returned (.int .u64 (r0 : Int)) ∧ w' = w.drewN n))
  have Q1 := Lib.hid (fun n => (T1.out (w.drewN n) (HKn n)).mono fun e w' (h : RetUs r1 _ e w') => (⟨h.1, h.2.symm⟩ : e = .returned (.int .u64 (r1 : Int)) ∧ w' = w.drewN n))
  clear HKn
  rcases hi with rfl | rfl | rfl | rfl
  · simp only [Nat.zero_add, Nat.add_zero, Nat.reduceAdd] at c0 c1 c2
    cases sh
    · go_enter Tryz.func131, Tryz.ntmps131
      go_wp2_with fail
      refine (T2.out _ HC.out.1).mono ?_
      rintro e w1 ⟨rfl, rfl⟩
      go_wp2_with fail
      go_quiet (first
        | (go_at_call_of 142 (Value.int IntKind.u64 (t0 : Int)); exact Calls.quiet_of_same (Q0.out _))
        | (go_at_call_of 142 (Value.int IntKind.u64 (t1 : Int)); exact Calls.quiet_of_same (Q1.out _)))
      go_wp2_with fail
      go_ret
      exact ⟨by first | (rw [HAB.out.1]; rfl) | (simp only [HAB.out.1]; rfl), _, rfl⟩
    · go_enter Tryz.func131, Tryz.ntmps131
      go_wp2_with fail
      refine (T2.out _ HC.out.1).mono ?_
      rintro e w1 ⟨rfl, rfl⟩
      go_wp2_with fail
      go_quiet (first
        | (go_at_call_of 142 (Value.int IntKind.u64 (t0 : Int)); exact Calls.quiet_of_same (Q0.out _))
        | (go_at_call_of 142 (Value.int IntKind.u64 (t1 : Int)); exact Calls.quiet_of_same (Q1.out _)))
      go_wp2_with fail
      go_ret
      exact ⟨by first | (rw [HAB.out.2]; rfl) | (simp only [HAB.out.2]; rfl), _, rfl⟩
  · simp only [Nat.zero_add, Nat.add_zero, Nat.reduceAdd] at c0 c1 c2
    cases sh
    · go_enter Tryz.func131, Tryz.ntmps131
      go_wp2_with fail
      refine (T2.out _ HC.out.1).mono ?_
      rintro e w1 ⟨rfl, rfl⟩
      go_wp2_with fail
      go_quiet (first
        | (go_at_call_of 142 (Value.int IntKind.u64 (t0 : Int)); exact Calls.quiet_of_same (Q0.out _))
        | (go_at_call_of 142 (Value.int IntKind.u64 (t1 : Int)); exact Calls.quiet_of_same (Q1.out _)))
      go_wp2_with fail
      go_ret
      exact ⟨by first | (rw [HAB.out.1]; rfl) | (simp only [HAB.out.1]; rfl), _, rfl⟩
    · go_enter Tryz.func131, Tryz.ntmps131
      go_wp2_with fail
      refine (T2.out _ HC.out.1).mono ?_
      rintro e w1 ⟨rfl, rfl⟩
      go_wp2_with fail
      go_quiet (first
        | (go_at_call_of 142 (Value.int IntKind.u64 (t0 : Int)); exact Calls.quiet_of_same (Q0.out _))
        | (go_at_call_of 142 (Value.int IntKind.u64 (t1 : Int)); exact Calls.quiet_of_same (Q1.out _)))
      go_wp2_with fail
      go_ret
      exact ⟨by first | (rw [HAB.out.2]; rfl) | (simp only [HAB.out.2]; rfl), _, rfl⟩
  · simp only [Nat.zero_add, Nat.add_zero, Nat.reduceAdd] at c0 c1 c2
    cases sh
    · go_enter Tryz.func131, Tryz.ntmps131
      go_wp2_with fail
      refine (T2.out _ HC.out.1).mono ?_
      rintro e w1 ⟨rfl, rfl⟩
      go_wp2_with fail
      go_quiet (first
        | (go_at_call_of 142 (Value.int IntKind.u64 (t0 : Int)); exact Calls.quiet_of_same (Q0.out _))
        | (go_at_call_of 142 (Value.int IntKind.u64 (t1 : Int)); exact Calls.quiet_of_same (Q1.out _)))
      go_wp2_with fail
      go_ret
      exact ⟨by first | (rw [HAB.out.1]; rfl) | (simp only [HAB.out.1]; rfl), _, rfl⟩
    · go_enter Tryz.func131, Tryz.ntmps131
      go_wp2_with fail
      refine (T2.out _ HC.out.1).mono ?_
      rintro e w1 ⟨rfl, rfl⟩
      go_wp2_with fail
      go_quiet (first
        | (go_at_call_of 142 (Value.int IntKind.u64 (t0 : Int)); exact Calls.quiet_of_same (Q0.out _))
        | (go_at_call_of 142 (Value.int IntKind.u64 (t1 : Int)); exact Calls.quiet_of_same (Q1.out _)))
      go_wp2_with fail
      go_ret
      exact ⟨by first | (rw [HAB.out.2]; rfl) | (simp only [HAB.out.2]; rfl), _, rfl⟩
  · simp only [Nat.zero_add, Nat.add_zero, Nat.reduceAdd] at c0 c1 c2
    cases sh
    · go_enter Tryz.func131, Tryz.ntmps131
      go_wp2_with fail
      refine (T2.out _ HC.out.1).mono ?_
      rintro e w1 ⟨rfl, rfl⟩
      go_wp2_with fail
      go_quiet (first
        | (go_at_call_of 142 (Value.int IntKind.u64 (t0 : Int)); exact Calls.quiet_of_same (Q0.out _))
        | (go_at_call_of 142 (Value.int IntKind.u64 (t1 : Int)); exact Calls.quiet_of_same (Q1.out _)))
      go_wp2_with fail
      go_ret
      exact ⟨by first | (rw [HAB.out.1]; rfl) | (simp only [HAB.out.1]; rfl), _, rfl⟩
    · go_enter Tryz.func131, Tryz.ntmps131
      go_wp2_with fail
      refine (T2.out _ HC.out.1).mono ?_
      rintro e w1 ⟨rfl, rfl⟩
      go_wp2_with fail
      go_quiet (first
        | (go_at_call_of 142 (Value.int IntKind.u64 (t0 : Int)); exact Calls.quiet_of_same (Q0.out _))
        | (go_at_call_of 142 (Value.int IntKind.u64 (t1 : Int)); exact Calls.quiet_of_same (Q1.out _)))
      go_wp2_with fail
      go_ret
      exact ⟨by first | (rw [HAB.out.2]; rfl) | (simp only [HAB.out.2]; rfl), _, rfl⟩
end Go.Proofs.YtjlmmlnldjandaaGreatDoor
