/- A head, an item of text or bytes: the program's and the document's. -/
import Derived.Test.YtikgonlhdkknkaaDoorCuC
import Derived.Test.YtikgonlhdkknkaaDoorCeS
import Derived.Test.YtikgonlhdkknkaaDoorCeT
import Derived.Test.YtikgonlhdkknkaaDoorCqH
namespace Go.Proofs.YtikgonlhdkknkaaDoor
open Go.RowKit
set_option linter.unusedVariables false
set_option linter.unusedSimpArgs false
namespace Ce
open Co (Am Ra up rcells rv UT DecR enc Its holds tell okA hdN infN widN bytesN infN_lt)
theorem widN_le (n : Nat) : widN n ≤ 8 := by
  rw [widN]
  repeat' split
  all_goals omega
theorem head_bytes (k n f : Nat) (hf : 32 * k = f) (s : ByteArray) (hs : s.toList = hdN 0 n) (b : Nat) (hb : b = infN n) : (⟨[UInt8.ofNat (b + f)].toArray⟩ : ByteArray) ++ s.extract 1 s.size = bs (hdN k n) := by
  refine tl_inj ?_
  rw [bs_list, Co.tl_app, tl_mk, Co.tl_extract, hs, hdN, hdN, hb, ← hf, Nat.add_comm (infN n)]
  have h1 : s.size = (bytesN (widN n) n).length + 1 := by rw [← tl_size, hs, hdN, List.length_cons]
  rw [h1]
  simp
theorem enc_num (n : Nat) (hn : n < 18446744073709551616) : enc Lib.validD [⟨0, n, []⟩] = (hdN 0 n, 0) := by
  have hI : Its 0 [⟨0, n, []⟩] [hdN 0 n] true := by
    have h := Its.leaf (a := ⟨0, n, []⟩) rfl .nil
    exact h
  have ha : Apart (hdN 0 n) [⟨0, n, []⟩] 32 := by
    refine ⟨⟨0, hI, by decide⟩, ?_, ?_, by decide, ?_⟩
    · intro a ha
      simp only [List.mem_cons, List.mem_nil_iff, or_false] at ha
      subst ha
      exact ⟨hn, (by decide : (0 : Nat) < 18446744073709551616), .inl ⟨.inl rfl, rfl⟩⟩
    · show 1 ≤ 4096; decide
    · rw [Co.hdN_length]; have := widN_le n; omega
  exact ha.enc
set_option maxRecDepth 100000 in
set_option maxHeartbeats 1600000 in
theorem chead_any (k n : Nat) (hk : k = 2 ∨ k = 3 ∨ k = 4) (hn : n ≤ 140737488351232) (w : World) (hU : UT w.heap.size w) :
    Calls Tryd.prog 33 #[.int .i64 (k : Int), .int .i64 (n : Int)] w (fun e w' => e = .returned (.string (bs (hdN k n))) ∧ Below w.heap.size w w') := by
  have hb0 : Below w.heap.size w (w.alloc (Obj.cells #[.int .i64 0, .int .u64 (n : Int), .string ⟨#[]⟩] 51)) := (Below.refl _ _).alloc (Nat.le_refl _) _
  have HB0 := Lib.hid hb0
  have EN := Co.cencode_anyO [⟨0, n, []⟩] (.slice (some ⟨w.heap.size, 0, none⟩) 1 1) (w.alloc (Obj.cells #[.int .i64 0, .int .u64 (n : Int), .string ⟨#[]⟩] 51))
    ⟨some ⟨w.heap.size, 0, none⟩, 1, rfl, fun _ => ⟨w.heap.size, 0, rfl, At.ofAlloc w #[.int .i64 0, .int .u64 (n : Int), .string ⟨#[]⟩] 51, by simp⟩⟩
    (by intro a ha; simp only [List.mem_cons, List.mem_nil_iff, or_false] at ha; subst ha; show n < _; omega) (by intro a ha; simp only [List.mem_cons, List.mem_nil_iff, or_false] at ha; subst ha; exact Nat.zero_le _) (by show 1 ≤ 140737488351232; decide) (hU.at hb0)
  rw [enc_num n (by omega)] at EN
  have EN := Lib.hid EN
  have e1 : IntKind.u64.wrap (n : Int) = (n : Int) := by rw [IntKind.wrap_u64]; omega
  have HN := Lib.hid hn
  clear hb0 hU
  rcases hk with rfl | rfl | rfl
  · go_enter Tryd.func33, Tryd.ntmps33
    go_wp2_with fail
    refine EN.out.mono ?_
    rintro e w1 ⟨s, rfl, hs, hb1⟩
    have HB1 : Hid (Below w.heap.size w w1) := HB0.out.trans (hb1.mono HB0.out.size)
    dsimp only at hs ⊢
    have HS := Lib.hid hs
    have hsz : s.size = widN n + 1 := by rw [← tl_size, hs, Co.hdN_length]
    have hw8 := widN_le n
    have z0 : (0 : Int) < (s.size : Int) := by omega
    have z1 : (1 : Int) ≤ (s.size : Int) := by omega
    obtain ⟨b, hb⟩ : ∃ b : Nat, infN n = b := ⟨_, rfl⟩
    have hb28 := infN_lt n
    rw [hb] at hb28
    have hix : ∀ h : 0 < s.size, (s[0]'h).toNat = b := fun h => by
      have h1 : s.toList[0]? = some s[0] := by
        rw [Lib.toList_data, Array.getElem?_toList]
        exact Array.getElem?_eq_getElem h
      rw [hs, hdN] at h1
      have h2 := Option.some.inj h1
      rw [← h2, Nat.mul_zero, Nat.zero_add, hb]
      simp
      omega
    obtain ⟨x, hx⟩ : ∃ x, b + 64 = x := ⟨_, rfl⟩
    have e5 : (b : Int) + 64 = (x : Int) := by omega
    have e6 : IntKind.u8.wrap (x : Int) = (x : Int) := Co.u8_in x (by omega)
    obtain ⟨c, hc⟩ : ∃ c : ByteArray, c = ⟨[UInt8.ofNat x].toArray⟩ := ⟨_, rfl⟩
    have hcv := Co.dcv_byte x (by omega) c hc
    have hcvd := Co.dcv_byteD x (by omega) c hc
    have n0 : 0 < s.size := by omega
    have hov : ¬ 9223372036854775807 < c.size + (s.extract 1 s.size).size := by
      have h1 : c.size = 1 := by rw [hc]; rfl
      rw [h1, ByteArray.size_extract]
      omega
    have HRS : Hid (c ++ s.extract 1 s.size = bs (hdN 2 n)) := by show _ = _; rw [hc, ← hx]; exact head_bytes 2 n 64 (by decide) s hs b hb.symm
    clear hs hb1 hsz hw8 hb hb28 hc hx
    go_wp2_with fail
    go_region
    all_goals (go_wp2_with fail)
    all_goals go_ret
    all_goals exact ⟨by rw [← HRS.out]; rfl, (HB1.out.alloc HB1.out.size _).drew⟩
  · go_enter Tryd.func33, Tryd.ntmps33
    go_wp2_with fail
    refine EN.out.mono ?_
    rintro e w1 ⟨s, rfl, hs, hb1⟩
    have HB1 : Hid (Below w.heap.size w w1) := HB0.out.trans (hb1.mono HB0.out.size)
    dsimp only at hs ⊢
    have HS := Lib.hid hs
    have hsz : s.size = widN n + 1 := by rw [← tl_size, hs, Co.hdN_length]
    have hw8 := widN_le n
    have z0 : (0 : Int) < (s.size : Int) := by omega
    have z1 : (1 : Int) ≤ (s.size : Int) := by omega
    obtain ⟨b, hb⟩ : ∃ b : Nat, infN n = b := ⟨_, rfl⟩
    have hb28 := infN_lt n
    rw [hb] at hb28
    have hix : ∀ h : 0 < s.size, (s[0]'h).toNat = b := fun h => by
      have h1 : s.toList[0]? = some s[0] := by
        rw [Lib.toList_data, Array.getElem?_toList]
        exact Array.getElem?_eq_getElem h
      rw [hs, hdN] at h1
      have h2 := Option.some.inj h1
      rw [← h2, Nat.mul_zero, Nat.zero_add, hb]
      simp
      omega
    obtain ⟨x, hx⟩ : ∃ x, b + 96 = x := ⟨_, rfl⟩
    have e5 : (b : Int) + 96 = (x : Int) := by omega
    have e6 : IntKind.u8.wrap (x : Int) = (x : Int) := Co.u8_in x (by omega)
    obtain ⟨c, hc⟩ : ∃ c : ByteArray, c = ⟨[UInt8.ofNat x].toArray⟩ := ⟨_, rfl⟩
    have hcv := Co.dcv_byte x (by omega) c hc
    have hcvd := Co.dcv_byteD x (by omega) c hc
    have n0 : 0 < s.size := by omega
    have hov : ¬ 9223372036854775807 < c.size + (s.extract 1 s.size).size := by
      have h1 : c.size = 1 := by rw [hc]; rfl
      rw [h1, ByteArray.size_extract]
      omega
    have HRS : Hid (c ++ s.extract 1 s.size = bs (hdN 3 n)) := by show _ = _; rw [hc, ← hx]; exact head_bytes 3 n 96 (by decide) s hs b hb.symm
    clear hs hb1 hsz hw8 hb hb28 hc hx
    go_wp2_with fail
    go_region
    all_goals (go_wp2_with fail)
    all_goals go_ret
    all_goals exact ⟨by rw [← HRS.out]; rfl, (HB1.out.alloc HB1.out.size _).drew⟩
  · go_enter Tryd.func33, Tryd.ntmps33
    go_wp2_with fail
    refine EN.out.mono ?_
    rintro e w1 ⟨s, rfl, hs, hb1⟩
    have HB1 : Hid (Below w.heap.size w w1) := HB0.out.trans (hb1.mono HB0.out.size)
    dsimp only at hs ⊢
    have HS := Lib.hid hs
    have hsz : s.size = widN n + 1 := by rw [← tl_size, hs, Co.hdN_length]
    have hw8 := widN_le n
    have z0 : (0 : Int) < (s.size : Int) := by omega
    have z1 : (1 : Int) ≤ (s.size : Int) := by omega
    obtain ⟨b, hb⟩ : ∃ b : Nat, infN n = b := ⟨_, rfl⟩
    have hb28 := infN_lt n
    rw [hb] at hb28
    have hix : ∀ h : 0 < s.size, (s[0]'h).toNat = b := fun h => by
      have h1 : s.toList[0]? = some s[0] := by
        rw [Lib.toList_data, Array.getElem?_toList]
        exact Array.getElem?_eq_getElem h
      rw [hs, hdN] at h1
      have h2 := Option.some.inj h1
      rw [← h2, Nat.mul_zero, Nat.zero_add, hb]
      simp
      omega
    obtain ⟨x, hx⟩ : ∃ x, b + 128 = x := ⟨_, rfl⟩
    have e5 : (b : Int) + 128 = (x : Int) := by omega
    have e6 : IntKind.u8.wrap (x : Int) = (x : Int) := Co.u8_in x (by omega)
    obtain ⟨c, hc⟩ : ∃ c : ByteArray, c = ⟨[UInt8.ofNat x].toArray⟩ := ⟨_, rfl⟩
    have hcv := Co.dcv_byte x (by omega) c hc
    have hcvd := Co.dcv_byteD x (by omega) c hc
    have n0 : 0 < s.size := by omega
    have hov : ¬ 9223372036854775807 < c.size + (s.extract 1 s.size).size := by
      have h1 : c.size = 1 := by rw [hc]; rfl
      rw [h1, ByteArray.size_extract]
      omega
    have HRS : Hid (c ++ s.extract 1 s.size = bs (hdN 4 n)) := by show _ = _; rw [hc, ← hx]; exact head_bytes 4 n 128 (by decide) s hs b hb.symm
    clear hs hb1 hsz hw8 hb hb28 hc hx
    go_wp2_with fail
    go_region
    all_goals (go_wp2_with fail)
    all_goals go_ret
    all_goals exact ⟨by rw [← HRS.out]; rfl, (HB1.out.alloc HB1.out.size _).drew⟩
theorem bs_size (l : List UInt8) : (bs l).size = l.length := rfl
theorem ss_app (a b : List UInt8) : bs a ++ bs b = bs (a ++ b) := by
  refine ByteArray.ext ?_
  rw [ByteArray.data_append]
  simp [bs]
set_option maxRecDepth 100000 in
theorem ctold_any (k : Nat) (s : List UInt8) (hk : k = 2 ∨ k = 3) (hs : s.length ≤ 140737488351232) (w : World) (hU : UT w.heap.size w) :
    Calls Tryd.prog 32 #[.int .i64 (k : Int), .string (bs s)] w (fun e w' => e = .returned (.string (bs (hdN k s.length ++ s))) ∧ Below w.heap.size w w') := by
  have HH := Lib.hid (chead_any k s.length (by rcases hk with h | h; exact .inl h; exact .inr (.inl h)) hs w hU)
  have hov : ¬ 9223372036854775807 < (bs (hdN k s.length)).size + (bs s).size := by
    rw [bs_size, bs_size, Co.hdN_length]
    have := widN_le s.length
    omega
  have hsz : (bs s).size = s.length := rfl
  clear hk hs hU
  go_enter Tryd.func32, Tryd.ntmps32
  go_wp2_with fail
  refine HH.out.mono ?_
  rintro e w1 ⟨rfl, hb1⟩
  have HB1 := Lib.hid hb1
  clear hb1
  go_wp2_with fail
  go_ret
  exact ⟨by rw [← ss_app]; rfl, HB1.out⟩
set_option maxRecDepth 100000 in
theorem rbytes_any (s : List UInt8) (hs : s.length ≤ 140737488351232) (w : World) :
    Calls Tryd.prog 30 #[.string (bs s)] w (fun e w' => e = .returned (.string (bs (byt s))) ∧ Below w.heap.size w w') := by
  have HH := Lib.hid (Co.rhead_any 2 s.length (by decide) (by omega) w)
  have e1 : IntKind.u64.wrap (s.length : Int) = (s.length : Int) := by rw [IntKind.wrap_u64]; omega
  have hsz : (bs s).size = s.length := rfl
  have hw := widN_le s.length
  have HSL : Hid (s.length ≤ 140737488351232 ∧ (hdN 2 s.length).length ≤ 9) := ⟨hs, by rw [Co.hdN_length]; omega⟩
  clear hs hw
  go_enter Tryd.func30, Tryd.ntmps30
  go_wp2_with fail
  refine HH.out.mono ?_
  rintro e w1 ⟨h, rfl, hh, hb1⟩
  obtain rfl : h = bs (hdN 2 s.length) := tl_inj (hh.trans (bs_list _).symm)
  have HB1 := Lib.hid hb1
  have hov : ¬ 9223372036854775807 < (bs (hdN 2 s.length)).size + (bs s).size := by
    have h1 := HSL.out
    rw [bs_size, bs_size]
    omega
  clear hb1 hh
  go_wp2_with fail
  go_ret
  exact ⟨by rw [byt, ← ss_app]; rfl, HB1.out⟩
end Ce
end Go.Proofs.YtikgonlhdkknkaaDoor
