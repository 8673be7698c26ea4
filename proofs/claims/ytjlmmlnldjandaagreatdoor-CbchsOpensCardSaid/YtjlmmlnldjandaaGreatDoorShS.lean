/- The program's digest. -/
import Derived.Test.YtjlmmlnldjandaaGreatDoorShR
import Derived.Test.YtjlmmlnldjandaaGreatDoorOctX
namespace Go.Proofs.YtjlmmlnldjandaaGreatDoor
open Go.RowKit
set_option linter.unusedVariables false
set_option linter.unusedSimpArgs false
theorem tl_cat (a b : ByteArray) : (a ++ b).toList = a.toList ++ b.toList := by
  rw [Lib.toList_data, Lib.toList_data, Lib.toList_data, ByteArray.data_append, Array.toList_append]
/-- the digest's bytes -/
def DL (b : Nat) (kind : Int) (out : Nat) (D : List UInt8) : List UInt8 := ((Sh.hs b (Sh.kL b) (Sh.hL kind) (Sh.padL b D) ((Sh.padL b D).length / (2 * b))).flatMap fun x => be (b / 8) x).take out
def RetDg (g : Nat) (l : List UInt8) (w : World) (e : Ending) (w' : World) : Prop := ∃ y : ByteArray, e = .returned (.string y) ∧ y.toList = l ∧ Chg g w w'
set_option maxRecDepth 100000 in
set_option maxHeartbeats 16000000 in
theorem digest32_any (w : World) (g : Nat) (kind : Int) (hk : kb kind 32) (out : Nat) (hol : out ≤ 32) (hsz : ∀ wx, Calls Tryz.prog 84 #[.int .i64 kind] wx (fun e w' => e = .returned (.tuple #[.int .i64 (out : Int), .int .i64 64, .int .i64 0]) ∧ wx = w')) (D : List UInt8) (hD : Hst w g kind 32 D) (hT : Tb w) (hg : 2 < g) (hl : D.length ≤ 562949953421312) :
    Calls Tryz.prog 116 #[.pointer (some ⟨g, 0, none⟩)] w (RetDg g (DL 32 kind out D) w) := by
  obtain ⟨i0, hi, hz0, hz1, hz2⟩ := info_parts info5
  have hD0 := hD
  obtain ⟨R0, hm0, _⟩ := hD0
  obtain ⟨n, hn⟩ : ∃ n, D.length = n := ⟨_, rfl⟩
  have c0 := hm0.kd.cell 0 _ rfl
  have lc := hm0.ln.cell 0 _ rfl
  rw [hn] at lc hl
  obtain ⟨m8, hm8⟩ : ∃ x, 8 * n = x := ⟨_, rfl⟩
  have f1 : IntKind.u64.wrap (8 * (n : Int)) = (m8 : Int) := by rw [show (8 : Int) * (n : Int) = (m8 : Int) by omega]; exact u64_fit _ (by omega)
  have hpo : putOk m8 8 = true := by rw [putOk, decide_eq_true_iff]; exact ⟨by decide, by decide, by show m8 < 256 ^ 8; omega⟩
  have hpl : putL m8 8 = be 8 m8 := by rw [putL, hpo]; rfl
  have hpe : putE m8 8 = 0 := by rw [putE, hpo]; rfl
  have PUT := fun wx => put_any m8 8 wx (by omega)
  rw [hpl, hpe] at PUT
  obtain ⟨u, hu⟩ : ∃ u, n % 64 = u := ⟨_, rfl⟩
  have hul : u < 64 := by omega
  have f2 : IntKind.u64.wrap (64 : Int) = 64 := by decide
  have f3 : (n : Int).tmod 64 = (u : Int) := tmod_natS n 64 u hu
  have f4 : IntKind.u64.wrap (u : Int) = (u : Int) := u64_fit _ (by omega)
  have f5 : IntKind.i64.wrap (u : Int) = (u : Int) := i64_fit _ (by omega)
  obtain ⟨v1, hv1⟩ : ∃ x, 127 - u = x := ⟨_, rfl⟩
  obtain ⟨v2, hv2⟩ : ∃ x, v1 - 8 = x := ⟨_, rfl⟩
  obtain ⟨v3, hv3⟩ : ∃ x, v2 % 64 = x := ⟨_, rfl⟩
  obtain ⟨v4, hv4⟩ : ∃ x, v3 + 8 = x := ⟨_, rfl⟩
  obtain ⟨P, hP⟩ : ∃ x, v4 - 8 = x := ⟨_, rfl⟩
  have hPl : P ≤ 136 := by omega
  have hpn : P = Sh.padN 32 D.length := by rw [Sh.padN, hn]; omega
  have g1 : (127 : Int) - (u : Int) = (v1 : Int) := by omega
  have g2 : (v1 : Int) - 8 = (v2 : Int) := by omega
  have g3 : (v2 : Int).tmod 64 = (v3 : Int) := tmod_natS v2 64 v3 hv3
  have g3b : (v2 : Int) % 64 = (v3 : Int) := by omega
  have g4 : (v3 : Int) + 8 = (v4 : Int) := by omega
  have g5 : (v4 : Int) - 8 = (P : Int) := by omega
  have w1' : IntKind.i64.wrap (v1 : Int) = (v1 : Int) := i64_fit _ (by omega)
  have w2' : IntKind.i64.wrap (v2 : Int) = (v2 : Int) := i64_fit _ (by omega)
  have w3' : IntKind.i64.wrap (v3 : Int) = (v3 : Int) := i64_fit _ (by omega)
  have w4' : IntKind.i64.wrap (v4 : Int) = (v4 : Int) := i64_fit _ (by omega)
  have w5' : IntKind.i64.wrap (P : Int) = (P : Int) := i64_fit _ (by omega)
  obtain ⟨zx, hzx⟩ : ∃ zx : ByteArray, (⟨(List.replicate P (0 : UInt8)).toArray⟩ : ByteArray) = zx := ⟨_, rfl⟩
  have HZL : Hid (zx.toList = List.replicate P 0) := by show _ = _; rw [← hzx, tl_mk]
  have hzs : zx.size = P := by rw [← tl_size, HZL.out, List.length_replicate]
  have HZX := Lib.hid hzx
  have HZS := Lib.hid hzs
  have HF := Lib.hid (bcells_made P)
  have HSZ := Lib.hid hsz
  have HPUT := Lib.hid PUT
  have HD := Lib.hid hD
  have HTB := Lib.hid hT
  have HK := Lib.hid hk
  have HN := Lib.hid hn
  have HM8 := Lib.hid hm8
  have HPN := Lib.hid hpn
  have hgl := hm0.lt
  have hby : i0.bytes * P ≤ 281474976710656 := by rw [hz2]; omega
  have hmx : P ≤ maxLen := by unfold maxLen; omega
  have HBY := Lib.hid hby
  have HMX := Lib.hid hmx
  clear hsz PUT hD hT hk hn hm8 hpo hpl hpe hu hv1 hv2 hv3 hv4 hP hpn hm0 hzx hzs hby hmx
  go_enter Tryz.func116, Tryz.ntmps116
  go_wp2_with fail
  refine (HSZ.out _).mono ?_
  rintro e w1 ⟨rfl, rfl⟩
  go_wp2_with fail
  refine (HPUT.out _).mono ?_
  rintro e w2 ⟨lg, rfl, hlg, hb2⟩
  have HLG := Lib.hid hlg
  have hls : lg.size = 8 := by rw [← tl_size, hlg, be_length]
  have HLS := Lib.hid hls
  have HD2 := Lib.hid (HD.out.below hb2 hgl)
  have HT2 := Lib.hid (HTB.out.below hb2 HTB.out.2.2)
  have lc2 : w2.cell? ⟨g, 137 + 0, none⟩ = some (.int .u64 (n : Int)) := by rw [hb2.cell (p := ⟨g, 137 + 0, none⟩) hgl]; exact lc
  have HC2 := Lib.hid (Chg.ofBelow (g := g) hb2)
  have q1 : ¬ 9223372036854775807 < (⟨#[128]⟩ : ByteArray).size + zx.size := by show ¬ 9223372036854775807 < 1 + zx.size; rw [HZS.out]; omega
  have q2 : ¬ 9223372036854775807 < 1 + zx.size := by rw [HZS.out]; omega
  have q3 : ¬ 9223372036854775807 < ((⟨#[128]⟩ : ByteArray) ++ zx).size + lg.size := by rw [ByteArray.size_append, hls, HZS.out]; show ¬ 9223372036854775807 < 1 + P + 8; omega
  have q4 : ¬ 9223372036854775807 < 1 + zx.size + lg.size := by rw [hls, HZS.out]; omega
  have hgl2 : g < w2.heap.size := Nat.lt_of_lt_of_le hgl hb2.size
  clear lc hb2 hlg hls c0
  go_wp2_with (at_make; refine wpList_make_full _ rfl (.tmp 57) (.tmp 57) 54 rfl w2.heap.size 5 i0 (.int .u8 0) 1 Tryz.underlying54 hi hz0 hz1 .i64 .i64 _ _ P rfl rfl rfl rfl HBY.out HMX.out (Nat.le_refl _) ?_; intro w3 hown3 hgrow3; rw [HF.out] at hown3; have hcv3 := run_convert_own (P := Tryz.prog) hown3 54 9 Tryz.underlying54 Tryz.underlying5 Tryz.underlying9; rw [HZX.out] at hcv3; have hb23 := (Below.refl w2.heap.size w2).grown hgrow3 (Nat.le_refl _) (by simp); clear hown3 hgrow3)
  obtain ⟨st, hst⟩ : ∃ x, ((⟨#[128]⟩ : ByteArray) ++ zx ++ lg) = x := ⟨_, rfl⟩
  have hstl : st.toList = 128 :: (List.replicate P 0 ++ be 8 m8) := by
    rw [← hst, tl_cat, tl_cat, HZL.out, HLG.out, show (⟨#[128]⟩ : ByteArray).toList = [128] from tl_mk [128]]
    rfl
  have hsts : st.size ≤ 200 := by rw [← tl_size, hstl, List.length_cons, List.length_append, List.length_replicate, be_length]; omega
  have hpad : D ++ st.toList = Sh.padL 32 D := by rw [hstl, Sh.padL, ← HPN.out, HN.out, HM8.out]
  rw [hst]
  refine (take32_any w3 g kind HK.out (out : Int) HSZ.out D st (HD2.out.below hb23 hgl2) (HT2.out.below hb23 HT2.out.2.2) hg (by rw [HN.out]; omega)).mono ?_
  rintro e w4 ⟨rfl, hD4, hC4⟩
  rw [hpad] at hD4
  have HC4 := Lib.hid ((HC2.out.below hb23).trans hC4)
  obtain ⟨L, hL⟩ : ∃ L, Sh.padL 32 D = L := ⟨_, rfl⟩
  rw [hL] at hD4
  obtain ⟨R4, hm4, _⟩ := hD4
  obtain ⟨V, hV⟩ : ∃ V, Sh.hs 32 (Sh.kL 32) (Sh.hL kind) L (L.length / (2 * 32)) = V := ⟨_, rfl⟩
  rw [hV] at hm4
  have hVl := hm4.hl
  have HDL : Hid (DL 32 kind out D = (V.flatMap fun x => be (32 / 8) x).take out) := by show _ = _; rw [DL, hL, hV]
  have HVL := Lib.hid hVl
  have HH := Lib.hid hm4.bl
  have hgl4 := hm4.lt
  clear hst hstl hsts hpad hC4 hL hV hm4 hVl hcv3 hb23 q1 q2 q3 q4 lc2 g1 g2 g3 g3b g4 g5 w1' w2' w3' w4' w5' f1 f2 f3 f4 f5 HD2 HT2 hgl2
  go_wp2_with (at_make; refine wpList_make_own _ rfl (.const (.int .i64 0)) (.const (.int .i64 64)) 54 rfl w4.heap.size 5 i0 (.int .u8 0) 1 Tryz.underlying54 hi hz0 hz1 .i64 .i64 _ 64 rfl rfl rfl (by rw [hz2]; decide) (by decide) (Nat.le_refl _) ?_; intro w5 hown hgrow)
  have hb5 := (Below.refl w4.heap.size w4).grown hgrow (Nat.le_refl _) (by simp)
  obtain ⟨B5, hB5⟩ : ∃ B, w4.heap.size = B := ⟨_, rfl⟩
  rw [hB5] at hown hb5 hgl4
  have HBB := Lib.hid hB5
  have HO5 := Lib.hid hown
  rw [hB5]
  obtain ⟨v5, hv5⟩ : ∃ v, Value.slice (some ⟨B5, 0, none⟩) 0 64 = v := ⟨_, rfl⟩
  rw [hv5] at HO5 ⊢
  clear hown hgrow hB5 hv5
  go_loopw [11, 65] (fun v iv w6 => ∃ (i : Nat), i ≤ 8 ∧ iv = .int .i64 (i : Int) ∧ w6.ownsRow B5 5 1 v (4 * i) (bcells ((V.take i).flatMap fun x => be 4 x)) ∧ Below B5 w4 w6) (fun _ iv _ => 8 - (intOf iv).toNat)
  case atStart => exact ⟨0, by omega, rfl, HO5.out, hb5⟩
  case round =>
    clear HO5 hb5
    obtain ⟨i, hi8, rfl, hown, hb6⟩ := hrel
    have HOWN := Lib.hid hown
    have HB6 := Lib.hid hb6
    clear hown hb6
    by_cases hlt : i < 8
    · have hltI : (i : Int) < 8 := by omega
      have hi0 : (0 : Int) ≤ (i : Int) := by omega
      obtain ⟨x, hxe⟩ : ∃ x, Sh.g V i = x := ⟨_, rfl⟩
      have HXE := Lib.hid hxe
      have hft := flat_take V 4 i (by rw [HVL.out]; exact hlt)
      rw [hxe] at hft
      obtain ⟨E, hE⟩ : ∃ E, ((V.take i).flatMap fun x => be 4 x) = E := ⟨_, rfl⟩
      rw [hE] at HOWN hft
      have HFT := Lib.hid hft
      clear hxe hft hE
      go_wp2_with fail
      go_loopw [11, 69] (fun v kv w7 => ∃ (j M : Nat), j ≤ 4 ∧ M = 4 * i + j ∧ kv = .int .i64 (j : Int) ∧ w7.ownsRow B5 5 1 v M (bcells (E ++ (be 4 x).take j)) ∧ Below B5 w4 w7) (fun _ kv _ => 4 - (intOf kv).toNat)
      case atStart => exact ⟨0, 4 * i, by omega, rfl, rfl, by rw [List.take_zero, List.append_nil]; exact HOWN.out, HB6.out⟩
      case round =>
        clear HOWN HB6
        obtain ⟨j, M, hj, hM, rfl, hown, hb7⟩ := hrel
        have HOWN := Lib.hid hown
        have hs7 : B5 ≤ wr.heap.size := by rw [← HBB.out]; exact hb7.size
        have HB7 := Lib.hid hb7
        have HM := Lib.hid hM
        clear hown hM
        by_cases hjl : j < 4
        · have hjlI : (j : Int) < 4 := by omega
          have hx := ((HH.out.below hb7 hgl4).u i (by rw [HVL.out]; exact hlt)).1
          change wr.cell? _ = some (.int .u64 ((Sh.g V i : Nat) : Int)) at hx
          rw [HXE.out] at hx
          obtain ⟨p, hp⟩ : ∃ p, 4 - 1 - j = p := ⟨_, rfl⟩
          obtain ⟨sh, hsh⟩ : ∃ x, 8 * p = x := ⟨_, rfl⟩
          obtain ⟨u, hu, hu2⟩ : ∃ u : UInt8, (x : Int) / 2 ^ sh % 256 = (u.toNat : Int) ∧ u = UInt8.ofNat (x / 256 ^ (4 - 1 - j)) := ⟨UInt8.ofNat (x / 256 ^ (4 - 1 - j)), by
            rw [← hsh, ← u8mod, Int.natCast_ediv, ← hp, ← pow8, Int.natCast_pow]; rfl, rfl⟩
          have e0 : (4 : Int) - 1 - (j : Int) = (p : Int) := by omega
          have e0b : (3 : Int) - (j : Int) = (p : Int) := by omega
          have e0c : IntKind.i64.wrap (p : Int) = (p : Int) := i64_fit _ (by omega)
          have e1 : (8 : Int) * (p : Int) = (sh : Int) := by omega
          have e1b : IntKind.i64.wrap (sh : Int) = (sh : Int) := i64_fit _ (by omega)
          have e2 : sh < 64 := by omega
          have e2I : (sh : Int) < 64 := by omega
          have e3 : (0 : Int) ≤ (sh : Int) := by omega
          have HU := Lib.hid hu2
          have hMl : M ≤ 200 := by have := HM.out; omega
          clear hb7 hu2 hsh hp
          go_wp2_with (at_builtin; refine wpList_append_u8 rfl (.tmp 72) (.tmp 86) 54 rfl B5 5 i0 Tryz.underlying54 hi hz0 hz1 hz2 u11 M _ rfl (HOWN.out.alloc _) wr.heap.size 1 1 [u] rfl rfl (cells_one (by simp)) (by omega) (by simp; omega) ?_; intro v' w8 hown1 hgrow)
          have hb8 := below_own (HB7.out.alloc (by omega) (Obj.cells #[Value.int IntKind.u8 ↑u.toNat] 5)) hgrow (by simp; omega) (HOWN.out.alloc _)
          rw [List.append_assoc, HU.out, ← be_take 4 x j hjl] at hown1
          have HO8 := Lib.hid hown1
          clear hown1 hgrow hu e0 e0b e0c e1 e1b e2 e2I e3 hx
          go_wp2_with fail
          go_roundw
          case rel => exact ⟨j + 1, M + 1, by omega, by have := HM.out; omega, by go_num, HO8.out, hb8⟩
          case measure => first | (simp [intOf]; done) | (simp [intOf]; omega)
        · have hjs : j = 4 := by omega
          have hjn : ¬ (j : Int) < 4 := by omega
          have HO9 : Hid (wr.ownsRow B5 5 1 u11 (4 * (i + 1)) (bcells ((V.take (i + 1)).flatMap fun x => be 4 x))) := by
            show World.ownsRow _ _ _ _ _ _ _
            rw [HFT.out, show 4 * (i + 1) = M by have := HM.out; omega]
            have h := HOWN.out
            rw [hjs, List.take_of_length_le (by rw [be_length]; exact Nat.le_refl _)] at h
            exact h
          clear hjs hb7 HOWN
          go_wp2_with fail
          go_roundw
          case rel => exact ⟨i + 1, by omega, by go_num, HO9.out, HB7.out⟩
          case measure => first | (simp [intOf]; done) | (simp [intOf]; omega)
    · have hi : i = 8 := by omega
      have hge : ¬ (i : Int) < 8 := by omega
      have hown := HOWN.out
      rw [hi, List.take_of_length_le (by rw [HVL.out]; exact Nat.le_refl _), show 4 * 8 = 32 from rfl] at hown
      obtain ⟨gO, capO, rfl⟩ := own_isU hown (by decide)
      have hcapO := own_cap hown (by decide)
      have hAO := (At.ofOwn hown).part8 0 out (by rw [flat_len, HVL.out]; omega)
      rw [List.drop_zero] at hAO
      obtain ⟨x, hx⟩ : ∃ x : ByteArray, (⟨((V.flatMap fun x => be 4 x).take out).toArray⟩ : ByteArray) = x := ⟨_, rfl⟩
      have hcv := fun c => sh_conv (P := Tryz.prog) (w := wr) (cap := c) hAO 54 9 5 out (by rw [List.length_take, flat_len, HVL.out]; exact Nat.min_eq_left hol) Tryz.underlying54 Tryz.underlying5 Tryz.underlying9
      have HX : Hid (x.toList = (V.flatMap fun x => be 4 x).take out) := by show _ = _; rw [← hx, tl_mk]
      rw [hx] at hcv
      have e1 : (out : Int) ≤ (capO : Int) := by omega
      have e2 : (0 : Int) ≤ (out : Int) := by omega
      clear hown hAO hx hi hlt
      go_wp2_with fail
      go_ret
      exact ⟨x, rfl, by rw [HX.out, HDL.out], HC4.out.trans (Chg.ofBelow (by rw [HBB.out]; exact HB6.out))⟩
set_option maxRecDepth 100000 in
set_option maxHeartbeats 16000000 in
theorem digest64_any (w : World) (g : Nat) (kind : Int) (hk : kb kind 64) (out : Nat) (hol : out ≤ 64) (hsz : ∀ wx, Calls Tryz.prog 84 #[.int .i64 kind] wx (fun e w' => e = .returned (.tuple #[.int .i64 (out : Int), .int .i64 128, .int .i64 0]) ∧ wx = w')) (D : List UInt8) (hD : Hst w g kind 64 D) (hT : Tb w) (hg : 2 < g) (hl : D.length ≤ 562949953421312) :
    Calls Tryz.prog 116 #[.pointer (some ⟨g, 0, none⟩)] w (RetDg g (DL 64 kind out D) w) := by
  obtain ⟨i0, hi, hz0, hz1, hz2⟩ := info_parts info5
  have hD0 := hD
  obtain ⟨R0, hm0, _⟩ := hD0
  obtain ⟨n, hn⟩ : ∃ n, D.length = n := ⟨_, rfl⟩
  have c0 := hm0.kd.cell 0 _ rfl
  have lc := hm0.ln.cell 0 _ rfl
  rw [hn] at lc hl
  obtain ⟨m8, hm8⟩ : ∃ x, 8 * n = x := ⟨_, rfl⟩
  have f1 : IntKind.u64.wrap (8 * (n : Int)) = (m8 : Int) := by rw [show (8 : Int) * (n : Int) = (m8 : Int) by omega]; exact u64_fit _ (by omega)
  have hpo : putOk m8 8 = true := by rw [putOk, decide_eq_true_iff]; exact ⟨by decide, by decide, by show m8 < 256 ^ 8; omega⟩
  have hpl : putL m8 8 = be 8 m8 := by rw [putL, hpo]; rfl
  have hpe : putE m8 8 = 0 := by rw [putE, hpo]; rfl
  have PUT := fun wx => put_any m8 8 wx (by omega)
  rw [hpl, hpe] at PUT
  obtain ⟨u, hu⟩ : ∃ u, n % 128 = u := ⟨_, rfl⟩
  have hul : u < 128 := by omega
  have f2 : IntKind.u64.wrap (128 : Int) = 128 := by decide
  have f3 : (n : Int).tmod 128 = (u : Int) := tmod_natS n 128 u hu
  have f4 : IntKind.u64.wrap (u : Int) = (u : Int) := u64_fit _ (by omega)
  have f5 : IntKind.i64.wrap (u : Int) = (u : Int) := i64_fit _ (by omega)
  obtain ⟨v1, hv1⟩ : ∃ x, 255 - u = x := ⟨_, rfl⟩
  obtain ⟨v2, hv2⟩ : ∃ x, v1 - 16 = x := ⟨_, rfl⟩
  obtain ⟨v3, hv3⟩ : ∃ x, v2 % 128 = x := ⟨_, rfl⟩
  obtain ⟨v4, hv4⟩ : ∃ x, v3 + 16 = x := ⟨_, rfl⟩
  obtain ⟨P, hP⟩ : ∃ x, v4 - 8 = x := ⟨_, rfl⟩
  have hPl : P ≤ 136 := by omega
  have hpn : P = Sh.padN 64 D.length := by rw [Sh.padN, hn]; omega
  have g1 : (255 : Int) - (u : Int) = (v1 : Int) := by omega
  have g2 : (v1 : Int) - 16 = (v2 : Int) := by omega
  have g3 : (v2 : Int).tmod 128 = (v3 : Int) := tmod_natS v2 128 v3 hv3
  have g3b : (v2 : Int) % 128 = (v3 : Int) := by omega
  have g4 : (v3 : Int) + 16 = (v4 : Int) := by omega
  have g5 : (v4 : Int) - 8 = (P : Int) := by omega
  have w1' : IntKind.i64.wrap (v1 : Int) = (v1 : Int) := i64_fit _ (by omega)
  have w2' : IntKind.i64.wrap (v2 : Int) = (v2 : Int) := i64_fit _ (by omega)
  have w3' : IntKind.i64.wrap (v3 : Int) = (v3 : Int) := i64_fit _ (by omega)
  have w4' : IntKind.i64.wrap (v4 : Int) = (v4 : Int) := i64_fit _ (by omega)
  have w5' : IntKind.i64.wrap (P : Int) = (P : Int) := i64_fit _ (by omega)
  obtain ⟨zx, hzx⟩ : ∃ zx : ByteArray, (⟨(List.replicate P (0 : UInt8)).toArray⟩ : ByteArray) = zx := ⟨_, rfl⟩
  have HZL : Hid (zx.toList = List.replicate P 0) := by show _ = _; rw [← hzx, tl_mk]
  have hzs : zx.size = P := by rw [← tl_size, HZL.out, List.length_replicate]
  have HZX := Lib.hid hzx
  have HZS := Lib.hid hzs
  have HF := Lib.hid (bcells_made P)
  have HSZ := Lib.hid hsz
  have HPUT := Lib.hid PUT
  have HD := Lib.hid hD
  have HTB := Lib.hid hT
  have HK := Lib.hid hk
  have HN := Lib.hid hn
  have HM8 := Lib.hid hm8
  have HPN := Lib.hid hpn
  have hgl := hm0.lt
  have hby : i0.bytes * P ≤ 281474976710656 := by rw [hz2]; omega
  have hmx : P ≤ maxLen := by unfold maxLen; omega
  have HBY := Lib.hid hby
  have HMX := Lib.hid hmx
  clear hsz PUT hD hT hk hn hm8 hpo hpl hpe hu hv1 hv2 hv3 hv4 hP hpn hm0 hzx hzs hby hmx
  go_enter Tryz.func116, Tryz.ntmps116
  go_wp2_with fail
  refine (HSZ.out _).mono ?_
  rintro e w1 ⟨rfl, rfl⟩
  go_wp2_with fail
  refine (HPUT.out _).mono ?_
  rintro e w2 ⟨lg, rfl, hlg, hb2⟩
  have HLG := Lib.hid hlg
  have hls : lg.size = 8 := by rw [← tl_size, hlg, be_length]
  have HLS := Lib.hid hls
  have HD2 := Lib.hid (HD.out.below hb2 hgl)
  have HT2 := Lib.hid (HTB.out.below hb2 HTB.out.2.2)
  have lc2 : w2.cell? ⟨g, 137 + 0, none⟩ = some (.int .u64 (n : Int)) := by rw [hb2.cell (p := ⟨g, 137 + 0, none⟩) hgl]; exact lc
  have HC2 := Lib.hid (Chg.ofBelow (g := g) hb2)
  have q1 : ¬ 9223372036854775807 < (⟨#[128]⟩ : ByteArray).size + zx.size := by show ¬ 9223372036854775807 < 1 + zx.size; rw [HZS.out]; omega
  have q2 : ¬ 9223372036854775807 < 1 + zx.size := by rw [HZS.out]; omega
  have q3 : ¬ 9223372036854775807 < ((⟨#[128]⟩ : ByteArray) ++ zx).size + lg.size := by rw [ByteArray.size_append, hls, HZS.out]; show ¬ 9223372036854775807 < 1 + P + 8; omega
  have q4 : ¬ 9223372036854775807 < 1 + zx.size + lg.size := by rw [hls, HZS.out]; omega
  have hgl2 : g < w2.heap.size := Nat.lt_of_lt_of_le hgl hb2.size
  clear lc hb2 hlg hls c0
  go_wp2_with (at_make; refine wpList_make_full _ rfl (.tmp 57) (.tmp 57) 54 rfl w2.heap.size 5 i0 (.int .u8 0) 1 Tryz.underlying54 hi hz0 hz1 .i64 .i64 _ _ P rfl rfl rfl rfl HBY.out HMX.out (Nat.le_refl _) ?_; intro w3 hown3 hgrow3; rw [HF.out] at hown3; have hcv3 := run_convert_own (P := Tryz.prog) hown3 54 9 Tryz.underlying54 Tryz.underlying5 Tryz.underlying9; rw [HZX.out] at hcv3; have hb23 := (Below.refl w2.heap.size w2).grown hgrow3 (Nat.le_refl _) (by simp); clear hown3 hgrow3)
  obtain ⟨st, hst⟩ : ∃ x, ((⟨#[128]⟩ : ByteArray) ++ zx ++ lg) = x := ⟨_, rfl⟩
  have hstl : st.toList = 128 :: (List.replicate P 0 ++ be 8 m8) := by
    rw [← hst, tl_cat, tl_cat, HZL.out, HLG.out, show (⟨#[128]⟩ : ByteArray).toList = [128] from tl_mk [128]]
    rfl
  have hsts : st.size ≤ 200 := by rw [← tl_size, hstl, List.length_cons, List.length_append, List.length_replicate, be_length]; omega
  have hpad : D ++ st.toList = Sh.padL 64 D := by rw [hstl, Sh.padL, ← HPN.out, HN.out, HM8.out]
  rw [hst]
  refine (take64_any w3 g kind HK.out (out : Int) HSZ.out D st (HD2.out.below hb23 hgl2) (HT2.out.below hb23 HT2.out.2.2) hg (by rw [HN.out]; omega)).mono ?_
  rintro e w4 ⟨rfl, hD4, hC4⟩
  rw [hpad] at hD4
  have HC4 := Lib.hid ((HC2.out.below hb23).trans hC4)
  obtain ⟨L, hL⟩ : ∃ L, Sh.padL 64 D = L := ⟨_, rfl⟩
  rw [hL] at hD4
  obtain ⟨R4, hm4, _⟩ := hD4
  obtain ⟨V, hV⟩ : ∃ V, Sh.hs 64 (Sh.kL 64) (Sh.hL kind) L (L.length / (2 * 64)) = V := ⟨_, rfl⟩
  rw [hV] at hm4
  have hVl := hm4.hl
  have HDL : Hid (DL 64 kind out D = (V.flatMap fun x => be (64 / 8) x).take out) := by show _ = _; rw [DL, hL, hV]
  have HVL := Lib.hid hVl
  have HH := Lib.hid hm4.bl
  have hgl4 := hm4.lt
  clear hst hstl hsts hpad hC4 hL hV hm4 hVl hcv3 hb23 q1 q2 q3 q4 lc2 g1 g2 g3 g3b g4 g5 w1' w2' w3' w4' w5' f1 f2 f3 f4 f5 HD2 HT2 hgl2
  go_wp2_with (at_make; refine wpList_make_own _ rfl (.const (.int .i64 0)) (.const (.int .i64 64)) 54 rfl w4.heap.size 5 i0 (.int .u8 0) 1 Tryz.underlying54 hi hz0 hz1 .i64 .i64 _ 64 rfl rfl rfl (by rw [hz2]; decide) (by decide) (Nat.le_refl _) ?_; intro w5 hown hgrow)
  have hb5 := (Below.refl w4.heap.size w4).grown hgrow (Nat.le_refl _) (by simp)
  obtain ⟨B5, hB5⟩ : ∃ B, w4.heap.size = B := ⟨_, rfl⟩
  rw [hB5] at hown hb5 hgl4
  have HBB := Lib.hid hB5
  have HO5 := Lib.hid hown
  rw [hB5]
  obtain ⟨v5, hv5⟩ : ∃ v, Value.slice (some ⟨B5, 0, none⟩) 0 64 = v := ⟨_, rfl⟩
  rw [hv5] at HO5 ⊢
  clear hown hgrow hB5 hv5
  go_loopw [11, 65] (fun v iv w6 => ∃ (i : Nat), i ≤ 8 ∧ iv = .int .i64 (i : Int) ∧ w6.ownsRow B5 5 1 v (8 * i) (bcells ((V.take i).flatMap fun x => be 8 x)) ∧ Below B5 w4 w6) (fun _ iv _ => 8 - (intOf iv).toNat)
  case atStart => exact ⟨0, by omega, rfl, HO5.out, hb5⟩
  case round =>
    clear HO5 hb5
    obtain ⟨i, hi8, rfl, hown, hb6⟩ := hrel
    have HOWN := Lib.hid hown
    have HB6 := Lib.hid hb6
    clear hown hb6
    by_cases hlt : i < 8
    · have hltI : (i : Int) < 8 := by omega
      have hi0 : (0 : Int) ≤ (i : Int) := by omega
      obtain ⟨x, hxe⟩ : ∃ x, Sh.g V i = x := ⟨_, rfl⟩
      have HXE := Lib.hid hxe
      have hft := flat_take V 8 i (by rw [HVL.out]; exact hlt)
      rw [hxe] at hft
      obtain ⟨E, hE⟩ : ∃ E, ((V.take i).flatMap fun x => be 8 x) = E := ⟨_, rfl⟩
      rw [hE] at HOWN hft
      have HFT := Lib.hid hft
      clear hxe hft hE
      go_wp2_with fail
      go_loopw [11, 69] (fun v kv w7 => ∃ (j M : Nat), j ≤ 8 ∧ M = 8 * i + j ∧ kv = .int .i64 (j : Int) ∧ w7.ownsRow B5 5 1 v M (bcells (E ++ (be 8 x).take j)) ∧ Below B5 w4 w7) (fun _ kv _ => 8 - (intOf kv).toNat)
      case atStart => exact ⟨0, 8 * i, by omega, rfl, rfl, by rw [List.take_zero, List.append_nil]; exact HOWN.out, HB6.out⟩
      case round =>
        clear HOWN HB6
        obtain ⟨j, M, hj, hM, rfl, hown, hb7⟩ := hrel
        have HOWN := Lib.hid hown
        have hs7 : B5 ≤ wr.heap.size := by rw [← HBB.out]; exact hb7.size
        have HB7 := Lib.hid hb7
        have HM := Lib.hid hM
        clear hown hM
        by_cases hjl : j < 8
        · have hjlI : (j : Int) < 8 := by omega
          have hx := ((HH.out.below hb7 hgl4).u i (by rw [HVL.out]; exact hlt)).1
          change wr.cell? _ = some (.int .u64 ((Sh.g V i : Nat) : Int)) at hx
          rw [HXE.out] at hx
          obtain ⟨p, hp⟩ : ∃ p, 8 - 1 - j = p := ⟨_, rfl⟩
          obtain ⟨sh, hsh⟩ : ∃ x, 8 * p = x := ⟨_, rfl⟩
          obtain ⟨u, hu, hu2⟩ : ∃ u : UInt8, (x : Int) / 2 ^ sh % 256 = (u.toNat : Int) ∧ u = UInt8.ofNat (x / 256 ^ (8 - 1 - j)) := ⟨UInt8.ofNat (x / 256 ^ (8 - 1 - j)), by
            rw [← hsh, ← u8mod, Int.natCast_ediv, ← hp, ← pow8, Int.natCast_pow]; rfl, rfl⟩
          have e0 : (8 : Int) - 1 - (j : Int) = (p : Int) := by omega
          have e0b : (7 : Int) - (j : Int) = (p : Int) := by omega
          have e0c : IntKind.i64.wrap (p : Int) = (p : Int) := i64_fit _ (by omega)
          have e1 : (8 : Int) * (p : Int) = (sh : Int) := by omega
          have e1b : IntKind.i64.wrap (sh : Int) = (sh : Int) := i64_fit _ (by omega)
          have e2 : sh < 64 := by omega
          have e2I : (sh : Int) < 64 := by omega
          have e3 : (0 : Int) ≤ (sh : Int) := by omega
          have HU := Lib.hid hu2
          have hMl : M ≤ 200 := by have := HM.out; omega
          clear hb7 hu2 hsh hp
          go_wp2_with (at_builtin; refine wpList_append_u8 rfl (.tmp 72) (.tmp 86) 54 rfl B5 5 i0 Tryz.underlying54 hi hz0 hz1 hz2 u11 M _ rfl (HOWN.out.alloc _) wr.heap.size 1 1 [u] rfl rfl (cells_one (by simp)) (by omega) (by simp; omega) ?_; intro v' w8 hown1 hgrow)
          have hb8 := below_own (HB7.out.alloc (by omega) (Obj.cells #[Value.int IntKind.u8 ↑u.toNat] 5)) hgrow (by simp; omega) (HOWN.out.alloc _)
          rw [List.append_assoc, HU.out, ← be_take 8 x j hjl] at hown1
          have HO8 := Lib.hid hown1
          clear hown1 hgrow hu e0 e0b e0c e1 e1b e2 e2I e3 hx
          go_wp2_with fail
          go_roundw
          case rel => exact ⟨j + 1, M + 1, by omega, by have := HM.out; omega, by go_num, HO8.out, hb8⟩
          case measure => first | (simp [intOf]; done) | (simp [intOf]; omega)
        · have hjs : j = 8 := by omega
          have hjn : ¬ (j : Int) < 8 := by omega
          have HO9 : Hid (wr.ownsRow B5 5 1 u11 (8 * (i + 1)) (bcells ((V.take (i + 1)).flatMap fun x => be 8 x))) := by
            show World.ownsRow _ _ _ _ _ _ _
            rw [HFT.out, show 8 * (i + 1) = M by have := HM.out; omega]
            have h := HOWN.out
            rw [hjs, List.take_of_length_le (by rw [be_length]; exact Nat.le_refl _)] at h
            exact h
          clear hjs hb7 HOWN
          go_wp2_with fail
          go_roundw
          case rel => exact ⟨i + 1, by omega, by go_num, HO9.out, HB7.out⟩
          case measure => first | (simp [intOf]; done) | (simp [intOf]; omega)
    · have hi : i = 8 := by omega
      have hge : ¬ (i : Int) < 8 := by omega
      have hown := HOWN.out
      rw [hi, List.take_of_length_le (by rw [HVL.out]; exact Nat.le_refl _), show 8 * 8 = 64 from rfl] at hown
      obtain ⟨gO, capO, rfl⟩ := own_isU hown (by decide)
      have hcapO := own_cap hown (by decide)
      have hAO := (At.ofOwn hown).part8 0 out (by rw [flat_len, HVL.out]; omega)
      rw [List.drop_zero] at hAO
      obtain ⟨x, hx⟩ : ∃ x : ByteArray, (⟨((V.flatMap fun x => be 8 x).take out).toArray⟩ : ByteArray) = x := ⟨_, rfl⟩
      have hcv := fun c => sh_conv (P := Tryz.prog) (w := wr) (cap := c) hAO 54 9 5 out (by rw [List.length_take, flat_len, HVL.out]; exact Nat.min_eq_left hol) Tryz.underlying54 Tryz.underlying5 Tryz.underlying9
      have HX : Hid (x.toList = (V.flatMap fun x => be 8 x).take out) := by show _ = _; rw [← hx, tl_mk]
      rw [hx] at hcv
      have e1 : (out : Int) ≤ (capO : Int) := by omega
      have e2 : (0 : Int) ≤ (out : Int) := by omega
      clear hown hAO hx hi hlt
      go_wp2_with fail
      go_ret
      exact ⟨x, rfl, by rw [HX.out, HDL.out], HC4.out.trans (Chg.ofBelow (by rw [HBB.out]; exact HB6.out))⟩
end Go.Proofs.YtjlmmlnldjandaaGreatDoor
