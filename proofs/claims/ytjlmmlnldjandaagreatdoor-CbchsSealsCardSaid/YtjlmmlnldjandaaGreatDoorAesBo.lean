/- The contract of the document's New: the walk. -/
import Derived.Test.YtjlmmlnldjandaaGreatDoorAesBn
import Derived.Deep.CutRange
namespace Go.Proofs.YtjlmmlnldjandaaGreatDoor
open Go.RowKit
set_option linter.unusedVariables false
set_option linter.unusedSimpArgs false
/-- what is left of a word that is turned -/
def CutB (K : List UInt8) (n g : Nat) (w : World) (k gw cap gx kn : Nat) (xe : UInt32) (s : Value) (wx : World) : Prop := ∃ (p5 : UInt8) (tt : UInt32), s = .int .u8 (p5.toNat : Int) ∧ ((rst K n (k + 1)).1 = (rst K n k).1 ++ [xe ^^^ tt] ∧ (rst K n (k + 1)).2 = p5) ∧
  At wx (gx + 1) 0 (bcells (wb tt)) ∧ At wx gx 0 (bcells [0, 0, 0, 0]) ∧ At wx gw (kn * 4) (bcells (wb xe)) ∧ Grow K n g w k (.slice (some ⟨gw, 0, none⟩) k cap) wx ∧ wx.heap.size = gx + 2
set_option maxRecDepth 100000 in
set_option maxHeartbeats 40000000 in
theorem rnew_any (key : ByteArray) (w : World) (hk : key.size = 16 ∨ key.size = 24 ∨ key.size = 32) :
    Calls Tryz.prog 34 #[.string key] w (RetBx key.toList w) := by
  obtain ⟨i0, hi, hz0, hz1, hz2⟩ := info_parts info69
  obtain ⟨n, hn⟩ : ∃ n, n = key.size / 4 := ⟨_, rfl⟩
  have hn8 : n = 4 ∨ n = 6 ∨ n = 8 := by omega
  have hn4 : 4 ≤ n ∧ n ≤ 8 := by omega
  have hks : key.size = 4 * n := by omega
  have hdv : (key.size : Int) / 4 = (n : Int) := by omega
  obtain ⟨n7, hn7⟩ : ∃ n7 : Nat, n7 = n + 7 := ⟨_, rfl⟩
  obtain ⟨N, hN⟩ : ∃ N : Nat, N = 4 * n + 28 := ⟨_, rfl⟩
  have hi7 : (n : Int) + 7 = (n7 : Int) := by omega
  have hiN : 4 * (n7 : Int) = (N : Int) := by omega
  have hN60 : N ≤ 60 := by omega
  have HNN := Lib.hid hN
  have HN := Lib.hid hn
  have HN8 := Lib.hid hn8
  have HKS := Lib.hid hks
  have H7 := Lib.hid hi7
  have HiN := Lib.hid hiN
  have HDV := Lib.hid hdv
  clear hn8 hks hk hn7 hn hN hi7 hiN hdv
  go_enter Tryz.func34, Tryz.ntmps34
  go_wp2_with fail
  obtain ⟨w0, hw0, hA0, hA1, hA2, hA3, hb0, hs0⟩ := new_box w
  rw [hw0]
  clear hw0
  obtain ⟨g, hg⟩ : ∃ g, g = w.heap.size := ⟨_, rfl⟩
  rw [← hg] at hA0 hA1 hA2 hA3 hb0 hs0 ⊢
  have HGW := Lib.hid hg
  clear hg
  have HP := Lib.hid hA3
  have HS := Lib.hid hA0
  have HBk := Lib.hid hA1
  have HH := Lib.hid hA2
  have hb1 := hb0
  have hs1 := hs0
  clear hA0 hA1 hA2 hA3 hb0 hs0
  -- the powers of 3
  go_loopw [5] (fun i wr => ∃ k : Nat, 1 ≤ k ∧ k ≤ 255 ∧ i = .int .i64 k ∧ At wr g 0 (bcells (List.replicate 256 0)) ∧ At wr g 256 (bcells (List.replicate 256 0)) ∧ At wr g 512 [.slice none 0 0] ∧ At wr (g + 1) 0 (bcells (mixP 255 pw (fun _ => 0) k)) ∧ Below g w wr ∧ wr.heap.size = g + 2) (fun i _ => 255 - (intOf i).toNat)
  case atStart => exact ⟨1, Nat.le_refl _, by omega, rfl, HS.out, HBk.out, HH.out, HP.out, hb1, hs1⟩
  case round =>
    clear HP HS HBk HH hb1 hs1
    obtain ⟨k, hk1, hk, rfl, hA0, hA1, hA2, hA3, hb0, hs0⟩ := hrel
    have H0 := Lib.hid hA0
    have H1 := Lib.hid hA1
    have H2 := Lib.hid hA2
    have H3 := Lib.hid hA3
    clear hA0 hA1 hA2 hA3
    by_cases hlt : k < 255
    · obtain ⟨k1, rfl⟩ : ∃ k1, k = k1 + 1 := ⟨k - 1, by omega⟩
      obtain ⟨kk, hkk⟩ : ∃ kk : Nat, kk = k1 + 1 := ⟨_, rfl⟩
      have hc1 := H3.out.b8 k1 (by rw [mixP_length]; omega)
      have hc2 := H3.out.b8 (k1 + 1) (by rw [mixP_length]; omega)
      have hfr := H3.out.froz (k1 + 1) (by rw [bcells_length, mixP_length]; omega)
      rw [mixP_at _ _ _ _ _ _ (by omega), if_pos (by omega)] at hc1
      rw [Nat.zero_add] at hc1 hc2 hfr
      rw [← hkk] at hc2 hfr hk hlt ⊢
      have hw1 : (kk : Int) - 1 = (k1 : Int) := by omega
      have hw2 : IntKind.i64.wrap ((kk : Int) - 1) = (k1 : Int) := by rw [wrap_in _ (by omega) (by omega)]; omega
      have hk1I : (k1 : Int) < 255 := by omega
      have hkI : (kk : Int) < 255 := by omega
      have HK := Lib.hid hkk
      clear hkk
      go_wp2_with fail
      refine (rmul_any (pw k1) 3 _).mono ?_
      rintro e w' ⟨rfl, rfl⟩
      rw [gpw]
      go_wp2_with fail
      go_roundw
      case rel =>
        refine ⟨kk + 1, by omega, by omega, by go_num, H0.out.other _ _ _ (.inl (by omega)), H1.out.other _ _ _ (.inl (by omega)), H2.out.other _ _ _ (.inl (by omega)), ?_, hb0.setCell (p := ⟨g + 1, kk, none⟩) (by simp only; omega) _, by rw [World.size_setCell]; exact hs0⟩
        have h := H3.out.b8set kk (pw kk)
        rw [← HK.out, mixP_set, Nat.zero_add] at h
        rw [← HK.out]
        exact h
      case measure => simp [intOf]; omega
    · have hkn : k = 255 := by omega
      subst hkn
      have hA3 := H3.out
      rw [mixP_full] at hA3
      have hA3' : At wr (g + 1) 0 (bcells (pwL 255)) := hA3
      have HP := Lib.hid hA3'
      have hc := H0.out.b8 0 (by rw [List.length_replicate]; omega)
      have hf := H0.out.froz 0 (by rw [bcells_length, List.length_replicate]; omega)
      rw [Nat.zero_add] at hc hf
      have hS : At (wr.setCell ⟨g, 0, none⟩ (.int .u8 99)) g 0 (bcells (outL 0)) := by
        have h := H0.out.b8set 0 99
        rw [outL, spr0]
        exact h
      have HS := Lib.hid hS
      have HBk := Lib.hid (H1.out.other g 0 (.int .u8 99) (.inr (.inl (by omega))))
      have HH := Lib.hid (H2.out.other g 0 (.int .u8 99) (.inr (.inl (by omega))))
      have HP2 := Lib.hid (HP.out.other g 0 (.int .u8 99) (.inl (by omega)))
      have hb1 := hb0.setCell (p := ⟨g, 0, none⟩) (by simp only; omega) (.int .u8 99)
      have hs1 : (wr.setCell ⟨g, 0, none⟩ (.int .u8 99)).heap.size = g + 2 := by rw [World.size_setCell]; exact hs0
      clear hA3 hA3' H0 H1 H2 H3 HP hS hb0 hs0 hlt hk hk1
      rw [show ((255 : Nat) : Int) = (255 : Int) from rfl]
      go_wp2_with fail
      clear hc hf
      generalize wr.setCell ⟨g, 0, none⟩ (.int .u8 99) = w2 at HP2 HS HBk HH hb1 hs1 ⊢
      -- the substitutions
      go_loopw [6] (fun i wr => ∃ k : Nat, k ≤ 255 ∧ i = .int .i64 k ∧ At wr g 0 (bcells (outL k)) ∧ At wr g 256 (bcells (List.replicate 256 0)) ∧ At wr g 512 [.slice none 0 0] ∧ At wr (g + 1) 0 (bcells (pwL 255)) ∧ Below g w wr ∧ wr.heap.size = g + 2) (fun i _ => 255 - (intOf i).toNat)
      case atStart => exact ⟨0, Nat.zero_le _, rfl, HS.out, HBk.out, HH.out, HP2.out, hb1, hs1⟩
      case round =>
        clear HP2 HS HBk HH hb1 hs1
        obtain ⟨k, hk, rfl, hA0, hA1, hA2, hA3, hb0, hs0⟩ := hrel
        have H0 := Lib.hid hA0
        have H1 := Lib.hid hA1
        have H2 := Lib.hid hA2
        have H3 := Lib.hid hA3
        clear hA0 hA1 hA2 hA3
        by_cases hlt : k < 255
        · obtain ⟨d, hd⟩ : ∃ d : Nat, d = 255 - k := ⟨_, rfl⟩
          obtain ⟨r, hr⟩ : ∃ r : Nat, r = d % 255 := ⟨_, rfl⟩
          have hw1 : (255 : Int) - (k : Int) = (d : Int) := by omega
          have hw2 : (d : Int) % 255 = (r : Int) := by omega
          have hrl : r < 255 := by omega
          have hrI : (r : Int) < 255 := by omega
          have hkI : (k : Int) < 255 := by omega
          have hc1 := H3.out.b8 r (by rw [pwL_length]; omega)
          have hc2 := H3.out.b8 k (by rw [pwL_length]; omega)
          rw [pwL_get _ _ hrl, Nat.zero_add] at hc1
          rw [pwL_get _ _ hlt, Nat.zero_add] at hc2
          obtain ⟨x, hx⟩ : ∃ x, pw r = x := ⟨_, rfl⟩
          obtain ⟨y, hy⟩ : ∃ y, pw k = y := ⟨_, rfl⟩
          rw [hx] at hc1
          rw [hy] at hc2
          have HX : Hid (pw ((255 - k) % 255) = x) := by rw [← hd, ← hr]; exact hx
          have HY := Lib.hid hy
          have HC2 := Lib.hid hc2
          clear hx hy hd hr hc2
          go_wp2_with fail
          clear hc1 hw1 hw2 hrI
          go_loopw [7, 8, 9] (fun a o i wr2 => ∃ m : Nat, ∃ a' o' : UInt8, m ≤ 4 ∧ i = .int .i64 (m : Int) ∧ a = .int .u8 (a'.toNat : Int) ∧ o = .int .u8 (o'.toNat : Int) ∧ rspL (4 - m) a' o' = rspL 4 x x ∧ wr = wr2) (fun _ _ i _ => 4 - (intOf i).toNat)
          case atStart => exact ⟨0, x, x, by omega, rfl, rfl, rfl, rfl, rfl⟩
          case round =>
            obtain ⟨m, x', o', hm4, rfl, rfl, rfl, hm, rfl⟩ := hrel
            have HM := Lib.hid hm
            clear hm
            have hxb := x'.toNat_lt
            by_cases hlm : m < 4
            · have h1 := rot1_val x'
              obtain ⟨z, hz⟩ : ∃ z, rotl8 x' 1 = z := ⟨_, rfl⟩
              rw [hz] at h1
              have HZ := Lib.hid hz
              clear hz
              obtain ⟨q, hq, hq2⟩ : ∃ q : UInt8, bits .xor .u8 (o'.toNat : Int) (z.toNat : Int) = (q.toNat : Int) ∧ q = o' ^^^ z := ⟨_, u8x _ _, rfl⟩
              have HQ := Lib.hid hq2
              clear hq2
              go_wp2_with fail
              go_roundw
              case rel =>
                refine ⟨m + 1, z, q, by omega, by go_num, rfl, rfl, ?_, (by first | rfl | trivial)⟩
                have := HM.out
                rw [show 4 - m = (4 - (m + 1)) + 1 by omega, rspL, HZ.out, ← HQ.out] at this
                exact this
              case measure => simp [intOf]; omega
            · have hkm : m = 4 := by omega
              subst hkm
              obtain ⟨z, hz, hz2⟩ : ∃ z : UInt8, bits .xor .u8 (o'.toNat : Int) (99 : Int) = (z.toNat : Int) ∧ z = o' ^^^ 99 := ⟨_, by rw [show (99 : Int) = ((99 : UInt8).toNat : Int) by rfl, u8x], rfl⟩
              have hzs : z = spr (pw ((255 - k) % 255)) := by
                have := HM.out
                rw [Nat.sub_self, rspL] at this
                rw [hz2, this, HX.out, ← rsp_spr]
                rfl
              have HZ := Lib.hid hzs
              have hyb := y.toNat_lt
              have hyI : (y.toNat : Int) < 256 := by omega
              have hc2 := HC2.out
              have hc0 := H0.out.b8 y.toNat (by rw [outL_length]; exact hyb)
              have hfr := H0.out.froz y.toNat (by rw [bcells_length, outL_length]; exact hyb)
              rw [Nat.zero_add] at hc0 hfr
              clear hz2 hzs hlm hm4 hyb
              rw [show ((4 : Nat) : Int) = (4 : Int) from rfl]
              go_wp2_with fail
              go_still_tail 9, (by kernel_rfl)
              change wpList _ _ _ _ _ wr.drew
              go_wp2_with fail
              go_roundw
              case rel =>
                refine ⟨k + 1, by omega, by go_num, ?_, H1.out.drew.other _ _ _ (.inr (.inl (by omega))), H2.out.drew.other _ _ _ (.inr (.inl (by omega))), H3.out.drew.other _ _ _ (.inl (by omega)), hb0.drew.setCell (p := ⟨g, y.toNat, none⟩) (by simp only; omega) _, (World.size_setCell _ _ _).trans hs0⟩
                have h := H0.out.drew.b8set y.toNat z
                rw [Nat.zero_add] at h
                rw [outL, HY.out, ← HZ.out]
                exact h
              case measure => simp [intOf]; omega
        · have hkn : k = 255 := by omega
          subst hkn
          have hA0 := H0.out
          rw [outL_all] at hA0
          have HS := Lib.hid hA0
          clear hA0 H0 H3 hlt hk
          rw [show ((255 : Nat) : Int) = (255 : Int) from rfl]
          go_wp2_with fail
          -- the way back
          go_loopw [10] (fun i wr => ∃ k : Nat, k ≤ 256 ∧ i = .int .i64 k ∧ At wr g 0 (bcells sboxL) ∧ At wr g 256 (bcells (bkL k)) ∧ At wr g 512 [.slice none 0 0] ∧ Below g w wr ∧ wr.heap.size = g + 2) (fun i _ => 256 - (intOf i).toNat)
          case atStart => exact ⟨0, Nat.zero_le _, rfl, HS.out, H1.out, H2.out, hb0, hs0⟩
          case round =>
            clear HS H1 H2 hb0 hs0
            obtain ⟨k, hk, rfl, hA0, hA1, hA2, hb0, hs0⟩ := hrel
            have H0 := Lib.hid hA0
            have H1 := Lib.hid hA1
            have H2 := Lib.hid hA2
            clear hA0 hA1 hA2
            by_cases hlt : k < 256
            · obtain ⟨b, rfl⟩ : ∃ b : UInt8, k = b.toNat := ⟨UInt8.ofNat k, by simp; omega⟩
              obtain ⟨s, hs'⟩ : ∃ s : UInt8, gsub b = s := ⟨_, rfl⟩
              have hc1 := H0.out.b8 b.toNat (by rw [sboxL_length]; exact hlt)
              rw [sboxL_get, hs', Nat.zero_add] at hc1
              have HSB := Lib.hid hs'
              clear hs'
              have hsl := s.toNat_lt
              have hsI : (s.toNat : Int) < 256 := by omega
              have hbI : (b.toNat : Int) < 256 := by omega
              have hwb : IntKind.u8.wrap (b.toNat : Int) = (b.toNat : Int) := by
                rw [IntKind.wrap_u8]
                omega
              have hc5 := H1.out.b8 s.toNat (by rw [bkL_length]; omega)
              have hf5 := H1.out.froz s.toNat (by rw [bcells_length, bkL_length]; omega)
              go_wp2_with fail
              go_still_tail 12, (by kernel_rfl)
              change wpList _ _ _ _ _ wr.drew
              go_wp2_with fail
              go_roundw
              case rel =>
                refine ⟨b.toNat + 1, by omega, by go_num, H0.out.drew.other _ _ _ (.inr (.inr (by rw [bcells_length, sboxL_length]; omega))), ?_, H2.out.drew.other _ _ _ (.inr (.inl (by omega))), hb0.drew.setCell (p := ⟨g, 256 + s.toNat, none⟩) (by simp only; omega) _, (World.size_setCell _ _ _).trans hs0⟩
                have h := H1.out.drew.b8set s.toNat b
                rw [bkL, UInt8.ofNat_toNat, HSB.out]
                exact h
              case measure => simp [intOf]; omega
            · have hkn : k = 256 := by omega
              subst hkn
              have hA1 := H1.out
              rw [bkL_all] at hA1
              have hG : Grow key.toList n g w 0 (.slice none 0 0) wr := ⟨H2.out, by rw [rst_zero]; exact World.ownsRow_nil _ _ _ _, H0.out, hA1, hb0, by omega⟩
              have HG := Lib.hid hG
              have hdv := HDV.out
              clear hG hA1 H0 H1 H2 hb0 hs0 hlt hk
              rw [show ((256 : Nat) : Int) = (256 : Int) from rfl]
              go_wp2_with fail
              clear hdv
              go_loopw [12, 13] (fun p i wr => ∃ k : Nat, ∃ v : Value, k ≤ N ∧ i = .int .i64 k ∧ p = .int .u8 ((rst key.toList n k).2.toNat : Int) ∧ Grow key.toList n g w k v wr) (fun _ i _ => N - (intOf i).toNat)
              case atStart => exact ⟨0, .slice none 0 0, Nat.zero_le _, rfl, by rw [rst_zero]; rfl, HG.out⟩
              case round =>
                clear HG
                obtain ⟨k, v, hk, rfl, rfl, hG⟩ := hrel
                have HG := Lib.hid hG
                have h7 := H7.out
                have hin := HiN.out
                clear hG
                by_cases hlt : k < N
                · have hkI : (k : Int) < (N : Int) := by omega
                  obtain ⟨p, hp⟩ : ∃ p, (rst key.toList n k).2 = p := ⟨_, rfl⟩
                  rw [hp]
                  have HPp := Lib.hid hp
                  clear hp
                  by_cases hkn : k < n
                  · as_aux_lemma =>
                    have hknI : (k : Int) < (n : Int) := by omega
                    go_wp2_with fail
                    obtain ⟨w3, hw3, hQ, hbq, hsq⟩ := quad_by wr
                    rw [hw3]
                    have HG3 := Lib.hid (HG.out.below hbq)
                    have hgx := HG.out.size
                    have hne : ∀ b, v.ownBlock = some b → b ≠ wr.heap.size := fun b hb => by have := (HG.out.own.lt b hb).2; omega
                    obtain ⟨gx, hgxe⟩ : ∃ gx, wr.heap.size = gx := ⟨_, rfl⟩
                    rw [hgxe] at hQ hsq hgx hne ⊢
                    have HQ := Lib.hid hQ
                    have HNE := Lib.hid hne
                    have HSQ := Lib.hid hsq
                    clear hw3 hQ hbq hgxe HG hne h7 hin hsq
                    go_loopw [15] (fun i wr => ∃ m : Nat, m ≤ 4 ∧ i = .int .i64 m ∧ At wr gx 0 (bcells (mixP 4 (fun j => at0 key.toList (4 * k + j)) (fun _ => 0) m)) ∧ Turn gx 0 w3 wr) (fun i _ => 4 - (intOf i).toNat)
                    case atStart => exact ⟨0, Nat.zero_le _, rfl, HQ.out, Turn.refl _ _ _⟩
                    case round =>
                      clear HQ
                      obtain ⟨m, hm, rfl, hA, hT⟩ := hrel
                      have HA := Lib.hid hA
                      have HT := Lib.hid hT
                      clear hA hT
                      by_cases hlm : m < 4
                      · obtain ⟨k4, hk4⟩ : ∃ k4 : Nat, k4 = 4 * k := ⟨_, rfl⟩
                        obtain ⟨q, hq⟩ : ∃ q : Nat, q = k4 + m := ⟨_, rfl⟩
                        have hw1 : 4 * (k : Int) = (k4 : Int) := by omega
                        have hw2 : (k4 : Int) + (m : Int) = (q : Int) := by omega
                        have hqk : q < key.size := by have := HKS.out; omega
                        have hmI : (m : Int) < 4 := by omega
                        have hc0 := HA.out.b8 m (by rw [mixP_length]; exact hlm)
                        have hfr := HA.out.froz m (by rw [bcells_length, mixP_length]; exact hlm)
                        rw [Nat.zero_add] at hc0 hfr
                        have HAT : Hid (at0 key.toList (4 * k + m) = key[q]) := by
                          show _ = _
                          rw [← at0_tl _ _ hqk, hq, hk4]
                        clear hk4 hq
                        go_wp2_with fail
                        go_roundw
                        case rel =>
                          refine ⟨m + 1, by omega, by go_num, ?_, HT.out.setCell m (Nat.zero_le _) _⟩
                          have h := HA.out.b8set m key[q]
                          rw [← HAT.out] at h
                          rw [← mixP_set, ← HAT.out]
                          rw [Nat.zero_add] at h
                          exact h
                        case measure => simp [intOf]; omega
                      · have hm4 : m = 4 := by omega
                        subst hm4
                        have hA := HA.out
                        rw [mixP_full, wb_key] at hA
                        have hGt := HG3.out.turn HT.out (by omega) (by have := HSQ.out; omega) HNE.out
                        have hst := rst_low key.toList n k hkn
                        obtain ⟨x, hx⟩ : ∃ x, keyW key.toList k = x := ⟨_, rfl⟩
                        rw [hx] at hst hA
                        have HST : Hid ((rst key.toList n (k + 1)).1 = (rst key.toList n k).1 ++ [x] ∧ (rst key.toList n (k + 1)).2 = p) := Lib.hid ⟨hst.1, hst.2.trans HPp.out⟩
                        have hsz : gx < wr.heap.size := hA.lt (by intro h; have := congrArg List.length h; rw [bcells_length, wb_length] at this; simp at this)
                        clear hst hx HT HG3 HSQ hlm hm
                        have HGA := Lib.hid hGt
                        have hcw0 := hA.cell 0 (.int .u8 ((rw_ x 0).toNat : Int)) rfl
                        have hcw1 := hA.cell 1 (.int .u8 ((rw_ x 1).toNat : Int)) rfl
                        have hcw2 := hA.cell 2 (.int .u8 ((rw_ x 2).toNat : Int)) rfl
                        have hcw3 := hA.cell 3 (.int .u8 ((rw_ x 3).toNat : Int)) rfl
                        have hch := hGt.head.cell 0 _ rfl
                        have hcf := hGt.head.froz 0 (by simp)
                        have hsg := hGt.size
                        have hgW : g < wr.heap.size := by omega
                        have HOA := Lib.hid ((hGt.own.alloc (Obj.cells #[Value.int .u8 ((rw_ x 0).toNat : Int), Value.int .u8 ((rw_ x 1).toNat : Int), Value.int .u8 ((rw_ x 2).toNat : Int), Value.int .u8 ((rw_ x 3).toNat : Int)] 83)).drew)
                        rw [Nat.add_zero] at hch hcf
                        simp only [Nat.zero_add] at hcw0 hcw1 hcw2 hcw3
                        clear hGt hA
                        go_wp2_with fail
                        go_region_law (refine step_append_gen rfl (.tmp 112) (.tmp 114) 78 rfl (g + 2) 83 i0 (.agg #[.int .u8 0, .int .u8 0, .int .u8 0, .int .u8 0]) 4 4 Tryz.underlying78 hi hz0 hz1 hz2 rfl (by decide) _ k _ rfl HOA.out wr.heap.size 1 1 (bcells (wb x)) rfl rfl (World.news_of_block (cs := #[Value.int .u8 ((rw_ x 0).toNat : Int), Value.int .u8 ((rw_ x 1).toNat : Int), Value.int .u8 ((rw_ x 2).toNat : Int), Value.int .u8 ((rw_ x 3).toNat : Int)]) (t := 83) (fr := (0, 0)) (heap_alloc_new wr _)) (bcells_one _) (by unfold maxLen; omega) (by omega) (by simp; omega) ?_; intro v' w1 hown1 hgrow; have hcf1 := hgrow.frozen_far ⟨g, 512, none⟩ (by simp; omega) (fun e => by have := (HOA.out.lt g e.symm).1; omega); have hch1 := hgrow.cell_far ⟨g, 512, none⟩ (by simp; omega) (fun e => by have := (HOA.out.lt g e.symm).1; omega); have HGP := Lib.hid (HGA.out.push HST.out.1 hown1 hgrow); obtain ⟨gq, cq, rfl⟩ := own_is hown1 (by omega); clear hown1 hgrow)
                        all_goals
                          clear hcw0 hcw1 hcw2 hcw3 hch hcf HOA HGA hcf1 hch1
                          go_wp2_with fail
                          go_roundw
                          case rel => exact ⟨k + 1, _, by omega, by go_num, by rw [HST.out.2], HGP.out⟩
                          case measure => simp [intOf]; omega
                  · have hkn' : n ≤ k := by omega
                    have hknI : ¬ (k : Int) < (n : Int) := by omega
                    obtain ⟨gw, cap, rfl⟩ := own_is HG.out.own (by omega)
                    obtain ⟨k1, hk1⟩ : ∃ k1 : Nat, k1 = k - 1 := ⟨_, rfl⟩
                    obtain ⟨kn, hknn⟩ : ∃ kn : Nat, kn = k - n := ⟨_, rfl⟩
                    obtain ⟨r, hr⟩ : ∃ r : Nat, r = k % n := ⟨_, rfl⟩
                    obtain ⟨r8, hr8⟩ : ∃ r8 : Nat, r8 = k % 8 := ⟨_, rfl⟩
                    have hL := rst_length key.toList n k
                    have hW := At.ofOwnN HG.out.own
                    obtain ⟨xd, hxd⟩ : ∃ xd, (rst key.toList n k).1.getD k1 0 = xd := ⟨_, rfl⟩
                    obtain ⟨xe, hxe⟩ : ∃ xe, (rst key.toList n k).1.getD kn 0 = xe := ⟨_, rfl⟩
                    have hAd := wbs_at hW k1 (by omega)
                    have hAe := wbs_at hW kn (by omega)
                    rw [hxd] at hAd
                    rw [hxe] at hAe
                    have hw1 : (k : Int) - 1 = (k1 : Int) := by omega
                    have hk1I : (k1 : Int) < (k : Int) := by omega
                    have hw2 : (k : Int) % (n : Int) = (r : Int) := by rw [hr]; rfl
                    have hw3 : (k : Int) % 8 = (r8 : Int) := by omega
                    obtain ⟨w3, hw3', hQx, hQt, hbq, hsq⟩ := two_q wr
                    have hAd' := hAd.alloc zq
                    have hgx := HG.out.size
                    have hgwl := hAd.lt (by intro h; have := congrArg List.length h; rw [bcells_length, wb_length] at this; simp at this)
                    have hgws := (HG.out.own.lt gw rfl).1
                    have HG3 := Lib.hid (HG.out.below hbq)
                    have hAe3 := hAe.below hbq hgwl
                    have hst := run_store_at (P := Tryz.prog) hQt (cs := bcells (wb xd)) rfl (bcells_one _)
                    have hQt4 : At (w3.setCells (wr.heap.size + 1) 0 (bcells (wb xd))) (wr.heap.size + 1) 0 (bcells (wb xd)) := hQt.ofSets rfl
                    have hQx4 := hQx.apartSets (g' := wr.heap.size + 1) (o' := 0) (vs := bcells (wb xd)) (.inl (by omega))
                    have hbs4 : Below (wr.heap.size + 1) w3 (w3.setCells (wr.heap.size + 1) 0 (bcells (wb xd))) := below_sets _ _ (Nat.le_refl _) _ _ _ _ (Below.refl _ _)
                    have hT4 : Turn (wr.heap.size + 1) 0 w3 (w3.setCells (wr.heap.size + 1) 0 (bcells (wb xd))) := Turn.ofSets _ _ _ _
                    have hG4 := HG3.out.turn hT4 (by omega) (by omega) (fun b hb => by cases hb; show gw ≠ _; omega)
                    have hAe4 := hAe3.turn hT4 (.inl (by omega))
                    have hs4 : (w3.setCells (wr.heap.size + 1) 0 (bcells (wb xd))).heap.size = wr.heap.size + 2 := by rw [size_sets]; exact hsq
                    have hch := HG.out.head.cell 0 _ rfl
                    have hgW : g < wr.heap.size := by omega
                    rw [Nat.add_zero] at hch
                    generalize w3.setCells (wr.heap.size + 1) 0 (bcells (wb xd)) = w4 at hst hQt4 hQx4 hG4 hAe4 hs4
                    subst hw3'
                    have hwl : (bcells (wb xd)).length = 4 := rfl
                    have HG4 := Lib.hid hG4
                    have HQt := Lib.hid hQt4
                    have HQx := Lib.hid hQx4
                    have HAe := Lib.hid hAe4
                    have HXD : Hid ((rst key.toList n k).1.getD (k - 1) 0 = xd) := by rw [← hk1]; exact hxd
                    have HXE : Hid ((rst key.toList n k).1.getD (k - n) 0 = xe) := by rw [← hknn]; exact hxe
                    have HR := Lib.hid hr
                    have HR8 := Lib.hid hr8
                    have HKN := Lib.hid hknn
                    have hn0 : (0 : Int) < (n : Int) := by omega
                    have hcase : r = 0 ∨ (r ≠ 0 ∧ n = 8 ∧ r8 = 4) ∨ (r ≠ 0 ∧ n = 8 ∧ r8 ≠ 4) ∨ (r ≠ 0 ∧ n ≠ 8) := by omega
                    obtain ⟨gx, hgxe⟩ : ∃ gx, wr.heap.size = gx := ⟨_, rfl⟩
                    have HGX := Lib.hid hgxe
                    clear hgxe hG4 hQt4 hQx4 hAe4 hxd hxe hr hr8 hknn hk1 hL hW hAd hAe hQx hQt hbq hsq HG3 hAe3 hbs4 hT4 HG
                    go_upto_if 129 with (refine wpList_load_at 83 (.tmp 124) gw (k1 * 4) (bcells (wb xd)) _ hAd' Tryz.underlying83 rfl (blen4 _ rfl) ⟨rfl, rfl, rfl⟩ ?_)
                    clear hst hAd' hwl hch h7 hin hw1 hw2 hk1I hknI
                    rw [HGX.out] at hs4 hgwl hgx hgW HQt HQx ⊢
                    go_cut [12] from 86 to 229 (fun s12 wx => CutB key.toList n g w k gw cap gx kn xe s12 wx)
                    case first =>
                      rcases hcase with hc | ⟨hc, hc2, hc3⟩ | ⟨hc, hc2, hc3⟩ | ⟨hc, hc2⟩
                      · have ht1 : ((r : Int) == 0) = true := by rw [beq_iff_eq]; omega
                        have HC1 := Lib.hid hc
                        clear hc
                        have hS := HG4.out.sub
                        have hct0 := HQt.out.b8 0 (by rw [wb_length]; decide)
                        have hct1 := HQt.out.b8 1 (by rw [wb_length]; decide)
                        have hct2 := HQt.out.b8 2 (by rw [wb_length]; decide)
                        have hct3 := HQt.out.b8 3 (by rw [wb_length]; decide)
                        rw [Nat.zero_add] at hct0 hct1 hct2 hct3
                        rw [wb_get _ _ (by decide)] at hct0
                        rw [wb_get _ _ (by decide)] at hct1
                        rw [wb_get _ _ (by decide)] at hct2
                        rw [wb_get _ _ (by decide)] at hct3
                        have hb0' := (rw_ xd 0).toNat_lt
                        have hb1' := (rw_ xd 1).toNat_lt
                        have hb2' := (rw_ xd 2).toNat_lt
                        have hb3' := (rw_ xd 3).toNat_lt
                        have hs0' := hS.b8 (rw_ xd 0).toNat (by rw [sboxL_length]; exact hb0')
                        have hs1' := hS.b8 (rw_ xd 1).toNat (by rw [sboxL_length]; exact hb1')
                        have hs2' := hS.b8 (rw_ xd 2).toNat (by rw [sboxL_length]; exact hb2')
                        have hs3' := hS.b8 (rw_ xd 3).toNat (by rw [sboxL_length]; exact hb3')
                        rw [Nat.zero_add, sboxL_get] at hs0'
                        rw [Nat.zero_add, sboxL_get] at hs1'
                        rw [Nat.zero_add, sboxL_get] at hs2'
                        rw [Nat.zero_add, sboxL_get] at hs3'
                        have hI0 : ((rw_ xd 0).toNat : Int) < 256 := by omega
                        have hI1 : ((rw_ xd 1).toNat : Int) < 256 := by omega
                        have hI2 : ((rw_ xd 2).toNat : Int) < 256 := by omega
                        have hI3 : ((rw_ xd 3).toNat : Int) < 256 := by omega
                        clear hS hb0' hb1' hb2' hb3'
                        obtain ⟨z0, hz0', hz0e⟩ : ∃ z0 : UInt8, bits .xor .u8 ((gsub (rw_ xd 1)).toNat : Int) (p.toNat : Int) = (z0.toNat : Int) ∧ z0 = gsub (rw_ xd 1) ^^^ p := ⟨_, u8x _ _, rfl⟩
                        have HZ0 := Lib.hid hz0e
                        clear hz0e
                        go_wp2_with fail
                        go_still_tail 31, (by kernel_rfl)
                        change wpList _ _ _ _ _ w4.drew
                        refine wpList_store_at 83 (.tmp 16) (.tmp 160) (gx + 1) 0 (bcells (wb xd)) (bcells [z0, gsub (rw_ xd 2), gsub (rw_ xd 3), gsub (rw_ xd 0)]) HQt.out.drew rfl (blen4 _ rfl) (bcells_one _) ⟨rfl, rfl, rfl, rfl⟩ ?_
                        obtain ⟨tt, htt⟩ : ∃ tt, subW (rotl32 xd 8) ^^^ wd p 0 0 0 = tt := ⟨_, rfl⟩
                        have hwt := turn_a xd p
                        rw [htt, ← HZ0.out] at hwt
                        rw [← hwt]
                        have hT5 : Turn (gx + 1) 0 w4 (w4.drew.setCells (gx + 1) 0 (bcells (wb tt))) := (Turn.refl _ _ _).drew.trans (Turn.ofSets _ _ _ _)
                        have hQt5 : At (w4.drew.setCells (gx + 1) 0 (bcells (wb tt))) (gx + 1) 0 (bcells (wb tt)) := HQt.out.drew.ofSets rfl
                        have hQx5 := HQx.out.turn hT5 (.inl (by omega))
                        have hAe5 := HAe.out.turn hT5 (.inl (by omega))
                        have hG5 := HG4.out.turn hT5 (by omega) (by omega) (fun b hb => by cases hb; show gw ≠ _; omega)
                        have hs5 : (w4.drew.setCells (gx + 1) 0 (bcells (wb tt))).heap.size = gx + 2 := by rw [size_sets]; exact hs4
                        generalize w4.drew.setCells (gx + 1) 0 (bcells (wb tt)) = w4 at hT5 hQt5 hQx5 hAe5 hG5 hs5 ⊢
                        have HQt := Lib.hid hQt5
                        have HQx := Lib.hid hQx5
                        have HAe := Lib.hid hAe5
                        have HG4 := Lib.hid hG5
                        clear hT5 hQt5 hQx5 hAe5 hG5 hs4 hct0 hct1 hct2 hct3 hs0' hs1' hs2' hs3' hI0 hI1 hI2 hI3
                        have hs4 := hs5
                        clear hs5
                        obtain ⟨p5, hp5⟩ : ∃ p5, p5 = dbl p := ⟨_, rfl⟩
                        have hst5 := rst_step key.toList n k xd xe tt p p5 hkn' HPp.out HXD.out HXE.out (by rw [turned, if_pos (by rw [← HR.out]; exact HC1.out), htt]) (by rw [if_pos (by rw [← HR.out]; exact HC1.out), hp5])
                        have HST := Lib.hid hst5
                        have HP5 := Lib.hid hp5
                        clear hst5 htt hwt ht1 hp5
                        go_wp2_with fail
                        refine (rmul_any p 2 _).mono ?_
                        rintro e w' ⟨rfl, rfl⟩
                        rw [gmul_comm, gm2, ← HP5.out]
                        go_wp2_with fail
                        go_meet
                        case rel => exact ⟨p5, tt, rfl, HST.out, HQt.out, HQx.out, HAe.out, HG4.out, hs4⟩
                      · have ht1 : ((r : Int) == 0) = false := by rw [beq_eq_false_iff_ne]; omega
                        have ht2 : ((n : Int) == 8) = true := by rw [beq_iff_eq]; omega
                        have ht3 : ((r8 : Int) == 4) = true := by rw [beq_iff_eq]; omega
                        have HC1 := Lib.hid hc
                        have HC2 := Lib.hid hc2
                        have HC3 := Lib.hid hc3
                        clear hc hc2 hc3
                        have hS := HG4.out.sub
                        have hct0 := HQt.out.b8 0 (by rw [wb_length]; decide)
                        have hct1 := HQt.out.b8 1 (by rw [wb_length]; decide)
                        have hct2 := HQt.out.b8 2 (by rw [wb_length]; decide)
                        have hct3 := HQt.out.b8 3 (by rw [wb_length]; decide)
                        rw [Nat.zero_add] at hct0 hct1 hct2 hct3
                        rw [wb_get _ _ (by decide)] at hct0
                        rw [wb_get _ _ (by decide)] at hct1
                        rw [wb_get _ _ (by decide)] at hct2
                        rw [wb_get _ _ (by decide)] at hct3
                        have hb0' := (rw_ xd 0).toNat_lt
                        have hb1' := (rw_ xd 1).toNat_lt
                        have hb2' := (rw_ xd 2).toNat_lt
                        have hb3' := (rw_ xd 3).toNat_lt
                        have hs0' := hS.b8 (rw_ xd 0).toNat (by rw [sboxL_length]; exact hb0')
                        have hs1' := hS.b8 (rw_ xd 1).toNat (by rw [sboxL_length]; exact hb1')
                        have hs2' := hS.b8 (rw_ xd 2).toNat (by rw [sboxL_length]; exact hb2')
                        have hs3' := hS.b8 (rw_ xd 3).toNat (by rw [sboxL_length]; exact hb3')
                        rw [Nat.zero_add, sboxL_get] at hs0'
                        rw [Nat.zero_add, sboxL_get] at hs1'
                        rw [Nat.zero_add, sboxL_get] at hs2'
                        rw [Nat.zero_add, sboxL_get] at hs3'
                        have hI0 : ((rw_ xd 0).toNat : Int) < 256 := by omega
                        have hI1 : ((rw_ xd 1).toNat : Int) < 256 := by omega
                        have hI2 : ((rw_ xd 2).toNat : Int) < 256 := by omega
                        have hI3 : ((rw_ xd 3).toNat : Int) < 256 := by omega
                        clear hS hb0' hb1' hb2' hb3'
                        go_wp2_with fail
                        go_still_tail 29, (by kernel_rfl)
                        change wpList _ _ _ _ _ w4.drew
                        refine wpList_store_at 83 (.tmp 16) (.tmp 198) (gx + 1) 0 (bcells (wb xd)) (bcells [gsub (rw_ xd 0), gsub (rw_ xd 1), gsub (rw_ xd 2), gsub (rw_ xd 3)]) HQt.out.drew rfl (blen4 _ rfl) (bcells_one _) ⟨rfl, rfl, rfl, rfl⟩ ?_
                        obtain ⟨tt, htt⟩ : ∃ tt, subW xd = tt := ⟨_, rfl⟩
                        have hwt := turn_b xd
                        rw [htt] at hwt
                        rw [← hwt]
                        have hT5 : Turn (gx + 1) 0 w4 (w4.drew.setCells (gx + 1) 0 (bcells (wb tt))) := (Turn.refl _ _ _).drew.trans (Turn.ofSets _ _ _ _)
                        have hQt5 : At (w4.drew.setCells (gx + 1) 0 (bcells (wb tt))) (gx + 1) 0 (bcells (wb tt)) := HQt.out.drew.ofSets rfl
                        have hQx5 := HQx.out.turn hT5 (.inl (by omega))
                        have hAe5 := HAe.out.turn hT5 (.inl (by omega))
                        have hG5 := HG4.out.turn hT5 (by omega) (by omega) (fun b hb => by cases hb; show gw ≠ _; omega)
                        have hs5 : (w4.drew.setCells (gx + 1) 0 (bcells (wb tt))).heap.size = gx + 2 := by rw [size_sets]; exact hs4
                        generalize w4.drew.setCells (gx + 1) 0 (bcells (wb tt)) = w4 at hT5 hQt5 hQx5 hAe5 hG5 hs5 ⊢
                        have HQt := Lib.hid hQt5
                        have HQx := Lib.hid hQx5
                        have HAe := Lib.hid hAe5
                        have HG4 := Lib.hid hG5
                        clear hT5 hQt5 hQx5 hAe5 hG5 hs4 hct0 hct1 hct2 hct3 hs0' hs1' hs2' hs3' hI0 hI1 hI2 hI3
                        have hs4 := hs5
                        clear hs5
                        obtain ⟨p5, hp5⟩ : ∃ p5, p5 = p := ⟨_, rfl⟩
                        have hst5 := rst_step key.toList n k xd xe tt p p5 hkn' HPp.out HXD.out HXE.out (by rw [turned, if_neg (by rw [← HR.out]; exact HC1.out), if_pos ⟨HC2.out, by rw [← HR8.out]; exact HC3.out⟩, htt]) (by rw [if_neg (by rw [← HR.out]; exact HC1.out), hp5])
                        have HST := Lib.hid hst5
                        rw [← hp5]
                        clear hst5 htt hwt ht1 ht2 ht3 hp5
                        go_wp2_with fail
                        go_meet
                        case rel => exact ⟨p5, tt, rfl, HST.out, HQt.out, HQx.out, HAe.out, HG4.out, hs4⟩
                      · have ht1 : ((r : Int) == 0) = false := by rw [beq_eq_false_iff_ne]; omega
                        have ht2 : ((n : Int) == 8) = true := by rw [beq_iff_eq]; omega
                        have ht3 : ((r8 : Int) == 4) = false := by rw [beq_eq_false_iff_ne]; omega
                        have HC1 := Lib.hid hc
                        have HC2 := Lib.hid hc2
                        have HC3 := Lib.hid hc3
                        clear hc hc2 hc3
                        go_wp2_with fail
                        obtain ⟨tt, htt⟩ : ∃ tt, tt = xd := ⟨_, rfl⟩
                        obtain ⟨p5, hp5⟩ : ∃ p5, p5 = p := ⟨_, rfl⟩
                        have hst5 := rst_step key.toList n k xd xe tt p p5 hkn' HPp.out HXD.out HXE.out (by rw [turned, if_neg (by rw [← HR.out]; exact HC1.out), if_neg (by rw [← HR8.out]; exact fun h => HC3.out h.2), htt]) (by rw [if_neg (by rw [← HR.out]; exact HC1.out), hp5])
                        have HST := Lib.hid hst5
                        rw [← htt] at HQt
                        rw [← hp5]
                        clear hst5 htt ht1 ht2 ht3 hp5
                        go_meet
                        case rel => exact ⟨p5, tt, rfl, HST.out, HQt.out, HQx.out, HAe.out, HG4.out, hs4⟩
                      · have ht1 : ((r : Int) == 0) = false := by rw [beq_eq_false_iff_ne]; omega
                        have ht2 : ((n : Int) == 8) = false := by rw [beq_eq_false_iff_ne]; omega
                        have HC1 := Lib.hid hc
                        have HC2 := Lib.hid hc2
                        clear hc hc2
                        go_wp2_with fail
                        obtain ⟨tt, htt⟩ : ∃ tt, tt = xd := ⟨_, rfl⟩
                        obtain ⟨p5, hp5⟩ : ∃ p5, p5 = p := ⟨_, rfl⟩
                        have hst5 := rst_step key.toList n k xd xe tt p p5 hkn' HPp.out HXD.out HXE.out (by rw [turned, if_neg (by rw [← HR.out]; exact HC1.out), if_neg (fun h => HC2.out h.1), htt]) (by rw [if_neg (by rw [← HR.out]; exact HC1.out), hp5])
                        have HST := Lib.hid hst5
                        rw [← htt] at HQt
                        rw [← hp5]
                        clear hst5 htt ht1 ht2 hp5
                        go_meet
                        case rel => exact ⟨p5, tt, rfl, HST.out, HQt.out, HQx.out, HAe.out, HG4.out, hs4⟩
                    case rest =>
                      as_aux_lemma =>
                      clear HQt HQx HAe HG4 hs4 hcase hw3
                      obtain ⟨p5, tt, rfl, hst5, hQt, hQx, hAe, hG, hs4⟩ := hcut
                      have HST := Lib.hid hst5
                      have HQt := Lib.hid hQt
                      have HQx := Lib.hid hQx
                      have HAe := Lib.hid hAe
                      have HG4 := Lib.hid hG
                      clear hst5 hQt hQx hAe hG
                      generalize wc = w4 at HQt HQx HAe HG4 hs4 ⊢
                      go_wp2_with fail
                      go_loopw [17] (fun i wr => ∃ m : Nat, m ≤ 4 ∧ i = .int .i64 m ∧ At wr gx 0 (bcells (mixP 4 (fun j => rw_ xe j ^^^ rw_ tt j) (fun _ => 0) m)) ∧ Turn gx 0 w4 wr) (fun i _ => 4 - (intOf i).toNat)
                      case atStart => exact ⟨0, Nat.zero_le _, rfl, HQx.out, Turn.refl _ _ _⟩
                      case round =>
                        clear HQx
                        obtain ⟨m, hm, rfl, hA, hT⟩ := hrel
                        have HA := Lib.hid hA
                        have HT := Lib.hid hT
                        clear hA hT
                        by_cases hlm : m < 4
                        · have hmI : (m : Int) < 4 := by omega
                          have hGm := HG4.out.turn HT.out (by omega) (by omega) (fun b hb => by cases hb; show gw ≠ _; omega)
                          have hch := hGm.head.cell 0 _ rfl
                          rw [Nat.add_zero] at hch
                          have hwk : IntKind.i64.wrap ((k : Int) - (n : Int)) = (kn : Int) := by rw [wrap_in _ (by omega) (by omega)]; have := HKN.out; omega
                          have hknk : (kn : Int) < (k : Int) := by have := HKN.out; omega
                          have hce := (HAe.out.turn HT.out (.inl (by omega))).b8 m (by rw [wb_length]; exact hlm)
                          have hct := (HQt.out.turn HT.out (.inl (by omega))).b8 m (by rw [wb_length]; exact hlm)
                          rw [wb_get _ _ hlm] at hce hct
                          have hcx := HA.out.b8 m (by rw [mixP_length]; exact hlm)
                          have hfr := HA.out.froz m (by rw [bcells_length, mixP_length]; exact hlm)
                          rw [Nat.zero_add] at hct hcx hfr
                          obtain ⟨q, hq, hq2⟩ : ∃ q : UInt8, bits .xor .u8 ((rw_ xe m).toNat : Int) ((rw_ tt m).toNat : Int) = (q.toNat : Int) ∧ rw_ xe m ^^^ rw_ tt m = q := ⟨_, u8x _ _, rfl⟩
                          have HQ := Lib.hid hq2
                          clear hq2 hGm
                          go_wp2_with fail
                          go_still_tail 17, (by kernel_rfl)
                          change wpList _ _ _ _ _ wr.drew
                          go_wp2_with fail
                          go_roundw
                          case rel =>
                            refine ⟨m + 1, by omega, by go_num, ?_, HT.out.drew.setCell m (Nat.zero_le _) _⟩
                            have h := HA.out.drew.b8set m q
                            rw [← HQ.out, Nat.zero_add] at h
                            rw [← mixP_set, ← HQ.out]
                            exact h
                          case measure => simp [intOf]; omega
                        · have hm4 : m = 4 := by omega
                          subst hm4
                          have hA := HA.out
                          rw [mixP_full, wb_xor] at hA
                          have hGt := HG4.out.turn HT.out (by omega) (by omega) (fun b hb => by cases hb; show gw ≠ _; omega)
                          obtain ⟨x, hx⟩ : ∃ x, xe ^^^ tt = x := ⟨_, rfl⟩
                          have hst' := HST.out
                          rw [hx] at hst' hA
                          have HST := Lib.hid hst'
                          clear hst' hx HT HG4 hlm hm HQt HAe HA
                          have HGA := Lib.hid hGt
                          have hcw0 := hA.cell 0 (.int .u8 ((rw_ x 0).toNat : Int)) rfl
                          have hcw1 := hA.cell 1 (.int .u8 ((rw_ x 1).toNat : Int)) rfl
                          have hcw2 := hA.cell 2 (.int .u8 ((rw_ x 2).toNat : Int)) rfl
                          have hcw3 := hA.cell 3 (.int .u8 ((rw_ x 3).toNat : Int)) rfl
                          have hch := hGt.head.cell 0 _ rfl
                          have hcf := hGt.head.froz 0 (by simp)
                          have hsg := hGt.size
                          have hgW : g < wr.heap.size := by omega
                          have HOA := Lib.hid ((hGt.own.alloc (Obj.cells #[Value.int .u8 ((rw_ x 0).toNat : Int), Value.int .u8 ((rw_ x 1).toNat : Int), Value.int .u8 ((rw_ x 2).toNat : Int), Value.int .u8 ((rw_ x 3).toNat : Int)] 83)).drew)
                          rw [Nat.add_zero] at hch hcf
                          simp only [Nat.zero_add] at hcw0 hcw1 hcw2 hcw3
                          clear hGt hA
                          go_wp2_with fail
                          go_region_law (refine step_append_gen rfl (.tmp 224) (.tmp 226) 78 rfl (g + 2) 83 i0 (.agg #[.int .u8 0, .int .u8 0, .int .u8 0, .int .u8 0]) 4 4 Tryz.underlying78 hi hz0 hz1 hz2 rfl (by decide) _ k _ rfl HOA.out wr.heap.size 1 1 (bcells (wb x)) rfl rfl (World.news_of_block (cs := #[Value.int .u8 ((rw_ x 0).toNat : Int), Value.int .u8 ((rw_ x 1).toNat : Int), Value.int .u8 ((rw_ x 2).toNat : Int), Value.int .u8 ((rw_ x 3).toNat : Int)]) (t := 83) (fr := (0, 0)) (heap_alloc_new wr _)) (bcells_one _) (by unfold maxLen; omega) (by omega) (by simp; omega) ?_; intro v' w1 hown1 hgrow; have hcf1 := hgrow.frozen_far ⟨g, 512, none⟩ (by simp; omega) (fun e => by have := (HOA.out.lt g e.symm).1; omega); have hch1 := hgrow.cell_far ⟨g, 512, none⟩ (by simp; omega) (fun e => by have := (HOA.out.lt g e.symm).1; omega); have HGP := Lib.hid (HGA.out.push HST.out.1 hown1 hgrow); obtain ⟨gq, cq, rfl⟩ := own_is hown1 (by omega); clear hown1 hgrow)
                          all_goals
                            clear hcw0 hcw1 hcw2 hcw3 hch hcf HOA HGA hcf1 hch1
                            go_wp2_with fail
                            go_roundw
                            case rel => exact ⟨k + 1, _, by omega, by go_num, by rw [HST.out.2], HGP.out⟩
                            case measure => simp [intOf]; omega
                · have hkN : k = N := by omega
                  subst hkN
                  have hkI : ¬ (k : Int) < (k : Int) := by omega
                  obtain ⟨gw, cap, rfl⟩ := own_is HG.out.own (by have := HNN.out; omega)
                  go_wp2_with fail
                  go_ret
                  exact ⟨g, by rw [HGW.out]; exact Nat.le_refl _, rfl, HG.out.box (by rw [tl_size]; exact HN.out) HNN.out, by rw [← HGW.out]; exact HG.out.bel⟩
end Go.Proofs.YtjlmmlnldjandaaGreatDoor
