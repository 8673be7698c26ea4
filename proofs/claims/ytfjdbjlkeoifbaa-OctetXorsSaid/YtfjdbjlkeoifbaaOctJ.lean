/- The contract of Unhex. -/
import Derived.Test.YtfjdbjlkeoifbaaOctI
namespace Go.Proofs.Ytfjdbjlkeoifbaa
open Go.RowKit
set_option linter.unusedVariables false
set_option linter.unusedSimpArgs false
def RetSPE (l : List UInt8) (p : Nat) (c : Int) (w : World) (e : Ending) (w' : World) : Prop := ∃ s : ByteArray, e = .returned (.tuple #[.string s, .int .i64 (p : Int), .int .i64 c]) ∧ s.toList = l ∧ Below w.heap.size w w'
theorem ret_spe {l m : List UInt8} {p : Nat} {q : Int} {c d : Int} {w w' : World} {s : ByteArray} (hl : s.toList = m) (hm : m = l) (hp : q = (p : Int)) (hc : c = d) (hb : Below w.heap.size w w') : RetSPE l p d w (.returned (.tuple #[.string s, .int .i64 q, .int .i64 c])) w' := by
  subst hm hc hp
  exact ⟨s, rfl, hl, hb⟩
set_option maxHeartbeats 1600000 in
theorem unhex_any (s : ByteArray) (w : World) (hs : s.size ≤ 140737488351232) :
    Calls Try.prog 21 #[.string s] w (RetSPE (unhexL s.toList) (unhexP s.toList) (unhexE s.toList) w) := by
  obtain ⟨i0, hi, hz0, hz1, hz2⟩ := info_parts info5
  obtain ⟨n, hn⟩ : ∃ n, n = s.size / 2 := ⟨_, rfl⟩
  have HN := Lib.hid hn
  clear hn
  have en : (s.size : Int) / 2 = (n : Int) := by have := HN.out; omega
  have HF := Lib.hid (bcells_made n)
  have hn2 : n ≤ 140737488351232 := by have := HN.out; omega
  go_enter Try.func21, Try.ntmps21
  go_wp2_with (at_make; refine wpList_make_full _ rfl (.tmp 11) (.tmp 11) 44 rfl w.heap.size 5 i0 (.int .u8 0) 1 Try.underlying44 hi hz0 hz1 .i64 .i64 _ _ n rfl rfl rfl rfl (by rw [hz2]; omega) (by unfold maxLen; omega) (Nat.le_refl _) ?_; intro w1 hown hgrow)
  rw [HF.out, ← ufL_zero s.toList n] at hown
  have hbel := (Below.refl w.heap.size w).grown hgrow (Nat.le_refl _) (by simp)
  clear hgrow
  go_wp2
  go_loopw [15] (fun i wr => ∃ k : Nat, k ≤ s.size ∧ i = .int .i64 k ∧ okTo s.toList k ∧ wr.ownsRow w.heap.size 5 1 (.slice (some ⟨w.heap.size, 0, none⟩) n n) n (bcells (ufL s.toList n k)) ∧ Below w.heap.size w wr) (fun i _ => s.size - (intOf i).toNat)
  case atStart => exact ⟨0, Nat.zero_le _, rfl, okTo_zero _, hown, hbel⟩
  case round =>
    clear hown hbel
    obtain ⟨k, hk, rfl, hok, hown, hbel⟩ := hrel
    have HO := Lib.hid hown
    have HOK := Lib.hid hok
    clear hown hok
    by_cases hlt : k < s.size
    · obtain ⟨c, hc⟩ : ∃ c : UInt8, s[k] = c := ⟨_, rfl⟩
      have HK : Hid (s.toList[k]? = some c) := by rw [← hc]; exact tl_get s k hlt
      by_cases h16 : half c < 16
      · have hd : decide (half c < 16) = true := by simpa using h16
        have H16 := Lib.hid h16
        clear h16
        obtain ⟨j, hj⟩ : ∃ j, k / 2 = j := ⟨_, rfl⟩
        have ej : (k : Int) / 2 = (j : Int) := by omega
        have HJ := Lib.hid hj
        clear hj
        have hstep := uf_step s.toList k c HK.out H16.out HOK.out
        rw [HJ.out] at hstep
        have HST := Lib.hid hstep
        clear hstep
        by_cases hjn : j < n
        · obtain ⟨u, hu, hcell, hfr⟩ := fill_cell HO.out j hjn
          rw [ufL_get _ _ _ _ hjn] at hu
          have HU := Lib.hid (Option.some.inj hu)
          clear hu
          have hu15 : u.toNat ≤ 15 := by rw [← HU.out]; exact HST.out.1
          have hh15 := halfU_le c
          have ho := or16 u (halfU c) hu15 hh15
          rw [← HU.out, HST.out.2, HU.out] at ho
          go_wp2_with (go_at_call 24; refine (value_any _ _).mono ?_; rintro e w' ⟨rfl, rfl⟩)
          go_roundw
          case rel =>
            refine ⟨k + 1, by omega, by go_num, okTo_succ _ _ _ HOK.out HK.out H16.out, ?_, ?_⟩
            · have h1 := (HO.out.stored j (.int .u8 ((uf s.toList (k + 1) j).toNat : Int))).1
              rw [bcells_set, ← HJ.out, ufL_set _ _ _ (by rw [HJ.out]; exact hjn), HJ.out] at h1
              exact h1
            · exact hbel.setCell (p := ⟨w.heap.size, j, none⟩) (Nat.le_refl _) _
          case measure => simp [intOf]; omega
        · go_wp2_with (go_at_call 24; refine (value_any _ _).mono ?_; rintro e w' ⟨rfl, rfl⟩)
          go_roundw
          case rel =>
            refine ⟨k + 1, by omega, by go_num, okTo_succ _ _ _ HOK.out HK.out H16.out, ?_, hbel⟩
            rw [← ufL_same _ _ _ (by rw [HJ.out]; exact hjn)]
            exact HO.out
          case measure => simp [intOf]; omega
      · have hd : decide (half c < 16) = false := by simpa using h16
        have H16 := Lib.hid h16
        clear h16
        go_wp2_with (go_at_call 24; refine (value_any _ _).mono ?_; rintro e w' ⟨rfl, rfl⟩)
        go_ret3
        have hb := bad_found s.toList k c HOK.out HK.out H16.out
        exact ret_spe (tl_mk []) (by rw [unhexL, hb]) (by rw [unhexP, hb]) (by rw [unhexE, hb]) hbel
    · have hkm : k = s.size := by omega
      subst hkm
      have hb : badAt s.toList = none := bad_none _ (by rw [tl_size]; exact HOK.out)
      have HB := Lib.hid hb
      clear hb
      have hcv := run_convert_own (P := Try.prog) HO.out 44 9 Try.underlying44 Try.underlying5 Try.underlying9
      by_cases hod : s.size % 2 = 1
      · have ho : (((s.size : Int) % 2) == 1) = true := by rw [beq_iff_eq]; omega
        have HOD := Lib.hid hod
        clear hod
        go_wp2
        go_ret3
        have ho2 : s.toList.length % 2 = 1 := by rw [tl_size]; exact HOD.out
        exact ret_spe (tl_mk []) (by rw [unhexL, HB.out, if_pos ho2]) (by rw [unhexP, HB.out, if_pos ho2, tl_size]) (by rw [unhexE, HB.out, if_pos ho2]) hbel
      · have ho : (((s.size : Int) % 2) == 1) = false := by rw [beq_eq_false_iff_ne]; omega
        have HOD := Lib.hid hod
        clear hod
        go_wp2
        go_ret3
        have ho2 : ¬ s.toList.length % 2 = 1 := by rw [tl_size]; exact HOD.out
        refine ret_spe (tl_mk _) ?_ (by rw [unhexP, HB.out, if_neg ho2]; rfl) (by rw [unhexE, HB.out, if_neg ho2]) hbel
        rw [unhexL, HB.out, if_neg ho2, ← ufL_done, HN.out, tl_size]
end Go.Proofs.Ytfjdbjlkeoifbaa
