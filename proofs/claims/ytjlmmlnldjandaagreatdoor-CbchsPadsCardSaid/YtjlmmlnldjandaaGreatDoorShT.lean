/- The program's New. -/
import Derived.Test.YtjlmmlnldjandaaGreatDoorShS
namespace Go.Proofs.YtjlmmlnldjandaaGreatDoor
open Go.RowKit
set_option linter.unusedVariables false
set_option linter.unusedSimpArgs false
def hashZ : List Value := .int .i64 0 :: (ucells (List.replicate 8 0) ++ (bcells (List.replicate 128 0) ++ [.int .u64 0]))
theorem hash_zero : Tryz.zeroCells168.toList = hashZ := by kernel_rfl
theorem hash_by (w : World) (kind : Int) : ∃ w2, w.alloc (Obj.cells (Tryz.zeroCells168.setIfInBounds 0 (Value.int IntKind.i64 kind)) 168) = w2 ∧ At w2 w.heap.size 0 (.int .i64 kind :: (ucells (List.replicate 8 0) ++ (bcells (List.replicate 128 0) ++ [.int .u64 0]))) ∧ Below w.heap.size w w2 := by
  refine ⟨_, rfl, ?_, (Below.refl _ _).alloc (Nat.le_refl _) _⟩
  have h := At.ofAlloc w (Tryz.zeroCells168.setIfInBounds 0 (Value.int IntKind.i64 kind)) 168
  rw [Array.toList_setIfInBounds, hash_zero] at h
  exact h
theorem hash_new {w : World} {g : Nat} {kind : Int} (h : At w g 0 (.int .i64 kind :: (ucells (List.replicate 8 0) ++ (bcells (List.replicate 128 0) ++ [.int .u64 0])))) : HM w g kind (List.replicate 8 0) (List.replicate 128 0) 0 := by
  refine ⟨?_, ?_, ?_, ?_, rfl, List.length_replicate⟩
  · exact At.sub (a := []) (b := [.int .i64 kind]) h
  · exact At.sub (o := 0) (a := [.int .i64 kind]) (b := ucells (List.replicate 8 0)) h
  · have e : (.int .i64 kind :: (ucells (List.replicate 8 0) ++ (bcells (List.replicate 128 0) ++ [.int .u64 0]))) = (.int .i64 kind :: ucells (List.replicate 8 0)) ++ bcells (List.replicate 128 0) ++ [.int .u64 0] := by simp
    rw [e] at h
    have h2 := h.sub
    rwa [List.length_cons, ucells_length, List.length_replicate] at h2
  · have e : (.int .i64 kind :: (ucells (List.replicate 8 0) ++ (bcells (List.replicate 128 0) ++ [.int .u64 0]))) = (.int .i64 kind :: (ucells (List.replicate 8 0) ++ bcells (List.replicate 128 0))) ++ [.int .u64 0] ++ [] := by simp
    rw [e] at h
    have h2 := h.sub
    rwa [List.length_cons, List.length_append, ucells_length, bcells_length, List.length_replicate, List.length_replicate] at h2
def RetNew (kind : Int) (b : Nat) (w : World) (e : Ending) (w' : World) : Prop := e = .returned (.tuple #[.pointer (some ⟨w.heap.size, 0, none⟩), .int .i64 0]) ∧ Hst w' w.heap.size kind b [] ∧ Below w.heap.size w w'
def RetNone (c : Int) (w : World) (e : Ending) (w' : World) : Prop := e = .returned (.tuple #[.pointer none, .int .i64 c]) ∧ w = w'
theorem hL512 : ∀ i, i < 8 → Sh.startL.getD i 0 = Sh.g (Sh.hL 512) i := by decide
theorem hL384 : ∀ i, i < 8 → Sh.startL.getD (8 + i) 0 = Sh.g (Sh.hL 384) i := by decide
theorem hL256 : ∀ i, i < 8 → Sh.startL.getD i 0 >>> 32 = Sh.g (Sh.hL 256) i := by decide
set_option maxRecDepth 100000 in
theorem new_no (kind : Int) (hk : Sh.known kind = false) (w : World) : Calls Tryz.prog 114 #[.int .i64 kind] w (RetNone 11 w) := by
  have hs := size_any kind w
  have he : Sh.shE kind = 11 := by rw [Sh.shE, hk]; rfl
  rw [show (RetSz kind w) = (fun e w' => e = .returned (.tuple #[.int .i64 (szA kind), .int .i64 (szB kind), .int .i64 11]) ∧ w = w') by funext e w'; rw [RetSz, he]] at hs
  have HS := Lib.hid hs
  clear hs he hk
  go_enter Tryz.func114, Tryz.ntmps114
  go_wp2_with fail
  refine HS.out.mono ?_
  rintro e w1 ⟨rfl, rfl⟩
  go_wp2_with fail
  go_ret2
  exact ⟨rfl, rfl⟩
set_option maxRecDepth 100000 in
set_option maxHeartbeats 3200000 in
theorem new256 (w : World) (hT : Tb w) : Calls Tryz.prog 114 #[.int .i64 256] w (RetNew 256 32 w) := by
  have HS := Lib.hid (size_any 256 w)
  have HTB := Lib.hid hT
  clear hT
  go_enter Tryz.func114, Tryz.ntmps114
  go_wp2_with fail
  refine HS.out.mono ?_
  rintro e w1 ⟨rfl, rfl⟩
  clear HS
  rw [show szA 256 = 32 from rfl, show szB 256 = 64 from rfl, show Sh.shE 256 = 0 from rfl]
  go_wp2_with fail
  obtain ⟨w2, hw2, hA3, hb2⟩ := hash_by w 256
  rw [hw2]
  have hm2 := hash_new hA3
  rw [show List.replicate 8 0 = mixP 8 (Sh.g (Sh.hL 256)) (fun _ => 0) 0 by rw [mixP_zero]; decide] at hm2
  have HM2 := Lib.hid hm2
  have HB2 := Lib.hid hb2
  have HT2 := Lib.hid (HTB.out.below hb2 HTB.out.2.2)
  clear hA3 hm2 hb2 hw2
  go_loopw [21] (fun iv wr => ∃ i : Nat, i ≤ 8 ∧ iv = .int .i64 (i : Int) ∧ HM wr w.heap.size 256 (mixP 8 (Sh.g (Sh.hL 256)) (fun _ => 0) i) (List.replicate 128 0) 0 ∧ Below w.heap.size w wr ∧ Tb wr) (fun iv _ => 8 - (intOf iv).toNat)
  case atStart => exact ⟨0, by omega, rfl, HM2.out, HB2.out, HT2.out⟩
  case round =>
    clear HM2 HB2 HT2
    obtain ⟨i, hi8, rfl, hm, hb, ht⟩ := hrel
    by_cases hlt : i < 8
    · have hltI : (i : Int) < 8 := by omega
      have hi0 : (0 : Int) ≤ (i : Int) := by omega
      have hi16 : (i : Int) < 16 := by omega
      have cs := ht.2.1 i (by omega)
      obtain ⟨y, hy⟩ : ∃ y, Sh.startL.getD i 0 = y := ⟨_, rfl⟩
      have hx := hL256 i hlt
      have sk := sh_shr y 32
      rw [hy] at cs hx
      rw [hx, show (2 : Int) ^ 32 = 4294967296 by decide] at sk
      obtain ⟨x, hxe⟩ : ∃ x, Sh.g (Sh.hL 256) i = x := ⟨_, rfl⟩
      rw [hxe] at sk
      clear hx hy
      have c4 := hm.bl.u i (by rw [mixP_length]; exact hlt)
      obtain ⟨ca, cf⟩ := c4
      have HST : Hid (HM (wr.drew.setCell ⟨w.heap.size, 1 + i, none⟩ (.int .u64 (x : Int))) w.heap.size 256 (mixP 8 (Sh.g (Sh.hL 256)) (fun _ => 0) (i + 1)) (List.replicate 128 0) 0) := by
        have h := (hm.drewN 1).word i x hlt
        rw [← hxe, mixP_set] at h
        rw [← hxe]
        exact h
      have HBE := Lib.hid hb
      have HTT : Hid (Tb (wr.drew.setCell ⟨w.heap.size, 1 + i, none⟩ (.int .u64 (x : Int)))) := ((ht.drewN 1).chg ((Chg.refl w.heap.size wr.drew).setCell (1 + i) (.int .u64 (x : Int))) HTB.out.2.2)
      clear hm hb ht hxe
      go_wp2_with fail
      go_still_tail 9, (by kernel_rfl)
      change wpList _ _ _ _ _ wr.drew
      go_wp2_with fail
      go_roundw
      case rel => exact ⟨i + 1, by omega, by go_num, HST.out, HBE.out.drew.setCell (p := ⟨w.heap.size, 1 + i, none⟩) (Nat.le_refl _) _, HTT.out⟩
      case measure => first | (simp [intOf]; done) | (simp [intOf]; omega)
    · have hi : i = 8 := by omega
      have hge : ¬ (i : Int) < 8 := by omega
      rw [hi, show mixP 8 (Sh.g (Sh.hL 256)) (fun _ => 0) 8 = Sh.hL 256 by rw [mixP_full]; exact map_getD _ 0 8 rfl] at hm
      have HMF := Lib.hid hm
      have HBE := Lib.hid hb
      clear hm hb ht hi hlt hi8
      go_wp2_with fail
      go_ret2
      exact ⟨rfl, ⟨_, HMF.out, rfl⟩, HBE.out⟩
set_option maxRecDepth 100000 in
set_option maxHeartbeats 3200000 in
theorem new384 (w : World) (hT : Tb w) : Calls Tryz.prog 114 #[.int .i64 384] w (RetNew 384 64 w) := by
  have HS := Lib.hid (size_any 384 w)
  have HTB := Lib.hid hT
  clear hT
  go_enter Tryz.func114, Tryz.ntmps114
  go_wp2_with fail
  refine HS.out.mono ?_
  rintro e w1 ⟨rfl, rfl⟩
  clear HS
  rw [show szA 384 = 48 from rfl, show szB 384 = 128 from rfl, show Sh.shE 384 = 0 from rfl]
  go_wp2_with fail
  obtain ⟨w2, hw2, hA3, hb2⟩ := hash_by w 384
  rw [hw2]
  have hm2 := hash_new hA3
  rw [show List.replicate 8 0 = mixP 8 (Sh.g (Sh.hL 384)) (fun _ => 0) 0 by rw [mixP_zero]; decide] at hm2
  have HM2 := Lib.hid hm2
  have HB2 := Lib.hid hb2
  have HT2 := Lib.hid (HTB.out.below hb2 HTB.out.2.2)
  clear hA3 hm2 hb2 hw2
  go_loopw [21] (fun iv wr => ∃ i : Nat, i ≤ 8 ∧ iv = .int .i64 (i : Int) ∧ HM wr w.heap.size 384 (mixP 8 (Sh.g (Sh.hL 384)) (fun _ => 0) i) (List.replicate 128 0) 0 ∧ Below w.heap.size w wr ∧ Tb wr) (fun iv _ => 8 - (intOf iv).toNat)
  case atStart => exact ⟨0, by omega, rfl, HM2.out, HB2.out, HT2.out⟩
  case round =>
    clear HM2 HB2 HT2
    obtain ⟨i, hi8, rfl, hm, hb, ht⟩ := hrel
    by_cases hlt : i < 8
    · have hltI : (i : Int) < 8 := by omega
      have hi0 : (0 : Int) ≤ (i : Int) := by omega
      have hi16 : (i : Int) < 16 := by omega
      obtain ⟨i8, hi8e⟩ : ∃ x, 8 + i = x := ⟨_, rfl⟩
      have cs := ht.2.1 i8 (by omega)
      have hx := hL384 i hlt
      rw [hi8e] at hx
      rw [hx] at cs
      have k1 : (8 : Int) + (i : Int) = (i8 : Int) := by omega
      have k2 : IntKind.i64.wrap (i8 : Int) = (i8 : Int) := i64_fit _ (by omega)
      have k3 : (i8 : Int) < 16 := by omega
      have k4 : (0 : Int) ≤ (i8 : Int) := by omega
      obtain ⟨x, hxe⟩ : ∃ x, Sh.g (Sh.hL 384) i = x := ⟨_, rfl⟩
      rw [hxe] at cs
      clear hx hi8e
      have c4 := hm.bl.u i (by rw [mixP_length]; exact hlt)
      obtain ⟨ca, cf⟩ := c4
      have HST : Hid (HM (wr.drew.setCell ⟨w.heap.size, 1 + i, none⟩ (.int .u64 (x : Int))) w.heap.size 384 (mixP 8 (Sh.g (Sh.hL 384)) (fun _ => 0) (i + 1)) (List.replicate 128 0) 0) := by
        have h := (hm.drewN 1).word i x hlt
        rw [← hxe, mixP_set] at h
        rw [← hxe]
        exact h
      have HBE := Lib.hid hb
      have HTT : Hid (Tb (wr.drew.setCell ⟨w.heap.size, 1 + i, none⟩ (.int .u64 (x : Int)))) := ((ht.drewN 1).chg ((Chg.refl w.heap.size wr.drew).setCell (1 + i) (.int .u64 (x : Int))) HTB.out.2.2)
      clear hm hb ht hxe
      go_wp2_with fail
      go_still_tail 9, (by kernel_rfl)
      change wpList _ _ _ _ _ wr.drew
      go_wp2_with fail
      go_roundw
      case rel => exact ⟨i + 1, by omega, by go_num, HST.out, HBE.out.drew.setCell (p := ⟨w.heap.size, 1 + i, none⟩) (Nat.le_refl _) _, HTT.out⟩
      case measure => first | (simp [intOf]; done) | (simp [intOf]; omega)
    · have hi : i = 8 := by omega
      have hge : ¬ (i : Int) < 8 := by omega
      rw [hi, show mixP 8 (Sh.g (Sh.hL 384)) (fun _ => 0) 8 = Sh.hL 384 by rw [mixP_full]; exact map_getD _ 0 8 rfl] at hm
      have HMF := Lib.hid hm
      have HBE := Lib.hid hb
      clear hm hb ht hi hlt hi8
      go_wp2_with fail
      go_ret2
      exact ⟨rfl, ⟨_, HMF.out, rfl⟩, HBE.out⟩
set_option maxRecDepth 100000 in
set_option maxHeartbeats 3200000 in
theorem new512 (w : World) (hT : Tb w) : Calls Tryz.prog 114 #[.int .i64 512] w (RetNew 512 64 w) := by
  have HS := Lib.hid (size_any 512 w)
  have HTB := Lib.hid hT
  clear hT
  go_enter Tryz.func114, Tryz.ntmps114
  go_wp2_with fail
  refine HS.out.mono ?_
  rintro e w1 ⟨rfl, rfl⟩
  clear HS
  rw [show szA 512 = 64 from rfl, show szB 512 = 128 from rfl, show Sh.shE 512 = 0 from rfl]
  go_wp2_with fail
  obtain ⟨w2, hw2, hA3, hb2⟩ := hash_by w 512
  rw [hw2]
  have hm2 := hash_new hA3
  rw [show List.replicate 8 0 = mixP 8 (Sh.g (Sh.hL 512)) (fun _ => 0) 0 by rw [mixP_zero]; decide] at hm2
  have HM2 := Lib.hid hm2
  have HB2 := Lib.hid hb2
  have HT2 := Lib.hid (HTB.out.below hb2 HTB.out.2.2)
  clear hA3 hm2 hb2 hw2
  go_loopw [21] (fun iv wr => ∃ i : Nat, i ≤ 8 ∧ iv = .int .i64 (i : Int) ∧ HM wr w.heap.size 512 (mixP 8 (Sh.g (Sh.hL 512)) (fun _ => 0) i) (List.replicate 128 0) 0 ∧ Below w.heap.size w wr ∧ Tb wr) (fun iv _ => 8 - (intOf iv).toNat)
  case atStart => exact ⟨0, by omega, rfl, HM2.out, HB2.out, HT2.out⟩
  case round =>
    clear HM2 HB2 HT2
    obtain ⟨i, hi8, rfl, hm, hb, ht⟩ := hrel
    by_cases hlt : i < 8
    · have hltI : (i : Int) < 8 := by omega
      have hi0 : (0 : Int) ≤ (i : Int) := by omega
      have hi16 : (i : Int) < 16 := by omega
      have cs := ht.2.1 i (by omega)
      have hx := hL512 i hlt
      rw [hx] at cs
      obtain ⟨x, hxe⟩ : ∃ x, Sh.g (Sh.hL 512) i = x := ⟨_, rfl⟩
      rw [hxe] at cs
      clear hx
      have c4 := hm.bl.u i (by rw [mixP_length]; exact hlt)
      obtain ⟨ca, cf⟩ := c4
      have HST : Hid (HM (wr.drew.setCell ⟨w.heap.size, 1 + i, none⟩ (.int .u64 (x : Int))) w.heap.size 512 (mixP 8 (Sh.g (Sh.hL 512)) (fun _ => 0) (i + 1)) (List.replicate 128 0) 0) := by
        have h := (hm.drewN 1).word i x hlt
        rw [← hxe, mixP_set] at h
        rw [← hxe]
        exact h
      have HBE := Lib.hid hb
      have HTT : Hid (Tb (wr.drew.setCell ⟨w.heap.size, 1 + i, none⟩ (.int .u64 (x : Int)))) := ((ht.drewN 1).chg ((Chg.refl w.heap.size wr.drew).setCell (1 + i) (.int .u64 (x : Int))) HTB.out.2.2)
      clear hm hb ht hxe
      go_wp2_with fail
      go_still_tail 8, (by kernel_rfl)
      change wpList _ _ _ _ _ wr.drew
      go_wp2_with fail
      go_roundw
      case rel => exact ⟨i + 1, by omega, by go_num, HST.out, HBE.out.drew.setCell (p := ⟨w.heap.size, 1 + i, none⟩) (Nat.le_refl _) _, HTT.out⟩
      case measure => first | (simp [intOf]; done) | (simp [intOf]; omega)
    · have hi : i = 8 := by omega
      have hge : ¬ (i : Int) < 8 := by omega
      rw [hi, show mixP 8 (Sh.g (Sh.hL 512)) (fun _ => 0) 8 = Sh.hL 512 by rw [mixP_full]; exact map_getD _ 0 8 rfl] at hm
      have HMF := Lib.hid hm
      have HBE := Lib.hid hb
      clear hm hb ht hi hlt hi8
      go_wp2_with fail
      go_ret2
      exact ⟨rfl, ⟨_, HMF.out, rfl⟩, HBE.out⟩
theorem new_yes (kind : Int) (hk : Sh.known kind = true) (w : World) (hT : Tb w) : Calls Tryz.prog 114 #[.int .i64 kind] w (RetNew kind (Sh.bits kind) w) := by
  rcases known_ways kind with rfl | rfl | rfl | ⟨hk2, _⟩
  · exact new256 w hT
  · exact new384 w hT
  · exact new512 w hT
  · rw [hk] at hk2
    cases hk2
end Go.Proofs.YtjlmmlnldjandaaGreatDoor
