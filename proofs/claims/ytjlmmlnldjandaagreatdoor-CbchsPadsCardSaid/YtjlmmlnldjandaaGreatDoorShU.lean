/- The program's hash: none, Write, Sum, Copy; digests at once. -/
import Derived.Test.YtjlmmlnldjandaaGreatDoorShT
import Derived.Test.YtjlmmlnldjandaaGreatDoorShJ
namespace Go.Proofs.YtjlmmlnldjandaaGreatDoor
open Go.RowKit
set_option linter.unusedVariables false
set_option linter.unusedSimpArgs false
theorem hash_parts {w : World} {g n : Nat} {kind : Int} {H : List Nat} {R : List UInt8} (hH : H.length = 8) (hR : R.length = 128) (h : At w g 0 (.int .i64 kind :: (ucells H ++ (bcells R ++ [.int .u64 (n : Int)])))) : HM w g kind H R n := by
  refine ⟨?_, ?_, ?_, ?_, hH, hR⟩
  · exact At.sub (a := []) (b := [.int .i64 kind]) h
  · exact At.sub (o := 0) (a := [.int .i64 kind]) (b := ucells H) h
  · have e : (.int .i64 kind :: (ucells H ++ (bcells R ++ [.int .u64 (n : Int)]))) = (.int .i64 kind :: ucells H) ++ bcells R ++ [.int .u64 (n : Int)] := by simp
    rw [e] at h
    have h2 := h.sub
    rwa [List.length_cons, ucells_length, hH] at h2
  · have e : (.int .i64 kind :: (ucells H ++ (bcells R ++ [.int .u64 (n : Int)]))) = (.int .i64 kind :: (ucells H ++ bcells R)) ++ [.int .u64 (n : Int)] ++ [] := by simp
    rw [e] at h
    have h2 := h.sub
    rwa [List.length_cons, List.length_append, ucells_length, bcells_length, hH, hR] at h2
theorem HM.whole {w : World} {g n : Nat} {kind : Int} {H : List Nat} {R : List UInt8} (h : HM w g kind H R n) : At w g 0 (.int .i64 kind :: (ucells H ++ (bcells R ++ [.int .u64 (n : Int)]))) := by
  have h1 : At w g 9 (bcells R ++ [.int .u64 (n : Int)]) := h.rs.join (by rw [bcells_length, h.rl]; exact h.ln)
  have h2 : At w g 1 (ucells H ++ (bcells R ++ [.int .u64 (n : Int)])) := h.bl.join (by rw [ucells_length, h.hl]; exact h1)
  exact At.join (a := [.int .i64 kind]) h.kd h2
theorem Hst.whole {w : World} {g b : Nat} {kind : Int} {D : List UInt8} (h : Hst w g kind b D) : ∃ cs : List Value, cs.length = 138 ∧ At w g 0 cs ∧ (∀ v ∈ cs, v.oneCell' = true) ∧ ∀ (w2 : World) (g2 : Nat), At w2 g2 0 cs → Hst w2 g2 kind b D := by
  obtain ⟨R, hm, hr⟩ := h
  refine ⟨_, ?_, hm.whole, ?_, fun w2 g2 h2 => ⟨R, hash_parts hm.hl hm.rl h2, hr⟩⟩
  · rw [List.length_cons, List.length_append, List.length_append, ucells_length, bcells_length, hm.hl, hm.rl]
    rfl
  · intro v hv
    rw [List.mem_cons, List.mem_append, List.mem_append, List.mem_singleton] at hv
    rcases hv with rfl | hv | hv | rfl
    · rfl
    · exact ucells_one _ v hv
    · exact bcells_one _ v hv
    · rfl
theorem Hst.kind {w : World} {g b : Nat} {kind : Int} {D : List UInt8} (h : Hst w g kind b D) : w.cell? ⟨g, 0, none⟩ = some (.int .i64 kind) := by
  obtain ⟨R, hm, _⟩ := h
  exact hm.kd.cell 0 _ rfl
set_option maxRecDepth 100000 in
theorem none_nil (w : World) : Calls Tryz.prog 117 #[.pointer none] w (RetKn true w) := by
  go_enter Tryz.func117, Tryz.ntmps117
  go_wp2_with fail
  go_ret
  exact ⟨rfl, rfl⟩
set_option maxRecDepth 100000 in
theorem none_zero (g : Nat) (w : World) (h : w.cell? ⟨g, 0, none⟩ = some (.int .i64 0)) : Calls Tryz.prog 117 #[.pointer (some ⟨g, 0, none⟩)] w (RetKn true w) := by
  go_enter Tryz.func117, Tryz.ntmps117
  go_wp2_with fail
  go_ret
  exact ⟨rfl, rfl⟩
set_option maxRecDepth 100000 in
theorem none_no (g : Nat) (kind : Int) (hk : Sh.known kind = true) (w : World) (h : w.cell? ⟨g, 0, none⟩ = some (.int .i64 kind)) : Calls Tryz.prog 117 #[.pointer (some ⟨g, 0, none⟩)] w (RetKn false w) := by
  have e1 : (kind == 0) = false := by
    rw [beq_eq_false_iff_ne]
    rintro rfl
    exact absurd hk (by decide)
  clear hk
  go_enter Tryz.func117, Tryz.ntmps117
  go_wp2_with fail
  go_ret
  exact ⟨rfl, rfl⟩
/-- a known kind's contracts, of either width -/
theorem take_any (w : World) (g : Nat) (kind : Int) (hk : Sh.known kind = true) (D : List UInt8) (s : ByteArray) (hD : Hst w g kind (Sh.bits kind) D) (hT : Tb w) (hg : 2 < g) (hl : D.length + s.size ≤ 1125899906842624) :
    Calls Tryz.prog 115 #[.pointer (some ⟨g, 0, none⟩), .string s] w (RetHst g kind (Sh.bits kind) (D ++ s.toList) w) := by
  rcases known_ways kind with rfl | rfl | rfl | ⟨hk2, _⟩
  · exact take32_any w g 256 (.inl ⟨rfl, rfl⟩) 32 (fun wx => size_any 256 wx) D s hD hT hg hl
  · exact take64_any w g 384 (.inr ⟨by decide, rfl⟩) 48 (fun wx => size_any 384 wx) D s hD hT hg hl
  · exact take64_any w g 512 (.inr ⟨by decide, rfl⟩) 64 (fun wx => size_any 512 wx) D s hD hT hg hl
  · rw [hk] at hk2
    cases hk2
theorem digest_any (w : World) (g : Nat) (kind : Int) (hk : Sh.known kind = true) (D : List UInt8) (hD : Hst w g kind (Sh.bits kind) D) (hT : Tb w) (hg : 2 < g) (hl : D.length ≤ 562949953421312) :
    Calls Tryz.prog 116 #[.pointer (some ⟨g, 0, none⟩)] w (RetDg g (Sh.shL kind D) w) := by
  rcases known_ways kind with rfl | rfl | rfl | ⟨hk2, _⟩
  · exact digest32_any w g 256 (.inl ⟨rfl, rfl⟩) 32 (by decide) (fun wx => size_any 256 wx) D hD hT hg hl
  · exact digest64_any w g 384 (.inr ⟨by decide, rfl⟩) 48 (by decide) (fun wx => size_any 384 wx) D hD hT hg hl
  · exact digest64_any w g 512 (.inr ⟨by decide, rfl⟩) 64 (by decide) (fun wx => size_any 512 wx) D hD hT hg hl
  · rw [hk] at hk2
    cases hk2
def RetWu (g : Nat) (kind : Int) (D : List UInt8) (w : World) (e : Ending) (w' : World) : Prop := e = .returned (.int .i64 0) ∧ Hst w' g kind (Sh.bits kind) D ∧ Chg g w w'
set_option maxRecDepth 100000 in
theorem write_any (w : World) (g : Nat) (kind : Int) (hk : Sh.known kind = true) (D : List UInt8) (s : ByteArray) (hD : Hst w g kind (Sh.bits kind) D) (hT : Tb w) (hg : 2 < g) (hl : D.length + s.size ≤ 1125899906842624) :
    Calls Tryz.prog 105 #[.pointer (some ⟨g, 0, none⟩), .string s] w (RetWu g kind (D ++ s.toList) w) := by
  have NN := Lib.hid (none_no g kind hk w hD.kind)
  have TK := Lib.hid (take_any w g kind hk D s hD hT hg hl)
  clear hk hD hT hl
  go_enter Tryz.func105, Tryz.ntmps105
  go_wp2_with fail
  refine NN.out.mono ?_
  rintro e w1 ⟨rfl, rfl⟩
  go_wp2_with fail
  refine TK.out.mono ?_
  rintro e w2 ⟨rfl, h1, h2⟩
  have H := Lib.hid (And.intro h1 h2)
  clear h1 h2
  go_wp2_with fail
  go_ret
  exact ⟨rfl, H.out.1, H.out.2⟩
def RetCp (kind : Int) (D : List UInt8) (w : World) (e : Ending) (w' : World) : Prop := e = .returned (.pointer (some ⟨w.heap.size, 0, none⟩)) ∧ Hst w' w.heap.size kind (Sh.bits kind) D ∧ Below w.heap.size w w'
theorem hash_size : (Tryz.prog.info? 168).map (·.size) = some 138 := by kernel_rfl
theorem hash_zinfo : (Tryz.prog.info? 168).map (fun i => (i.zero, i.size)) = some (some (.agg Tryz.zeroCells168), 138) := by kernel_rfl
theorem hash_zlen : (Value.agg Tryz.zeroCells168).cells.toList.length = 138 := by
  show Tryz.zeroCells168.toList.length = 138
  rw [hash_zero, hashZ, List.length_cons, List.length_append, List.length_append, ucells_length, bcells_length, List.length_replicate, List.length_replicate]
  rfl
set_option maxRecDepth 100000 in
set_option maxHeartbeats 1600000 in
theorem copy_any (w : World) (g : Nat) (kind : Int) (hk : Sh.known kind = true) (D : List UInt8) (hD : Hst w g kind (Sh.bits kind) D) :
    Calls Tryz.prog 87 #[.pointer (some ⟨g, 0, none⟩)] w (RetCp kind D w) := by
  have NN := Lib.hid (none_no g kind hk w hD.kind)
  obtain ⟨cs, hcl, hAc, hc1, hcp⟩ := hD.whole
  have HA := Lib.hid hAc
  have HC1 := Lib.hid hc1
  have HCP := Lib.hid hcp
  have HSI : Hid ((Tryz.prog.info? 168).map (·.size) = some cs.length) := by show _ = _; rw [hcl]; exact hash_size
  have HLE : Hid ((Value.agg Tryz.zeroCells168).cells.toList.length = cs.length) := by show _ = _; rw [hash_zlen, hcl]
  clear hk hD hcl hAc hc1 hcp
  go_enter Tryz.func87, Tryz.ntmps87
  go_wp2_with fail
  refine NN.out.mono ?_
  rintro e w1 ⟨rfl, rfl⟩
  go_wp2_with (first
    | (refine wpList_load_at 168 (.tmp 7) g 0 cs _ HA.out Tryz.underlying168 rfl HSI.out ⟨rfl, rfl, rfl⟩ ?_)
    | (refine wpList_alloc_at 168 (.agg Tryz.zeroCells168) 138 hash_zinfo ⟨rfl, rfl⟩ ?_; intro w2 hA2 hb2 hs2)
    | (refine wpList_store_at 168 (.tmp 3) (.tmp 8) w.heap.size 0 (Value.agg Tryz.zeroCells168).cells.toList cs hA2 HLE.out HSI.out HC1.out ⟨rfl, rfl, rfl, rfl⟩ ?_))
  have hS := At.ofSets hA2 HLE.out
  have H2 := Lib.hid (HCP.out _ _ hS)
  have HB2 := Lib.hid (below_sets w.heap.size w.heap.size (Nat.le_refl _) cs 0 _ _ hb2)
  clear hS hA2 hb2 hs2
  go_ret
  exact ⟨rfl, H2.out, HB2.out⟩
set_option maxRecDepth 100000 in
set_option maxHeartbeats 1600000 in
theorem hsum_any (w : World) (g : Nat) (kind : Int) (hk : Sh.known kind = true) (D : List UInt8) (hD : Hst w g kind (Sh.bits kind) D) (hT : Tb w) (hl : D.length ≤ 562949953421312) :
    Calls Tryz.prog 106 #[.pointer (some ⟨g, 0, none⟩)] w (RetSE (Sh.shL kind D) 0 w) := by
  have NN := Lib.hid (none_no g kind hk w hD.kind)
  obtain ⟨cs, hcl, hAc, hc1, hcp⟩ := hD.whole
  have HA := Lib.hid hAc
  have HC1 := Lib.hid hc1
  have HCP := Lib.hid hcp
  have HSI : Hid ((Tryz.prog.info? 168).map (·.size) = some cs.length) := by show _ = _; rw [hcl]; exact hash_size
  have HLE : Hid ((Value.agg Tryz.zeroCells168).cells.toList.length = cs.length) := by show _ = _; rw [hash_zlen, hcl]
  have HK := Lib.hid hk
  have HTB := Lib.hid hT
  have HL := Lib.hid hl
  clear hk hD hcl hAc hc1 hcp hT hl
  go_enter Tryz.func106, Tryz.ntmps106
  go_wp2_with fail
  refine NN.out.mono ?_
  rintro e w1 ⟨rfl, rfl⟩
  go_wp2_with (first
    | (refine wpList_load_at 168 (.tmp 8) g 0 cs _ HA.out Tryz.underlying168 rfl HSI.out ⟨rfl, rfl, rfl⟩ ?_)
    | (refine wpList_alloc_at 168 (.agg Tryz.zeroCells168) 138 hash_zinfo ⟨rfl, rfl⟩ ?_; intro w2 hA2 hb2 hs2)
    | (refine wpList_store_at 168 (.tmp 4) (.tmp 9) w.heap.size 0 (Value.agg Tryz.zeroCells168).cells.toList cs hA2 HLE.out HSI.out HC1.out ⟨rfl, rfl, rfl, rfl⟩ ?_))
  have hS := At.ofSets hA2 HLE.out
  have H2 := Lib.hid (HCP.out _ _ hS)
  have hB := below_sets w.heap.size w.heap.size (Nat.le_refl _) cs 0 _ _ hb2
  have HB2 := Lib.hid hB
  have HT2 := Lib.hid (HTB.out.below hB HTB.out.2.2)
  clear hS hB hA2 hb2 hs2
  refine (digest_any _ w.heap.size kind HK.out D H2.out HT2.out HTB.out.2.2 HL.out).mono ?_
  rintro e w3 ⟨y, rfl, hy, hc⟩
  have HY := Lib.hid hy
  have HC := Lib.hid hc
  clear hy hc
  go_wp2_with fail
  go_ret2
  exact ret_se HY.out rfl rfl (HB2.out.trans (HC.out.toBelow (Nat.le_refl _) HB2.out.size))
/-- a digest at once -/
def shaS (kind : Int) (s : List UInt8) : List UInt8 := if Sh.known kind then Sh.shL kind s else []
set_option maxRecDepth 100000 in
set_option maxHeartbeats 1600000 in
theorem shasum_any (kind : Int) (s : ByteArray) (w : World) (hT : Tb w) (hs : s.size ≤ 281474976710656) :
    Calls Tryz.prog 85 #[.int .i64 kind, .string s] w (RetSE (shaS kind s.toList) (Sh.shE kind) w) := by
  cases hk : Sh.known kind
  · have NW := Lib.hid (new_no kind hk w)
    have HK := Lib.hid hk
    clear hk hT hs
    go_enter Tryz.func85, Tryz.ntmps85
    go_wp2_with fail
    refine NW.out.mono ?_
    rintro e w1 ⟨rfl, rfl⟩
    go_wp2_with fail
    go_ret2
    exact ret_se (tl_mk []) (by rw [shaS, HK.out]; rfl) (by rw [Sh.shE, HK.out]; rfl) (Below.refl _ _)
  · have NW := Lib.hid (new_yes kind hk w hT)
    have HK := Lib.hid hk
    have HTB := Lib.hid hT
    clear hk hT
    go_enter Tryz.func85, Tryz.ntmps85
    go_wp2_with fail
    refine NW.out.mono ?_
    rintro e w1 ⟨rfl, h1, hb1⟩
    have H1 := Lib.hid h1
    have HB1 := Lib.hid hb1
    have HT1 := Lib.hid (HTB.out.below hb1 HTB.out.2.2)
    clear h1 hb1
    go_wp2_with fail
    refine (take_any w1 w.heap.size kind HK.out [] s H1.out HT1.out HTB.out.2.2 (by show 0 + s.size ≤ _; omega)).mono ?_
    rintro e w2 ⟨rfl, h2, hc2⟩
    rw [List.nil_append] at h2
    have H2 := Lib.hid h2
    have HB2 := Lib.hid (HB1.out.trans (hc2.toBelow (Nat.le_refl _) HB1.out.size))
    have HT2 := Lib.hid (HTB.out.below HB2.out HTB.out.2.2)
    clear h2 hc2
    go_wp2_with fail
    refine (digest_any w2 w.heap.size kind HK.out s.toList H2.out HT2.out HTB.out.2.2 (by rw [tl_size]; omega)).mono ?_
    rintro e w3 ⟨y, rfl, hy, hc3⟩
    have HY := Lib.hid hy
    have HC := Lib.hid hc3
    clear hy hc3
    go_wp2_with fail
    go_ret2
    exact ret_se HY.out (by rw [shaS, HK.out]; rfl) (by rw [Sh.shE, HK.out]; rfl) (HB2.out.trans (HC.out.toBelow (Nat.le_refl _) HB2.out.size))
end Go.Proofs.YtjlmmlnldjandaaGreatDoor
