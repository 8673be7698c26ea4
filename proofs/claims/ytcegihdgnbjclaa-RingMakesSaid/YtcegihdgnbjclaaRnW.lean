/- Keys by their names: what else a ring is asked. -/
import Derived.Test.YtcegihdgnbjclaaRnV
namespace Go.Proofs.Ytcegihdgnbjclaa
open Go.RowKit Go.Maps Go.Sort
open Go.Proofs (encStr)
set_option linter.unusedVariables false
set_option linter.unusedSimpArgs false
namespace Rn
section
variable (w : World) (B r b : Nat) (ps : List Nat) (v : Value) (dn : Bool) (L : List En) (C : List Nat)
set_option maxRecDepth 100000 in
set_option maxHeartbeats 1600000 in
theorem has_any (hR : Rg w B r b ps v dn L C) (s : ByteArray) (hs : s.size ≤ 140737488351232) :
    Calls Try.prog 16 #[.pointer (some ⟨r, 0, none⟩), .string s] w fun e w' => e = .returned (.bool (plc s.toList L).isSome) ∧ w' = w := by
  have c0 := hR.at0.cell 0 _ rfl
  rw [Nat.zero_add] at c0
  have NN := Lib.hid (none_map w r (some b) c0)
  have lk := hR.mp.look s hs
  have hnot : ∀ (x : Bool) (w : World), (Op.unary .not (.bool x)).run Try.prog w = .ok (.bool (!x)) w := fun _ _ => rfl
  cases hpl : plc s.toList L with
  | none =>
    have hb : blk s.toList L ps = none := by rw [blk, hpl]; rfl
    rw [hb] at lk
    replace lk : (Instr.lookup 52 (.map (some b)) (.string s) false).run Try.prog w = .ok (.pointer none) w := lk
    clear hR hpl hb hs
    go_enter Try.func16, Try.ntmps16
    go_wp2_with (go_at_call 23; refine (NN.out).mono ?_; rintro e w' ⟨rfl, rfl⟩)
    go_ret
    exact ⟨rfl, rfl⟩
  | some i =>
    obtain ⟨p, hp, hb⟩ := blk_some hR hpl
    rw [hb] at lk
    replace lk : (Instr.lookup 52 (.map (some b)) (.string s) false).run Try.prog w = .ok (.pointer (some ⟨p, 0, none⟩)) w := lk
    clear hR hpl hb hs hp
    go_enter Try.func16, Try.ntmps16
    go_wp2_with (go_at_call 23; refine (NN.out).mono ?_; rintro e w' ⟨rfl, rfl⟩)
    go_ret
    exact ⟨rfl, rfl⟩
set_option maxRecDepth 100000 in
theorem has_empty (m : Value) (s : ByteArray) (h : m = .pointer none ∨ ∃ r, m = .pointer (some ⟨r, 0, none⟩) ∧ w.cell? ⟨r, 0, none⟩ = some (.map none)) : Calls Try.prog 16 #[m, .string s] w fun e w' => e = .returned (.bool false) ∧ w' = w := by
  have hnot : ∀ (x : Bool) (w : World), (Op.unary .not (.bool x)).run Try.prog w = .ok (.bool (!x)) w := fun _ _ => rfl
  rcases h with rfl | ⟨r, rfl, h⟩
  · go_enter Try.func16, Try.ntmps16
    go_wp2_with (go_at_call 23; refine (none_nil _).mono ?_; rintro e w' ⟨rfl, rfl⟩)
    go_ret
    exact ⟨rfl, rfl⟩
  · have NN := Lib.hid (none_map w r none h)
    clear h
    go_enter Try.func16, Try.ntmps16
    go_wp2_with (go_at_call 23; refine (NN.out).mono ?_; rintro e w' ⟨rfl, rfl⟩)
    go_ret
    exact ⟨rfl, rfl⟩
def usesN (L : List En) (C : List Nat) (x : List UInt8) : Nat := match plc x L with | some i => C.getD i 0 | none => 0
set_option maxRecDepth 100000 in
set_option maxHeartbeats 1600000 in
theorem uses_any (hR : Rg w B r b ps v dn L C) (s : ByteArray) (hs : s.size ≤ 140737488351232) :
    Calls Try.prog 20 #[.pointer (some ⟨r, 0, none⟩), .string s] w fun e w' => e = .returned (.int .i64 ((usesN L C s.toList : Nat) : Int)) ∧ w' = w := by
  have hnot : ∀ (x : Bool) (w : World), (Op.unary .not (.bool x)).run Try.prog w = .ok (.bool (!x)) w := fun _ _ => rfl
  have HH := has_any w B r b ps v dn L C hR s hs
  have c0 := hR.at0.cell 0 _ rfl
  rw [Nat.zero_add] at c0
  have lk := hR.mp.look s hs
  rw [usesN]
  cases hpl : plc s.toList L with
  | none =>
    rw [hpl] at HH
    replace HH := Lib.hid HH
    clear hR hpl hs lk
    go_enter Try.func20, Try.ntmps20
    go_wp2_with (go_at_call 16; refine (HH.out).mono ?_; rintro e w' ⟨rfl, rfl⟩)
    go_ret
    exact ⟨rfl, rfl⟩
  | some i =>
    rw [hpl] at HH
    replace HH := Lib.hid HH
    obtain ⟨p, hp, hb⟩ := blk_some hR hpl
    rw [hb] at lk
    replace lk : (Instr.lookup 52 (.map (some b)) (.string s) false).run Try.prog w = .ok (.pointer (some ⟨p, 0, none⟩)) w := lk
    have p1 := (hR.pa i p hp).cell 1 _ rfl
    rw [Nat.zero_add] at p1
    obtain ⟨c, hc⟩ : ∃ c, C.getD i 0 = c := ⟨_, rfl⟩
    rw [hc] at p1
    have LL := Lib.hid (load_it ⟨p, 1, none⟩ _ w p1)
    rw [show (match some i with | some i => C.getD i 0 | none => 0) = C.getD i 0 from rfl, hc]
    clear hR hpl hb hs hp p1 hc
    go_enter Try.func20, Try.ntmps20
    go_wp2_with (first | (go_at_call 16; refine (HH.out).mono ?_; rintro e w' ⟨rfl, rfl⟩) | (go_at_call 27; refine (LL.out).mono ?_; rintro e w' ⟨rfl, rfl⟩))
    go_ret
    exact ⟨rfl, rfl⟩
set_option maxRecDepth 100000 in
theorem uses_empty (m : Value) (s : ByteArray) (h : m = .pointer none ∨ ∃ r, m = .pointer (some ⟨r, 0, none⟩) ∧ w.cell? ⟨r, 0, none⟩ = some (.map none)) : Calls Try.prog 20 #[m, .string s] w fun e w' => e = .returned (.int .i64 0) ∧ w' = w := by
  have hnot : ∀ (x : Bool) (w : World), (Op.unary .not (.bool x)).run Try.prog w = .ok (.bool (!x)) w := fun _ _ => rfl
  have HH := Lib.hid (has_empty w m s h)
  clear h
  go_enter Try.func20, Try.ntmps20
  go_wp2_with (go_at_call 16; refine (HH.out).mono ?_; rintro e w' ⟨rfl, rfl⟩)
  go_ret
  exact ⟨rfl, rfl⟩
/-- the names, a list of one's own -/
def RetNames (w : World) (B r b : Nat) (ps : List Nat) (v0 : Value) (L : List En) (C : List Nat) (e : Ending) (w' : World) : Prop :=
  ∃ v u, e = .returned u ∧ Rg w' B r b ps v true L C ∧ Kp (fun k => k = r) w w' ∧ w'.ownsRow w.heap.size 9 1 u L.length ((srt L).map encStr) ∧ (∀ k, u.ownBlock = some k → ¬ Rb r b ps v k) ∧ (v = v0 ∨ ∀ k, v.ownBlock = some k → w.heap.size ≤ k)
theorem scell_enc {w : World} {g n cap : Nat} {ss : List (List UInt8)} (hA : At w g 0 (ss.map encStr)) : ∀ j, j < (ss.map fun l => (⟨l.toArray⟩ : ByteArray)).length → w.cell? ⟨g, 0 + j, none⟩ = some (.string ((ss.map fun l => (⟨l.toArray⟩ : ByteArray)).getD j ByteArray.empty)) := fun j hj => by
  rw [List.length_map] at hj
  refine hA.cell j _ ?_
  rw [List.getD, List.getElem?_map, List.getElem?_map, List.getElem?_eq_getElem hj]
  rfl
set_option maxRecDepth 100000 in
set_option maxHeartbeats 1600000 in
theorem names_any (hR : Rg w B r b ps v dn L C) (hB : B ≤ w.heap.size) :
    Calls Try.prog 12 #[.pointer (some ⟨r, 0, none⟩)] w (RetNames w B r b ps v L C) := by
  have c0 := hR.at0.cell 0 _ rfl
  rw [Nat.zero_add] at c0
  have NN := Lib.hid (none_map w r (some b) c0)
  have OR := Lib.hid (ordered_any w B r b ps v dn L C hR hB)
  have HL := Lib.hid hR.len
  clear hR c0
  go_enter Try.func12, Try.ntmps12
  go_wp2_with (first | (go_at_call 23; refine (NN.out).mono ?_; rintro e w ⟨rfl, rfl⟩) | (go_at_call 25; refine (OR.out).mono ?_; rintro e w2 ⟨v2, rfl, hR2, hK2, hv2⟩))
  have hO := (hR2.ow rfl).1
  have hlen : ((srt L).map encStr).length = L.length := by rw [List.length_map, srt_len]
  have hfin : ∀ (u : Value) (w3 : World), w3.ownsRow w2.heap.size 9 1 u L.length ((srt L).map encStr) → Below w2.heap.size w2 w3 → RetNames w B r b ps v L C (.returned u) w3 := fun u w3 h1 h2 => by
    refine ⟨v2, u, rfl, hR2.same (fun k hk => h2.block k (hR2.lt k hk)), hK2.below h2 (Nat.le_refl _), own_mono2 h1 hK2.size, fun k hk hb => ?_, hv2⟩
    have h8 := (h1.lt k hk).1
    have h9 := hR2.lt k hb
    omega
  have HV2 := Lib.hid hv2
  clear hv2
  rcases own_form hO with ⟨a, c, rfl, hg⟩
  cases hL0 : L.length with
  | zero =>
    cases a with
    | none =>
      have CC := Lib.hid (Sslices_Clone_string_nil 0 c w2)
      rw [hL0] at hfin
      have hn : (srt L).map encStr = [] := List.length_eq_zero_iff.1 (by rw [hlen]; exact hL0)
      rw [hn] at hfin
      have HF := Lib.hid hfin
      clear hfin hR2 hK2 hO hlen hg hL0 hn
      go_wp2_with (go_at_call 24; refine (CC.out).mono ?_; rintro e w3 ⟨rfl, rfl⟩)
      go_ret
      exact HF.out _ _ (World.ownsRow_nil _ _ _ _) (Below.refl _ _)
    | some a =>
      have CC := Lib.hid (Sslices_Clone_string_zero a c w2)
      rw [hL0] at hfin
      have hn : (srt L).map encStr = [] := List.length_eq_zero_iff.1 (by rw [hlen]; exact hL0)
      rw [hn] at hfin
      have HF := Lib.hid hfin
      clear hfin hR2 hK2 hO hlen hg hL0 hn
      go_wp2_with (go_at_call 24; refine (CC.out).mono ?_; rintro e w3 ⟨u, rfl, h1, h2, h3⟩)
      go_ret
      exact HF.out _ _ h1 h3
  | succ n =>
    obtain ⟨g, rfl⟩ := hg (by omega)
    have hA := At.ofOwnN hO
    have hl2 : ((srt L).map fun l => (⟨l.toArray⟩ : ByteArray)).length = L.length := by rw [List.length_map, srt_len]
    have CC := Sslices_Clone_string g 0 L.length c ((srt L).map fun l => (⟨l.toArray⟩ : ByteArray)) w2 (by omega) (by have := HL.out; omega) (scell_enc (n := 0) (cap := 0) hA)
    rw [List.take_of_length_le (by omega), List.map_map] at CC
    have hmm : (Value.string ∘ fun l : List UInt8 => (⟨l.toArray⟩ : ByteArray)) = encStr := rfl
    rw [hmm] at CC
    replace CC := Lib.hid CC
    have HF := Lib.hid hfin
    rw [← hL0]
    clear hfin hR2 hK2 hO hlen hg hL0 hA hl2 hmm
    go_wp2_with (go_at_call 24; refine (CC.out).mono ?_; rintro e w3 ⟨u, rfl, h1, h2, h3⟩)
    go_ret
    exact HF.out _ _ h1 h3
set_option maxRecDepth 100000 in
theorem names_empty (m : Value) (h : m = .pointer none ∨ ∃ r, m = .pointer (some ⟨r, 0, none⟩) ∧ w.cell? ⟨r, 0, none⟩ = some (.map none)) : Calls Try.prog 12 #[m] w fun e w' => e = .returned (.slice none 0 0) ∧ w' = w := by
  rcases h with rfl | ⟨r, rfl, h⟩
  · go_enter Try.func12, Try.ntmps12
    go_wp2_with (go_at_call 23; refine (none_nil _).mono ?_; rintro e w' ⟨rfl, rfl⟩)
    go_ret
    exact ⟨rfl, rfl⟩
  · have NN := Lib.hid (none_map w r none h)
    clear h
    go_enter Try.func12, Try.ntmps12
    go_wp2_with (go_at_call 23; refine (NN.out).mono ?_; rintro e w' ⟨rfl, rfl⟩)
    go_ret
    exact ⟨rfl, rfl⟩
end
end Rn
end Go.Proofs.Ytcegihdgnbjclaa
