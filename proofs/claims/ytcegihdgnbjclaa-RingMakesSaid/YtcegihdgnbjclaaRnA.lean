/- Keys by their names: any list of keys makes a ring with these names, or is refused. -/
import Derived.Test.YtcegihdgnbjclaaRnK
namespace Go.Proofs.Ytcegihdgnbjclaa
open Go.RowKit Go.Maps Go.Sort
open Go.Proofs (encStr)
set_option linter.unusedVariables false
set_option linter.unusedSimpArgs false
namespace Rn
theorem own_keep {w w' : World} {B e z n : Nat} {v : Value} {xs : List Value} (h : w.ownsRow B e z v n xs) (hb : Below w.heap.size w w') : w'.ownsRow B e z v n xs := own_same h (fun k hk => hb.block k (h.lt k hk).2)
/-- both rings in memory -/
structure Two (w0 w : World) (r b : Nat) (ps : List Nat) (v : Value) (dn : Bool) (x : Nat) (vL vT : Value) (l : List En) (C : List Nat) : Prop where
  rg : Rg w w0.heap.size r b ps v dn l C
  rf : Rf w w0.heap.size x vL vT l C
  bw : Below w0.heap.size w0 w
  ap : ∀ k, Rb r b ps v k → ¬ Fb x vL vT k
theorem Two.below {w0 w w' : World} {r b : Nat} {ps : List Nat} {v : Value} {dn : Bool} {x : Nat} {vL vT : Value} {l : List En} {C : List Nat} (h : Two w0 w r b ps v dn x vL vT l C) (hb : Below w.heap.size w w') : Two w0 w' r b ps v dn x vL vT l C :=
  ⟨h.rg.same (fun k hk => hb.block k (h.rg.lt k hk)), h.rf.same (fun k hk => hb.block k (h.rf.lt k hk).2), h.bw.trans (hb.mono h.bw.size), h.ap⟩
theorem Rg.mono {w : World} {B B' r b : Nat} {ps : List Nat} {v : Value} {dn : Bool} {L : List En} {C : List Nat} (h : Rg w B r b ps v dn L C) (hB : B' ≤ B) : Rg w B' r b ps v dn L C :=
  { h with ge := ⟨Nat.le_trans hB h.ge.1, Nat.le_trans hB h.ge.2.1, fun p hp => Nat.le_trans hB (h.ge.2.2 p hp)⟩, ow := fun hd => ⟨own_mono2 (h.ow hd).1 hB, (h.ow hd).2⟩ }
theorem Rf.mono {w : World} {B B' x : Nat} {vL vT : Value} {L : List En} {C : List Nat} (h : Rf w B x vL vT L C) (hB : B' ≤ B) : Rf w B' x vL vT L C :=
  ⟨h.at0, own_mono2 h.oL hB, own_mono2 h.oT hB, h.cl, Nat.le_trans hB h.ge, h.nx⟩
/-- the program's ring was asked -/
theorem Two.rgs {w0 w w' : World} {r b : Nat} {ps : List Nat} {v v' : Value} {dn dn' : Bool} {x : Nat} {vL vT : Value} {l : List En} {C C' : List Nat} {S : Nat → Prop} (h : Two w0 w r b ps v dn x vL vT l C) (hR : Rg w' w0.heap.size r b ps v' dn' l C') (hk : Kp S w w') (hS : ∀ k, S k → k = r ∨ k ∈ ps) (hv : v' = v ∨ ∀ k, v'.ownBlock = some k → w.heap.size ≤ k) :
    Rf w' w0.heap.size x vL vT l C ∧ Below w0.heap.size w0 w' ∧ ∀ k, Rb r b ps v' k → ¬ Fb x vL vT k := by
  have hSb : ∀ k, S k → Rb r b ps v k := fun k hs => by
    rcases hS k hs with h1 | h1
    · exact .inl h1
    · exact .inr (.inr (.inl h1))
  refine ⟨h.rf.same (fun k hf => hk.keep k (h.rf.lt k hf).2 (fun hs => h.ap k (hSb k hs) hf)), h.bw.trans (hk.to (fun k hs => h.rg.base k (hSb k hs)) h.bw.size), fun k hb hf => ?_⟩
  rcases hb with rfl | rfl | hb | hb
  · exact h.ap _ (.inl rfl) hf
  · exact h.ap _ (.inr (.inl rfl)) hf
  · exact h.ap _ (.inr (.inr (.inl hb))) hf
  · rcases hv with rfl | hv
    · exact h.ap _ (.inr (.inr (.inr hb))) hf
    · have h1 := hv k hb.symm
      have h2 := (h.rf.lt k hf).2
      omega
/-- the document's ring was asked -/
theorem Two.rfs {w0 w w' : World} {r b : Nat} {ps : List Nat} {v : Value} {dn : Bool} {x : Nat} {vL vT : Value} {l : List En} {C C' : List Nat} {S : Nat → Prop} (h : Two w0 w r b ps v dn x vL vT l C) (hR : Rf w' w0.heap.size x vL vT l C') (hk : Kp S w w') (hS : ∀ k, S k → some k = vT.ownBlock) :
    Rg w' w0.heap.size r b ps v dn l C ∧ Below w0.heap.size w0 w' := by
  have hSf : ∀ k, S k → Fb x vL vT k := fun k hs => .inr (.inr (hS k hs))
  exact ⟨h.rg.same (fun k hb => hk.keep k (h.rg.lt k hb) (fun hs => h.ap k hb (hSf k hs))), h.bw.trans (hk.to (fun k hs => (h.rf.lt k (hSf k hs)).1) h.bw.size)⟩
/-- both were made -/
theorem Two.made {w0 w1 w2 w3 : World} {r b : Nat} {ps : List Nat} {v : Value} {dn : Bool} {x : Nat} {vL vT : Value} {l : List En} {C : List Nat} (h1 : Below w0.heap.size w0 w1) (hR : Rg w2 w1.heap.size r b ps v dn l C) (h2 : Below w1.heap.size w1 w2) (hF : Rf w3 w2.heap.size x vL vT l C) (h3 : Below w2.heap.size w2 w3) : Two w0 w3 r b ps v dn x vL vT l C :=
  ⟨(hR.mono h1.size).same (fun k hk => h3.block k (hR.lt k hk)), hF.mono (Nat.le_trans h1.size h2.size), (h1.trans (h2.mono h1.size)).trans (h3.mono (Nat.le_trans h1.size h2.size)), fun k hb hf => by
    have h8 := hR.lt k hb
    have h9 := (hF.lt k hf).1
    omega⟩
set_option maxRecDepth 100000 in
set_option maxHeartbeats 1600000 in
theorem ringMakes_walk (l : List En) (v : Value) (w : World) (hl : El w v l) (hn : l.length ≤ 4398046510976) : Calls Try.prog 3 #[v] w (fun e w' => e = .returned (.bool true) ∧ Below w.heap.size w w') := by
  have HL := Lib.hid (And.intro hl hn)
  have hnot : ∀ (x : Bool) (w : World), (Op.unary .not (.bool x)).run Try.prog w = .ok (.bool (!x)) w := fun _ _ => rfl
  clear hl hn
  by_cases h0 : newE l = 0
  · have H0 := Lib.hid h0
    have T1 : Hid (1 = 1) := rfl
    clear h0
    go_enter Try.func3, Try.ntmps3
    go_wp2_with (first
      | (go_at_call 8; refine (copied_any l v _ HL.out.1 HL.out.2).mono ?_; rintro e w1 ⟨v1, rfl, h1, b1⟩; have H1 := Lib.hid (And.intro h1 b1); clear h1 b1)
      | (go_at_call 7; refine (new_any l v1 w1 (El.own H1.out.1)).mono ?_; rintro e w2 (⟨-, r, b, ps, rfl, hR2, b2⟩ | ⟨hbad, -, -⟩); rotate_left; exact absurd H0.out hbad; have H2 := Lib.hid (And.intro hR2 b2); clear hR2 b2)
      | (go_at_call 9; refine (rnew_any l v w2 ((HL.out.1.below H1.out.2).below (H2.out.2.mono (Nat.le_refl _)))).mono ?_; rintro e w3 (⟨-, x, vL, vT, rfl, hR3, b3⟩ | ⟨hbad, -, -⟩); rotate_left; exact absurd H0.out hbad; have H3 := Lib.hid (Two.made H1.out.2 H2.out.1 H2.out.2 hR3 b3); clear hR3 b3)
      | (go_at_call 10; refine (wakes_any w3).mono ?_; rintro e w4 ⟨rfl, b4⟩; have H4 := Lib.hid (H3.out.below b4); clear b4)
      | (go_at_call 12; refine (names_any w4 _ r b ps _ _ l _ H4.out.rg H4.out.bw.size).mono ?_; rintro e w5 ⟨v5, u5, rfl, hR5, hK5, hO5, -, hv5⟩; have H5 := Lib.hid (H4.out.rgs hR5 hK5 (fun k hk => .inl hk) hv5); have HO5 := Lib.hid hO5; clear hR5 hK5 hO5 hv5)
      | (go_at_call 13; refine (rnames_any w5 _ x vL vT l _ H5.out.1 H2.out.1.len).mono ?_; rintro e w6 ⟨v6, rfl, hO6, b6⟩; have H6 := Lib.hid (And.intro hO6 (And.intro (own_keep HO5.out b6) (H5.out.2.1.trans (b6.mono H5.out.2.1.size)))); clear hO6 b6)
      | (go_at_call 11; refine (same_any w6 (srt l) (srt l) _ _ (Sl.of (by rw [srt_len]; exact H6.out.2.1)) (Sl.of (by rw [srt_len]; exact H6.out.1)) (by rw [srt_len]; exact Nat.le_trans H2.out.1.len (by decide))).mono ?_; rintro e w7 ⟨rfl, b7⟩; rw [show decide (srt l = srt l) = true by simp]; have H7 : Hid (Below w.heap.size w w7) := H6.out.2.2.trans (b7.mono H6.out.2.2.size); clear b7))
    go_ret
    exact ⟨rfl, H7.out⟩
  · have H0 := Lib.hid h0
    obtain ⟨c, hc⟩ : ∃ c, newE l = c := ⟨_, rfl⟩
    have hc1 : ((c : Int) != 0) = true := by rw [bne_iff_ne]; omega
    have hc2 : ((c : Int) == 0) = false := by rw [beq_eq_false_iff_ne]; omega
    have HC := Lib.hid hc
    clear h0 hc
    go_enter Try.func3, Try.ntmps3
    go_wp2_with (first
      | (go_at_call 8; refine (copied_any l v _ HL.out.1 HL.out.2).mono ?_; rintro e w1 ⟨v1, rfl, h1, b1⟩; have H1 := Lib.hid (And.intro h1 b1); clear h1 b1)
      | (go_at_call 7; refine (new_any l v1 w1 (El.own H1.out.1)).mono ?_; rintro e w2 (⟨hbad, -⟩ | ⟨-, rfl, b2⟩); exact absurd hbad H0.out; rw [HC.out]; have H2 := Lib.hid (H1.out.2.trans (b2.mono H1.out.2.size)); clear b2)
      | (go_at_call 9; refine (rnew_any l v w2 (HL.out.1.below H2.out)).mono ?_; rintro e w3 (⟨hbad, -⟩ | ⟨-, rfl, b3⟩); exact absurd hbad H0.out; rw [HC.out]; have H3 := Lib.hid (H2.out.trans (b3.mono H2.out.size)); clear b3)
      | (go_at_call 10; refine (wakes_any w3).mono ?_; rintro e w4 ⟨rfl, b4⟩; have H4 : Hid (Below w.heap.size w w4) := H3.out.trans (b4.mono H3.out.size); clear b4))
    go_ret
    exact ⟨rfl, H4.out⟩
end Rn
end Go.Proofs.Ytcegihdgnbjclaa
