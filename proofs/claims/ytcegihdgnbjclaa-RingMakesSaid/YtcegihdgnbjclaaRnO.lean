/- Keys by their names: the only key. -/
import Derived.Test.YtcegihdgnbjclaaRnW
namespace Go.Proofs.Ytcegihdgnbjclaa
open Go.RowKit Go.Maps Go.Sort
open Go.Proofs (encStr)
set_option linter.unusedVariables false
set_option linter.unusedSimpArgs false
namespace Rn
section
variable (w : World) (B r b : Nat) (ps : List Nat) (v : Value) (dn : Bool) (L : List En) (C : List Nat)
def onlyE (L : List En) : En := match L with | [e] => e | _ => ⟨[], []⟩
def onlyC (L : List En) : Int := match L with | [_] => 0 | _ => 12
def onlyN (L : List En) (C : List Nat) : List Nat := match L with | [_] => C.set 0 (C.getD 0 0 + 1) | _ => C
def RetOnly (e : Ending) (w' : World) : Prop :=
  e = .returned (.tuple #[.string ⟨(onlyE L).name.toArray⟩, .string ⟨(onlyE L).key.toArray⟩, .int .i64 (onlyC L)]) ∧ ∃ v' dn', Rg w' B r b ps v' dn' L (onlyN L C) ∧ Kp (fun k => k = r ∨ k ∈ ps) w w' ∧ (v' = v ∨ ∀ k, v'.ownBlock = some k → w.heap.size ≤ k)
theorem only_cases (L : List En) : (∃ e, L = [e]) ∨ (L.length ≠ 1 ∧ onlyE L = ⟨[], []⟩ ∧ onlyC L = 12 ∧ ∀ C, onlyN L C = C) := by
  match L with
  | [] => exact .inr ⟨by decide, rfl, rfl, fun _ => rfl⟩
  | [e] => exact .inl ⟨e, rfl⟩
  | a :: c :: l => exact .inr ⟨by simp, rfl, rfl, fun _ => rfl⟩
set_option maxRecDepth 100000 in
set_option maxHeartbeats 1600000 in
theorem only_any (hR : Rg w B r b ps v dn L C) (hB : B ≤ w.heap.size) (hC : ∀ i, C.getD i 0 ≤ 1000000) (hz : ∀ e ∈ L, e.name.length ≤ 128) :
    Calls Try.prog 18 #[.pointer (some ⟨r, 0, none⟩)] w (RetOnly w B r b ps v L C) := by
  have c0 := hR.at0.cell 0 _ rfl
  rw [Nat.zero_add] at c0
  have NN := Lib.hid (none_map w r (some b) c0)
  have hlen := hR.mp.len 3 (w := w)
  rcases only_cases L with ⟨e, rfl⟩ | ⟨h1, h2, h3, h4⟩
  · have OR := Lib.hid (ordered_any w B r b ps v dn [e] C hR hB)
    have HC := Lib.hid hC
    have hlen1 : (Builtin.len_ #[52] 3 #[.map (some b)]).run Try.prog w = .ok (.int .i64 1) w := hlen
    clear hR hlen hC
    go_enter Try.func18, Try.ntmps18
    go_wp2_with (first | (go_at_call 23; refine (NN.out).mono ?_; rintro e w ⟨rfl, rfl⟩) | (go_at_call 25; refine (OR.out).mono ?_; rintro e2 w2 ⟨v2, rfl, hR2, hK2, hv2⟩; have hO := (hR2.ow rfl).1; have hs1 : srt [e] = [e.name] := (by rw [srt, names]; simp); rw [hs1] at hO; obtain ⟨a, c, rfl, hg⟩ := own_form hO; obtain ⟨g, rfl⟩ := hg (by simp); have g0 := (At.ofOwnN hO).cell 0 _ rfl; rw [Nat.zero_add] at g0; obtain ⟨sn, hsn⟩ : ∃ s : ByteArray, (⟨e.name.toArray⟩ : ByteArray) = s := ⟨_, rfl⟩; have g0' : w2.cell? ⟨g, 0, none⟩ = some (.string sn) := (by rw [← hsn]; exact g0); have hnt : sn.toList = e.name := (by rw [← hsn, tl_mk]); obtain ⟨vv, hvv⟩ : ∃ u, (Value.slice (some ⟨g, 0, none⟩) [e].length c) = u := ⟨_, rfl⟩; have hvv2 : vv = .slice (some ⟨g, 0, none⟩) 1 c := hvv.symm; rw [hvv] at hR2 hv2; have FF := Lib.hid (find_any w2 B r b ps vv true [e] C hR2 HC.out sn (by rw [← tl_size, hnt]; exact Nat.le_trans (hz e (by simp)) (by decide))); have hH := Lib.hid (And.intro hv2 (And.intro hK2 (And.intro hsn hnt))); try rw [hvv]; clear hR2 hK2 hv2 hsn hnt g0 hO hs1 hg hvv; subst hvv2; have hix : ∀ w, (Instr.indexAt 33 (.slice (some ⟨g, 0, none⟩) 1 c) (.int .i64 0)).run Try.prog w = .ok (.pointer (some ⟨g, 0, none⟩)) w := (fun w => by kernel_rfl)) | (go_at_call 14; refine (FF.out).mono ?_; rintro e3 w3 ⟨rfl, hR3, hK3⟩))
    go_ret3
    obtain ⟨hv2, hK2, hsn, hnt⟩ := hH.out
    have hp : plc sn.toList [e] = some 0 := by rw [hnt, plc, if_pos rfl]
    refine ⟨?_, _, true, ?_, (hK2.mono (fun k hk => .inl hk)).trans (hK3.mono (fun k hk => .inr hk)), hv2⟩
    · rw [findK, findC, hp, ← hsn]; rfl
    · rw [findN, hp] at hR3
      exact hR3
  · have hne : ((L.length : Int) != 1) = true := by rw [bne_iff_ne]; omega
    obtain ⟨m, hm⟩ : ∃ m, L.length = m := ⟨_, rfl⟩
    rw [hm] at hne hlen
    have HH := Lib.hid (And.intro hR (And.intro h2 (And.intro h3 h4)))
    clear hR h1 h2 h3 h4 hm hC hB
    go_enter Try.func18, Try.ntmps18
    go_wp2_with (go_at_call 23; refine (NN.out).mono ?_; rintro e w ⟨rfl, rfl⟩)
    go_ret3
    obtain ⟨hR, h2, h3, h4⟩ := HH.out
    exact ⟨by rw [h2, h3]; rfl, v, dn, by rw [h4]; exact hR, Kp.refl _ _, .inl rfl⟩
end
end Rn
end Go.Proofs.Ytcegihdgnbjclaa
