/- package token: a word in memory. -/
import Derived.Test.YtpaikjlcachabaaDoorJtJ
namespace Go.Proofs.YtpaikjlcachabaaDoor
open Go.RowKit
set_option linter.unusedVariables false
set_option linter.unusedSimpArgs false
namespace Js
open Dr (Rs Lm has lack)
def str (l : List UInt8) : ByteArray := ⟨l.toArray⟩
set_option maxRecDepth 100000 in
set_option maxHeartbeats 1600000 in
theorem newWord_any (x : UInt8) (r : List UInt8) (hr : r.length ≤ 10) (w : World) :
    Calls Tryd.prog 76 #[.string (str (x :: r))] w (fun e w' => e = .returned (.pointer (some ⟨w.heap.size, 0, none⟩)) ∧ w' = w.alloc (Obj.cells #[.string (str r)] 135)) := by
  have h1 : (str (x :: r)).size = r.length + 1 := rfl
  have h2 : (str (x :: r)).extract 1 (r.length + 1) = str r := by
    refine ByteArray.ext ?_
    rw [ByteArray.data_extract]
    show (List.toArray (x :: r)).extract 1 (r.length + 1) = r.toArray
    simp
  generalize str (x :: r) = s at h1 h2 ⊢
  generalize r.length = n at *
  have e1 : (1 : Int) ≤ (s.size : Int) := by omega
  have e2 : ¬ (s.size : Int) < 1 := by omega
  go_enter Tryd.func76, Tryd.ntmps76
  go_wp2_with fail
  go_ret
  exact ⟨rfl, rfl⟩
theorem str_get (x : UInt8) (r : List UInt8) (h : 0 < (str (x :: r)).size) : (str (x :: r))[0] = x := rfl
/-- what a word comes to by one more byte: Bad 3, Done 1, More 0 -/
def WordRet (h : Nat) (x : UInt8) (r : List UInt8) (b : UInt8) (w : World) (e : Ending) (w' : World) : Prop :=
  (b ≠ x ∧ e = .returned (.int .i64 3) ∧ w = w') ∨ (b = x ∧ e = .returned (.int .i64 (if r = [] then 1 else 0)) ∧ Hid (At w' h 0 [.string (str r)]) ∧ Hid (Tk h w w'))
set_option maxRecDepth 100000 in
set_option maxHeartbeats 1600000 in
theorem wordTake_any (h : Nat) (x : UInt8) (r : List UInt8) (b : UInt8) (hr : r.length ≤ 10) (w : World) (m : At w h 0 [.string (str (x :: r))]) :
    Calls Tryd.prog 77 #[.pointer (some ⟨h, 0, none⟩), .int .u8 (b.toNat : Int)] w (WordRet h x r b w) := by
  have HM := Lib.hid m
  have c0 := m.cell 0 _ rfl
  have f0 := m.froz 0 (by show 0 < 1; decide)
  have h1 : (str (x :: r)).size = r.length + 1 := rfl
  have h2 : (str (x :: r)).extract 1 (str (x :: r)).size = str r := by
    rw [h1]
    refine ByteArray.ext ?_
    rw [ByteArray.data_extract]
    show (List.toArray (x :: r)).extract 1 (r.length + 1) = r.toArray
    simp
  have h3 : ∀ hh : 0 < (str (x :: r)).size, (str (x :: r))[0] = x := fun _ => rfl
  obtain ⟨n, hn⟩ : ∃ n, b.toNat = n := ⟨_, rfl⟩
  obtain ⟨k, hk⟩ : ∃ n, x.toNat = n := ⟨_, rfl⟩
  have hbx : b = x ↔ n = k := by rw [← hn, ← hk]; exact UInt8.toNat_inj.symm
  have HBX := Lib.hid hbx
  rw [hn]
  clear m hn hbx
  obtain ⟨z, hz⟩ : ∃ z, r.length = z := ⟨_, rfl⟩
  have hrz : r = [] ↔ z = 0 := by rw [← hz]; exact List.length_eq_zero_iff.symm
  have HRZ := Lib.hid hrz
  rw [h1, hz] at h2
  rw [hz] at h1 hr
  have H2 := Lib.hid h2
  obtain ⟨s, hs⟩ : ∃ s, str (x :: r) = s := ⟨_, rfl⟩
  have hx0 : ∀ hh : 0 < s.size, (s[0].toNat : Int) = (k : Int) := by subst hs; intro hh; rw [h3 hh, hk]
  rw [hs] at h1 h2 c0 HM H2
  have HS1 := Lib.hid h1
  obtain ⟨u, hu⟩ : ∃ u, str r = u := ⟨_, rfl⟩
  rw [hu] at h2
  have HU := Lib.hid hu
  have hus : u.size = z := by rw [← hu, ← hz]; rfl
  have hue : u.toList.isEmpty = r.isEmpty := by rw [← hu, show (str r).toList = r from tl_mk r]
  have e1 : (0 : Int) < (s.size : Int) := by omega
  have e2 : (1 : Int) ≤ (s.size : Int) := by omega
  obtain ⟨e0, -⟩ : 0 < s.size ∧ True := ⟨by omega, trivial⟩
  have q1 := hx0 e0
  clear hk hs h3 hrz hx0 hu hz
  by_cases hnk : n = k
  · subst hnk
    have HBT : Hid (b = x) := HBX.out.2 rfl
    clear HRZ HBX
    cases hre : r with
    | nil =>
      rw [hre] at hue HU
      have e6 : u.toList.isEmpty = true := hue
      clear hue hre H2
      go_enter Tryd.func77, Tryd.ntmps77
      go_wp2_with fail
      go_ret
      have hu := HU.out
      subst hu
      exact .inr ⟨HBT.out, rfl, HM.out.set 0 _, (Tk.refl h w).setCell (p := ⟨h, 0, none⟩) (Nat.le_refl h) _⟩
    | cons y r2 =>
      rw [hre] at hue HU
      have e6 : u.toList.isEmpty = false := hue
      clear hue hre H2
      go_enter Tryd.func77, Tryd.ntmps77
      go_wp2_with fail
      go_ret
      have hu := HU.out
      subst hu
      exact .inr ⟨HBT.out, rfl, HM.out.set 0 _, (Tk.refl h w).setCell (p := ⟨h, 0, none⟩) (Nat.le_refl h) _⟩
  · have e5 := eqF (n := n) (c := (k : Int)) (by omega)
    have HN := Lib.hid hnk
    clear hnk HRZ
    go_enter Tryd.func77, Tryd.ntmps77
    go_wp2_with fail
    go_ret
    exact .inl ⟨fun e => HN.out (HBX.out.1 e), rfl, rfl⟩
end Js
end Go.Proofs.YtpaikjlcachabaaDoor
