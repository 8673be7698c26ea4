/- A cipher as it is used; the walks of AesBack and AesApart. -/
import Derived.Test.YtkedoiikkjeadaaDoorAesM
import Derived.Test.YtkedoiikkjeadaaDoorAesT
namespace Go.Proofs.YtkedoiikkjeadaaDoor
open Go.RowKit
set_option linter.unusedVariables false
set_option linter.unusedSimpArgs false
/-- a cipher that may have decrypted -/
def Ciq (w : World) (g : Nat) (K : List UInt8) : Prop := Ciph w g K ∧ (Fresh w g ∨ Done w g) ∧ (K.length = 16 ∨ K.length = 24 ∨ K.length = 32)
theorem Ciq.below {B : Nat} {w w' : World} {g : Nat} {K : List UInt8} (h : Ciq w g K) (hb : Below B w w') (hg : g < B) : Ciq w' g K :=
  ⟨h.1.below hb hg, h.2.1.imp (fun x => x.below hb hg) (fun x => x.below hb hg), h.2.2⟩
theorem Ciq.lt {w : World} {g : Nat} {K : List UInt8} (h : Ciq w g K) : g < w.heap.size := h.1.lt
theorem Turn.toBelow {g lo B : Nat} {a b : World} (h : Turn g lo a b) (hg : g < a.heap.size) (hB : B ≤ g) : Below B a b := ⟨h.os, h.tape, h.output, h.size, fun k hk => h.block k (by omega) (by omega)⟩
def RetQ (K L : List UInt8) (g : Nat) (w : World) (e : Ending) (w' : World) : Prop := ∃ s : ByteArray, e = .returned (.tuple #[.string s, .int .i64 0]) ∧ s.toList = L ∧ Ciq w' g K ∧ Below w.heap.size w w'
def RetQd (K L : List UInt8) (g : Nat) (w : World) (e : Ending) (w' : World) : Prop := ∃ s : ByteArray, e = .returned (.tuple #[.string s, .int .i64 0]) ∧ s.toList = L ∧ Ciq w' g K ∧ Turn g 513 w w'
theorem enc_q (b : ByteArray) (w : World) (g : Nat) (K : List UInt8) (h : Ciq w g K) (hb : b.size = 16) : Calls Tryd.prog 53 #[.pointer (some ⟨g, 0, none⟩), .string b] w (RetQ K (encL K b.toList) g w) :=
  (encrypt_any b w g K h.1 h.2.2 hb).mono fun e w' ⟨s, he, hs, hbl⟩ => ⟨s, he, hs, h.below hbl h.lt, hbl⟩
theorem enc_sz (b : ByteArray) (w : World) (g : Nat) (K : List UInt8) (h : Ciq w g K) (hb : b.size ≠ 16) : Calls Tryd.prog 53 #[.pointer (some ⟨g, 0, none⟩), .string b] w (RetSE [] 6 w) := enc_err _ b w 6 (by decide) (start_size b w g K h.1 hb)
def RetN (K : List UInt8) (w : World) (e : Ending) (w' : World) : Prop := ∃ g, w.heap.size ≤ g ∧ e = .returned (.tuple #[.pointer (some ⟨g, 0, none⟩), .int .i64 0]) ∧ Ciq w' g K ∧ Below w.heap.size w w'
theorem new_q (key : ByteArray) (w : World) (h : key.size = 16 ∨ key.size = 24 ∨ key.size = 32) : Calls Tryd.prog 52 #[.string key] w (RetN key.toList w) :=
  (new_any key w h).mono fun e w' ⟨g, hg, he, hc, hf, hb⟩ => ⟨g, hg, he, ⟨hc, .inl hf, by rw [tl_size]; exact h⟩, hb⟩
set_option maxRecDepth 100000 in
theorem right_yes (key : ByteArray) (w : World) (h : key.size = 16 ∨ key.size = 24 ∨ key.size = 32) : Calls Tryd.prog 61 #[.string key] w (fun e w' => e = .returned (.bool true) ∧ w = w') := by
  rcases h with h | h | h
  · have e1 : ((key.size : Int) == 16) = true := by rw [beq_iff_eq]; omega
    clear h
    go_enter Tryd.func61, Tryd.ntmps61
    go_wp2
    go_ret
    exact ⟨rfl, rfl⟩
  · have e1 : ((key.size : Int) == 16) = false := by rw [beq_eq_false_iff_ne]; omega
    have e2 : ((key.size : Int) == 24) = true := by rw [beq_iff_eq]; omega
    clear h
    go_enter Tryd.func61, Tryd.ntmps61
    go_wp2
    go_ret
    exact ⟨rfl, rfl⟩
  · have e1 : ((key.size : Int) == 16) = false := by rw [beq_eq_false_iff_ne]; omega
    have e2 : ((key.size : Int) == 24) = false := by rw [beq_eq_false_iff_ne]; omega
    have e3 : ((key.size : Int) == 32) = true := by rw [beq_iff_eq]; omega
    clear h
    go_enter Tryd.func61, Tryd.ntmps61
    go_wp2
    go_ret
    exact ⟨rfl, rfl⟩
set_option maxRecDepth 100000 in
theorem right_no (key : ByteArray) (w : World) (h1 : key.size ≠ 16) (h2 : key.size ≠ 24) (h3 : key.size ≠ 32) : Calls Tryd.prog 61 #[.string key] w (fun e w' => e = .returned (.bool false) ∧ w = w') := by
  have e1 : ((key.size : Int) == 16) = false := by rw [beq_eq_false_iff_ne]; omega
  have e2 : ((key.size : Int) == 24) = false := by rw [beq_eq_false_iff_ne]; omega
  have e3 : ((key.size : Int) == 32) = false := by rw [beq_eq_false_iff_ne]; omega
  clear h1 h2 h3
  go_enter Tryd.func61, Tryd.ntmps61
  go_wp2
  go_ret
  exact ⟨rfl, rfl⟩
theorem key_cases (k : ByteArray) : (k.size = 16 ∨ k.size = 24 ∨ k.size = 32) ∨ (k.size ≠ 16 ∧ k.size ≠ 24 ∧ k.size ≠ 32) := by omega
theorem size_of_toList {s : ByteArray} {l : List UInt8} (h : s.toList = l) : s.size = l.length := by rw [← h, tl_size]
end Go.Proofs.YtkedoiikkjeadaaDoor
