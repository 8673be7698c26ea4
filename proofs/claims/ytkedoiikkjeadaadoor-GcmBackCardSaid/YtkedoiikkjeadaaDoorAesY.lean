/- Plain words: the tables; the document's substitution. -/
import Derived.Test.YtkedoiikkjeadaaDoorAesV
namespace Go.Proofs.YtkedoiikkjeadaaDoor
set_option linter.unusedVariables false
set_option linter.unusedSimpArgs false
def sboxC : List UInt8 := [99, 124, 119, 123, 242, 107, 111, 197, 48, 1, 103, 43, 254, 215, 171, 118, 202, 130, 201, 125, 250, 89, 71, 240, 173, 212, 162, 175, 156, 164, 114, 192, 183, 253, 147, 38, 54, 63, 247, 204, 52, 165, 229, 241, 113, 216, 49, 21, 4, 199, 35, 195, 24, 150, 5, 154, 7, 18, 128, 226, 235, 39, 178, 117, 9, 131, 44, 26, 27, 110, 90, 160, 82, 59, 214, 179, 41, 227, 47, 132, 83, 209, 0, 237, 32, 252, 177, 91, 106, 203, 190, 57, 74, 76, 88, 207, 208, 239, 170, 251, 67, 77, 51, 133, 69, 249, 2, 127, 80, 60, 159, 168, 81, 163, 64, 143, 146, 157, 56, 245, 188, 182, 218, 33, 16, 255, 243, 210, 205, 12, 19, 236, 95, 151, 68, 23, 196, 167, 126, 61, 100, 93, 25, 115, 96, 129, 79, 220, 34, 42, 144, 136, 70, 238, 184, 20, 222, 94, 11, 219, 224, 50, 58, 10, 73, 6, 36, 92, 194, 211, 172, 98, 145, 149, 228, 121, 231, 200, 55, 109, 141, 213, 78, 169, 108, 86, 244, 234, 101, 122, 174, 8, 186, 120, 37, 46, 28, 166, 180, 198, 232, 221, 116, 31, 75, 189, 139, 138, 112, 62, 181, 102, 72, 3, 246, 14, 97, 53, 87, 185, 134, 193, 29, 158, 225, 248, 152, 17, 105, 217, 142, 148, 155, 30, 135, 233, 206, 85, 40, 223, 140, 161, 137, 13, 191, 230, 66, 104, 65, 153, 45, 15, 176, 84, 187, 22]
def backC : List UInt8 := [82, 9, 106, 213, 48, 54, 165, 56, 191, 64, 163, 158, 129, 243, 215, 251, 124, 227, 57, 130, 155, 47, 255, 135, 52, 142, 67, 68, 196, 222, 233, 203, 84, 123, 148, 50, 166, 194, 35, 61, 238, 76, 149, 11, 66, 250, 195, 78, 8, 46, 161, 102, 40, 217, 36, 178, 118, 91, 162, 73, 109, 139, 209, 37, 114, 248, 246, 100, 134, 104, 152, 22, 212, 164, 92, 204, 93, 101, 182, 146, 108, 112, 72, 80, 253, 237, 185, 218, 94, 21, 70, 87, 167, 141, 157, 132, 144, 216, 171, 0, 140, 188, 211, 10, 247, 228, 88, 5, 184, 179, 69, 6, 208, 44, 30, 143, 202, 63, 15, 2, 193, 175, 189, 3, 1, 19, 138, 107, 58, 145, 17, 65, 79, 103, 220, 234, 151, 242, 207, 206, 240, 180, 230, 115, 150, 172, 116, 34, 231, 173, 53, 133, 226, 249, 55, 232, 28, 117, 223, 110, 71, 241, 26, 113, 29, 41, 197, 137, 111, 183, 98, 14, 170, 24, 190, 27, 252, 86, 62, 75, 198, 210, 121, 32, 154, 219, 192, 254, 120, 205, 90, 244, 31, 221, 168, 51, 136, 7, 199, 49, 177, 18, 16, 89, 39, 128, 236, 95, 96, 81, 127, 169, 25, 181, 74, 13, 45, 229, 122, 159, 147, 201, 156, 239, 160, 224, 59, 77, 174, 42, 245, 176, 200, 235, 187, 60, 131, 83, 153, 97, 23, 43, 4, 126, 186, 119, 214, 38, 225, 105, 20, 99, 85, 33, 12, 125]
theorem sbox_c : sboxL = sboxC := by decide +kernel
def gback (b : UInt8) : UInt8 := backC.getD b.toNat 0
theorem back_c : ∀ n : Fin 256, backC.getD (sboxC.getD n.val 0).toNat 0 = UInt8.ofNat n.val := by decide +kernel
theorem sub_c : ∀ n : Fin 256, sboxC.getD (backC.getD n.val 0).toNat 0 = UInt8.ofNat n.val := by decide +kernel
theorem gsub_c (a : UInt8) : gsub a = sboxC.getD a.toNat 0 := by rw [← sboxL_get, sbox_c]
theorem gback_gsub (a : UInt8) : gback (gsub a) = a := by
  rw [gback, gsub_c]
  have := back_c ⟨a.toNat, a.toNat_lt⟩
  rw [this, UInt8.ofNat_toNat]
theorem gsub_gback (a : UInt8) : gsub (gback a) = a := by
  rw [gsub_c, gback]
  have := sub_c ⟨a.toNat, a.toNat_lt⟩
  rw [this, UInt8.ofNat_toNat]
theorem gsub_inj {a b : UInt8} (h : gsub a = gsub b) : a = b := by rw [← gback_gsub a, h, gback_gsub]
def gpow (b : UInt8) : Nat → UInt8
  | 0 => 1
  | n + 1 => gmul (gpow b n) b
theorem gone (a : UInt8) : gmul 1 a = a := by rw [gmul_comm, gmul_one]
theorem gpow_add (b : UInt8) (m : Nat) : ∀ n, gmul (gpow b m) (gpow b n) = gpow b (m + n)
  | 0 => by rw [gpow, gmul_one]; rfl
  | n + 1 => by rw [gpow, ← gmul_assoc, gpow_add b m n]; rfl
theorem invL_pow (b : UInt8) : ∀ (n k j : Nat), invL n (gpow b k) (gpow b j) = gpow b (j + k * (2 ^ (n + 1) - 2))
  | 0, k, j => by rw [invL, show k * (2 ^ (0 + 1) - 2) = 0 by simp]; rfl
  | n + 1, k, j => by
    rw [invL, gpow_add, gpow_add, invL_pow b n]
    congr 1
    have h : (2 : Nat) ^ (n + 1 + 1) = 2 * 2 ^ (n + 1) := by rw [Nat.pow_succ, Nat.mul_comm]
    have h2 : 2 ≤ (2 : Nat) ^ (n + 1) := by
      have := Nat.pow_le_pow_right (n := 2) (by decide) (show 1 ≤ n + 1 by omega)
      simpa using this
    obtain ⟨x, hx⟩ : ∃ x, (2 : Nat) ^ (n + 1) = x + 2 := ⟨2 ^ (n + 1) - 2, by omega⟩
    rw [h, hx, Nat.add_sub_cancel, show 2 * (x + 2) - 2 = 2 * x + 2 by omega, Nat.mul_add, Nat.mul_comm 2 x, ← Nat.mul_assoc, Nat.add_mul]
    omega
theorem gpow_one (b : UInt8) : gpow b 1 = b := by rw [gpow, gpow, gone]
theorem ginv_pow (b : UInt8) : ginv b = gpow b 254 := by
  have h := invL_pow b 7 1 0
  rw [gpow_one] at h
  exact h
/-! ### the document's substitution -/
def rspL : Nat → UInt8 → UInt8 → UInt8
  | 0, _, o => o
  | n + 1, x, o => rspL n (rotl8 x 1) (o ^^^ rotl8 x 1)
def rsp (x : UInt8) : UInt8 := rspL 4 x x ^^^ 99
theorem rsp_spr (x : UInt8) : rsp x = spr x := by
  revert x
  exact u8_all (by decide +kernel)
end Go.Proofs.YtkedoiikkjeadaaDoor
