import Derived.Test.YtikgonlhdkknkaaGreatDoorCuC
import Derived.Test.YtikgonlhdkknkaaGreatDoorCuS
import Derived.Test.YtikgonlhdkknkaaGreatDoorCuV
import Derived.Test.YtikgonlhdkknkaaGreatDoorCqH
import Derived.Test.YtikgonlhdkknkaaGreatDoorCuW
set_option maxRecDepth 100000
set_option linter.unusedVariables false
set_option linter.unusedSimpArgs false
namespace Go.Proofs.YtikgonlhdkknkaaGreatDoor
open Go.RowKit
namespace Ce
open Co (Am Ra up rcells rv UT DecR enc Its holds tell okA hdN infN widN bytesN infN_lt)
theorem widN_le (n : Nat) : widN n ≤ 8 := by
 rw [widN]
 repeat' split
 all_goals omega
theorem bs_size (l : List UInt8) : (bs l).size = l.length := rfl
theorem ss_app (a b : List UInt8) : bs a ++ bs b = bs (a ++ b) := by
 refine ByteArray.ext ?_
 rw [ByteArray.data_append]
 simp [bs]
theorem rbytes_any (s : List UInt8) (hs : s.length ≤ 140737488351232) (w : World) :
  Calls Tryz.prog 26 #[.string (bs s)] w (fun e w' => e = .returned (.string (bs (byt s))) ∧ Below w.heap.size w w') := by
 have HH := Lib.hid (Co.rhead_any 2 s.length (by decide) (by omega) w)
 have e1 : IntKind.u64.wrap (s.length : Int) = (s.length : Int) := by rw [IntKind.wrap_u64]; omega
 have hsz : (bs s).size = s.length := rfl
 have hw := widN_le s.length
 have HSL : Hid (s.length ≤ 140737488351232 ∧ (hdN 2 s.length).length ≤ 9) := ⟨hs, by rw [Co.hdN_length]; omega⟩
 clear hs hw
 go_enter Tryz.func26, Tryz.ntmps26
 go_wp2_with fail
 refine HH.out.mono ?_
 rintro e w1 ⟨h, rfl, hh, hb1⟩
 obtain rfl : h = bs (hdN 2 s.length) := tl_inj (hh.trans (bs_list _).symm)
 have HB1 := Lib.hid hb1
 have hov : ¬ 9223372036854775807 < (bs (hdN 2 s.length)).size + (bs s).size := by
  have h1 := HSL.out
  rw [bs_size, bs_size]
  omega
 clear hb1 hh
 go_wp2_with fail
 go_ret
 exact ⟨by rw [byt, ← ss_app]; rfl, HB1.out⟩
end Ce
end Go.Proofs.YtikgonlhdkknkaaGreatDoor
namespace Go.Proofs.YtikgonlhdkknkaaGreatDoor
open Go.RowKit
namespace Ce
open Co (Am Ra up rcells rv UT DecR enc Its holds tell okA hdN infN widN bytesN)
theorem byt_len (s : List UInt8) : (byt s).length ≤ s.length + 9 := by
 rw [byt, lap, Co.hdN_length]
 have := widN_le s.length
 omega
end Ce
end Go.Proofs.YtikgonlhdkknkaaGreatDoor
