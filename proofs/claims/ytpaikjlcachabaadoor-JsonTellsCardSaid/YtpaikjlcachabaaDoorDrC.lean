/- The reading's fault (a panic), want: what is wanted is there, or a fault. -/
import Derived.Test.YtpaikjlcachabaaDoorDrA
namespace Go.Proofs.YtpaikjlcachabaaDoor
open Go.RowKit
set_option linter.unusedVariables false
set_option linter.unusedSimpArgs false
/-- a panic of the reading -/
def flt (c p : Int) : List PanicEntry := [{ v := .iface 44 (.agg #[.int .i64 c, .int .i64 p]), recovered := false }]
set_option maxRecDepth 100000 in
theorem fail_any (c p : Int) (w : World) : Calls Tryd.prog 25 #[.int .i64 c, .int .i64 p] w (fun e w' => e = .panicked (flt c p) ∧ w = w') := by
  go_enter Tryd.func25, Tryd.ntmps25
  go_wp2_with fail
  exact ⟨rfl, rfl, rfl⟩
/-- a text that is read, in memory -/
def Tx (w : World) (g o : Nat) (s : ByteArray) (B p : Nat) : Prop :=
  w.cell? ⟨g, o, none⟩ = some (.string s) ∧ w.cell? ⟨g, o + 1, none⟩ = some (.int .i64 (B : Int)) ∧ w.cell? ⟨g, o + 2, none⟩ = some (.int .i64 (p : Int))
set_option maxRecDepth 100000 in
set_option maxHeartbeats 1600000 in
theorem want_ok (w : World) (g o : Nat) (s : ByteArray) (B p to : Nat) (hT : Tx w g o s B p) (h1 : to ≤ s.size) (h2 : to ≤ B) :
    Calls Tryd.prog 55 #[.pointer (some ⟨g, o, none⟩), .int .i64 (to : Int)] w (fun e w' => e = .returned (.tuple #[]) ∧ w = w') := by
  obtain ⟨hc0, hc1, hc2⟩ := hT
  have e1 : (to : Int) ≤ (s.size : Int) := by omega
  have e2 : (to : Int) ≤ (B : Int) := by omega
  clear h1 h2
  go_enter Tryd.func55, Tryd.ntmps55
  go_wp2_with fail
  first | go_end0 | refine bodyPost_ret (results_none rfl _ _ _) rfl ?_
  exact ⟨rfl, rfl⟩
end Go.Proofs.YtpaikjlcachabaaDoor
