/- The contracts of sync.Once where turnBack is the one that is done once. -/
import Derived.Test.YtigegblpledogaaAesTb
import Derived.Defers
import Derived.Laws.Pointers
import Derived.Laws.LoneSync
import Derived.RegionTactic
import Derived.RegionCalls
namespace Go.Proofs.Ytigegblpledogaa
open Go.RowKit
set_option linter.unusedVariables false
set_option linter.unusedSimpArgs false
theorem race_disable (w : World) : (callFunc 122 #[]).run Try.prog w = .ok (.value (.tuple #[])) w := run_call_mark0 Try.func122 (by kernel_rfl) (by kernel_rfl) (by kernel_rfl) .disable (by kernel_rfl) w
theorem race_enable (w : World) : (callFunc 124 #[]).run Try.prog w = .ok (.value (.tuple #[])) w := run_call_mark0 Try.func124 (by kernel_rfl) (by kernel_rfl) (by kernel_rfl) .enable (by kernel_rfl) w
theorem race_acquire (a : Addr) (w : World) : (callFunc 125 #[.pointer (some a)]).run Try.prog w = .ok (.value (.tuple #[])) w := run_call_marked Try.func125 (by kernel_rfl) (by kernel_rfl) (by kernel_rfl) .acquire (by kernel_rfl) a w
theorem race_merge (a : Addr) (w : World) : (callFunc 127 #[.pointer (some a)]).run Try.prog w = .ok (.value (.tuple #[])) w := run_call_marked Try.func127 (by kernel_rfl) (by kernel_rfl) (by kernel_rfl) .releaseMerge (by kernel_rfl) a w
set_option maxRecDepth 100000 in
theorem store_deferred (a : Addr) (x : Value) (u : FrameMode) (w : World) (hc : w.cell? a = some x) (hz : w.frozen? a = false) :
    CallsD Try.prog 116 #[.pointer (some a), .bool true] u w fun e u' w' => u' = u ∧ (e = .returned (.tuple #[]) ∧ w' = w.drew.setCell a (.int .u32 1)) := by
  have hc' : w.drew.cell? a = some x := by go_simp
  have hz' : w.drew.frozen? a = false := by go_simp
  have hst := run_call_store (P := Try.prog) Try.func120 (by kernel_rfl) (by kernel_rfl) (by kernel_rfl) (by kernel_rfl) (k := .u32) (y := 1) hc' hz'
  go_enter_d Try.func116, Try.ntmps116
  go_wp2
  go_region_calls
  all_goals (go_end0; exact ⟨rfl, rfl⟩)
set_option maxRecDepth 100000 in
theorem unlock_in (a : Addr) (w : World) (hc : w.cell? a = some (.int .i32 1)) (hz : w.frozen? a = false) :
    Calls Try.prog 119 #[.pointer (some a)] w fun e w' => e = .returned (.tuple #[]) ∧ w' = w.setCell a (.int .i32 0) := by
  have hd := race_disable
  have he := race_enable
  have hr := race_merge
  have hadd := run_call_add (P := Try.prog) Try.func128 (by kernel_rfl) (by kernel_rfl) (by kernel_rfl) .i32 (by kernel_rfl) (y := -1) (s := 0) hc hz (by simp [go_sem]; rfl)
  have hcv : ∀ s, Try.prog.underlying s = some (.pointer 107) → (convert s 136 (.pointer (some a))).run Try.prog w = .ok (.pointer (some a)) w := fun s hs => run_convert_to_unsafe (P := Try.prog) hs Try.underlying136 (by kernel_rfl) hc
  go_enter Try.func119, Try.ntmps119
  go_wp2
  go_end0
  exact ⟨rfl, rfl⟩
theorem unlock_deferred (a : Addr) (u : FrameMode) (w : World) (hc : w.cell? a = some (.int .i32 1)) (hz : w.frozen? a = false) :
    CallsD Try.prog 115 #[.pointer (some a)] u w fun e u' w' => u' = u ∧ (e = .returned (.tuple #[]) ∧ w' = w.setCell a (.int .i32 0)) := by
  go_enter_d Try.func115, Try.ntmps115
  go_wp2_with fail
  refine (unlock_in _ _ hc hz).mono ?_
  rintro e w' ⟨rfl, rfl⟩
  go_wp2_with fail
  go_end0
  exact ⟨rfl, rfl⟩
set_option maxRecDepth 100000 in
theorem lock_in (a : Addr) (w : World) (hc : w.cell? a = some (.int .i32 0)) (hz : w.frozen? a = false) :
    Calls Try.prog 118 #[.pointer (some a)] w fun e w' => e = .returned (.tuple #[]) ∧ w' = w.setCell a (.int .i32 1) := by
  have hd := race_disable
  have he := race_enable
  have ha := race_acquire
  have hcas := run_call_cas_hit (P := Try.prog) Try.func123 (by kernel_rfl) (by kernel_rfl) (by kernel_rfl) .i32 (by kernel_rfl) (y := 1) hc hz
  have hc' : (w.setCell a (.int .i32 1)).cell? a = some (.int .i32 1) := World.cell?_setCell_same w a _ hc
  have hcv : ∀ s, Try.prog.underlying s = some (.pointer 107) → (convert s 136 (.pointer (some a))).run Try.prog (w.setCell a (.int .i32 1)) = .ok (.pointer (some a)) (w.setCell a (.int .i32 1)) := fun s hs => run_convert_to_unsafe (P := Try.prog) hs Try.underlying136 (by kernel_rfl) hc'
  go_enter Try.func118, Try.ntmps118
  go_wp2
  first | go_end0 | (simp only [Exit.inBlock, Exit.then]; refine bodyPost_ret (results_none rfl _ _ _) rfl ?_) | refine bodyPost_ret (results_none rfl _ _ _) rfl ?_
  exact ⟨rfl, rfl⟩
set_option maxRecDepth 100000 in
theorem lock_free (a : Addr) (w : World) (hc : w.cell? a = some (.int .i32 0)) (hz : w.frozen? a = false) :
    Calls Try.prog 114 #[.pointer (some a)] w fun e w' => e = .returned (.tuple #[]) ∧ w' = w.setCell a (.int .i32 1) := by
  go_enter Try.func114, Try.ntmps114
  go_wp2_with fail
  refine (lock_in _ _ hc hz).mono ?_
  rintro e w' ⟨rfl, rfl⟩
  go_wp2_with fail
  go_end0
  exact ⟨rfl, rfl⟩
set_option maxRecDepth 100000 in
theorem load_done (a : Addr) (x : Nat) (w : World) (hc : w.cell? a = some (.int .u32 (x : Int))) : Calls Try.prog 106 #[.pointer (some a)] w fun e w' => e = .returned (.bool (((x : Nat) : Int) != 0)) ∧ w' = w := by
  have hl := run_call_load (P := Try.prog) Try.func113 (by kernel_rfl) (by kernel_rfl) (by kernel_rfl) .u32 (by kernel_rfl) hc
  go_enter Try.func106, Try.ntmps106
  go_wp2
  go_ret
  exact ⟨rfl, rfl⟩
set_option maxRecDepth 100000 in
/-- the way back's tables are there, once for all -/
theorem slow_any (w : World) (g : Nat) (K : List UInt8) (hC : Ciph w g K) (hF : Fresh w g) : Calls Try.prog 107 #[.pointer (some ⟨g, 513, none⟩), .func (.func 93) #[.pointer (some ⟨g, 0, none⟩)] #[]] w
    (fun e w' => e = .returned (.tuple #[]) ∧ Done w' g ∧ Turn g 513 w w') := by
  obtain ⟨hO, hB, hU⟩ := hF
  have hg := hO.lt (by simp)
  have h0 := hO.cell 0 _ rfl
  have h1 := hO.cell 1 _ rfl
  have f0 := hO.froz 0 (by simp)
  have f1 := hO.froz 1 (by simp)
  have hS := hC.sub
  have hO1 : At (w.setCell ⟨g, 514, none⟩ (.int .i32 1)) g 513 [.int .u32 0, .int .i32 1, .int .u32 0] := hO.set 1 (.int .i32 1)
  have hS1 : At (w.setCell ⟨g, 514, none⟩ (.int .i32 1)) g 1 (bcells sboxL) := hS.other _ _ _ (.inr (.inr (by rw [bcells_length, sboxL_length]; omega)))
  have hB1 : At (w.setCell ⟨g, 514, none⟩ (.int .i32 1)) g 516 (bcells (List.replicate 256 0)) := hB.other _ _ _ (.inr (.inl (by omega)))
  have hU1 : At (w.setCell ⟨g, 514, none⟩ (.int .i32 1)) g 772 (wcells (List.replicate 256 0)) := hU.other _ _ _ (.inr (.inl (by omega)))
  have hT1 : Turn g 513 w (w.setCell ⟨g, 514, none⟩ (.int .i32 1)) := (Turn.refl g 513 w).setCell 514 (by omega) _
  have hnot : ∀ (x : Bool) (w : World), (Op.unary .not (.bool x)).run Try.prog w = .ok (.bool (!x)) w := fun _ _ => rfl
  have HO1 := Lib.hid hO1
  have HS1 := Lib.hid hS1
  have HB1 := Lib.hid hB1
  have HU1 := Lib.hid hU1
  clear hO hB hU hS hO1 hS1 hB1 hU1 hC
  go_enter_defers Try.func107, Try.ntmps107
  go_wp2_with fail
  refine (lock_free _ _ h1 f1).mono ?_
  rintro e w' ⟨rfl, rfl⟩
  generalize hw1 : w.setCell ⟨g, 514, none⟩ (.int .i32 1) = w1 at HO1 HS1 HB1 HU1 hT1
  clear hw1
  have h0' := HO1.out.cell 0 _ rfl
  go_wp2_with fail
  refine (load_done _ 0 _ h0').mono ?_
  rintro e w' ⟨rfl, rfl⟩
  go_wp2_with fail
  refine (turnBack_any _ g HS1.out HB1.out HU1.out).mono ?_
  rintro e w2 ⟨rfl, hB2, hU2, hT2, hs2⟩
  have hO2 := HO1.out.turn hT2 (.inr (by simp))
  go_wp2_with fail
  refine leaves_cons (f := 116) (args := #[.pointer (some ⟨g, 513, none⟩), .bool true]) (by simp) (by simp [go_sem]) ?_
  refine (store_deferred ⟨g, 513, none⟩ (.int .u32 0) .returning _ (hO2.cell 0 _ rfl) (hO2.froz 0 (by simp))).mono ?_
  rintro e u' w3 ⟨rfl, rfl, rfl⟩
  have hO3 := hO2.drew.set 0 (.int .u32 1)
  have hB3 := hB2.drew.other g 513 (.int .u32 1) (.inr (.inl (by omega)))
  have hU3 := hU2.drew.other g 513 (.int .u32 1) (.inr (.inl (by omega)))
  have hT3 := (hT1.trans (hT2.less (by omega))).drew.setCell 513 (Nat.le_refl _) (.int .u32 1)
  rw [Nat.add_zero] at hO3
  refine leaves_cons (f := 115) (args := #[.pointer (some ⟨g, 514, none⟩)]) (by simp [settle]) (by simp [go_sem]) ?_
  refine (unlock_deferred ⟨g, 514, none⟩ _ _ (hO3.cell 1 _ rfl) (hO3.froz 1 (by simp))).mono ?_
  rintro e u' w4 ⟨rfl, rfl, rfl⟩
  have hO4 := hO3.set 1 (.int .i32 0)
  have hB4 := hB3.other g 514 (.int .i32 0) (.inr (.inl (by omega)))
  have hU4 := hU3.other g 514 (.int .i32 0) (.inr (.inl (by omega)))
  have hT4 := hT3.setCell 514 (by omega) (.int .i32 0)
  simp [Leaves, settle, results, Try.results107]
  exact ⟨⟨hO4, hB4, hU4⟩, hT4⟩
set_option maxRecDepth 100000 in
theorem do_first (w : World) (g : Nat) (K : List UInt8) (hC : Ciph w g K) (hF : Fresh w g) : Calls Try.prog 92 #[.pointer (some ⟨g, 513, none⟩), .func (.func 93) #[.pointer (some ⟨g, 0, none⟩)] #[]] w
    (fun e w' => e = .returned (.tuple #[]) ∧ Done w' g ∧ Turn g 513 w w') := by
  have h0 := hF.1.cell 0 _ rfl
  have hnot : ∀ (x : Bool) (w : World), (Op.unary .not (.bool x)).run Try.prog w = .ok (.bool (!x)) w := fun _ _ => rfl
  go_enter Try.func92, Try.ntmps92
  go_wp2_with fail
  refine (load_done _ 0 _ h0).mono ?_
  rintro e w' ⟨rfl, rfl⟩
  go_wp2_with fail
  refine (slow_any _ g K hC hF).mono ?_
  rintro e w' ⟨rfl, hD, hT⟩
  go_wp2_with fail
  go_end0
  exact ⟨rfl, hD, hT⟩
set_option maxRecDepth 100000 in
theorem do_done (w : World) (g : Nat) (fv : Value) (hD : Done w g) : Calls Try.prog 92 #[.pointer (some ⟨g, 513, none⟩), fv] w
    (fun e w' => e = .returned (.tuple #[]) ∧ Done w' g ∧ Turn g 513 w w') := by
  have h0 := hD.1.cell 0 _ rfl
  have hnot : ∀ (x : Bool) (w : World), (Op.unary .not (.bool x)).run Try.prog w = .ok (.bool (!x)) w := fun _ _ => rfl
  go_enter Try.func92, Try.ntmps92
  go_wp2_with fail
  refine (load_done _ 1 _ h0).mono ?_
  rintro e w' ⟨rfl, rfl⟩
  go_wp2_with fail
  go_end0
  exact ⟨rfl, hD, Turn.refl _ _ _⟩
end Go.Proofs.Ytigegblpledogaa
