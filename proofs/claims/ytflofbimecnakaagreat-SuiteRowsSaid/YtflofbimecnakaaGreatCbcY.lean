/- Joined by merge.py: AesBd RowS CbcK CbcL CbcQ CbcN CbcO CbcR CbcS CbcT CbcU. -/
import Derived.Test.YtflofbimecnakaaGreatAesBe
import Derived.Test.YtflofbimecnakaaGreatRowX
import Derived.Test.YtflofbimecnakaaGreatCbcX
namespace Go.Proofs.YtflofbimecnakaaGreat
open Go.RowKit
set_option linter.unusedVariables false
set_option linter.unusedSimpArgs false
def rdecN (W : List UInt32) (M : Nat) : Nat → List UInt32 → List UInt32
  | 0, s => s
  | j + 1, s => rdecN W M j (lasL gback 3 2 1 (if j + 1 < M then colL 14 11 13 9 (addL s W (4 * (j + 1))) else addL s W (4 * (j + 1))))
theorem rdecN_dec (W : List UInt32) (M : Nat) : ∀ (n : Nat) (s : List UInt32), n < M → rdecN W M n s = decN W n s
  | 0, s, h => rfl
  | n + 1, s, h => by rw [rdecN, if_pos h, rdecN_dec W M n _ (by omega), decN, umxL_col _ (addL_length _ _ _)]
theorem rdecN_all (W : List UInt32) (m : Nat) (s : List UInt32) : rdecN W (m + 1) (m + 1) s = decN W m (lasL gback 3 2 1 (addL s W (4 * (m + 1)))) := by
  rw [rdecN, if_neg (Nat.lt_irrefl _), rdecN_dec W (m + 1) m _ (by omega)]
theorem lasb_byte (f : UInt8 → UInt8) (S : List UInt32) (i r : Nat) (hr : r < 4) (hi : i < 4) : rw_ (lasF f 3 2 1 S i) r = f (rw_ (S.getD ((i + 4 - r) % 4) 0) r) := by
  match r, hr with
  | 0, _ => rw [lasF, rw_wd0, show (i + 4 - 0) % 4 = i by omega]
  | 1, _ => rw [lasF, rw_wd1]; rfl
  | 2, _ => rw [lasF, rw_wd2]; rfl
  | 3, _ => rw [lasF, rw_wd3]; rfl
theorem txt_lasb (f : UInt8 → UInt8) (S : List UInt32) (k : Nat) (hk : k < 16) : txtF (lasL f 3 2 1 S) k = f (rw_ (S.getD ((k / 4 + 4 - k % 4) % 4) 0) (k % 4)) := by
  have h4 : k / 4 < 4 := by omega
  rw [txtF, ← lasb_byte f S (k / 4) (k % 4) (by omega) h4]
  congr 1
  simp [lasL, List.getD, h4]
def pos (k : Nat) : Nat := 4 * ((k / 4 + k % 4) % 4) + k % 4
def pin (k : Nat) : Nat := 4 * ((k / 4 + 4 - k % 4) % 4) + k % 4
theorem pos_pin : ∀ i : Fin 16, ∀ k : Fin 16, (pin i.val = k.val) ↔ (i.val = pos k.val) := by decide +kernel
theorem pos_q : ∀ k : Fin 16, (pos k.val / 4 + 4 - pos k.val % 4) % 4 = k.val / 4 ∧ pos k.val % 4 = k.val % 4 := by decide +kernel
theorem pin_lt : ∀ i : Fin 16, pin i.val < 16 := by decide +kernel
/-- the first c columns mixed back -/
def myP (T : List UInt32) (c : Nat) : List UInt32 := mixP 4 (fun i => colG 14 11 13 9 (T.getD i 0)) (fun i => T.getD i 0) c
theorem myP_zero (T : List UInt32) (h : T.length = 4) : myP T 0 = T := by rw [myP, mixP_zero, map_getD _ _ _ h]
theorem myP_four (T : List UInt32) (h : T.length = 4) : myP T 4 = colL 14 11 13 9 T := by
  rw [myP, mixP_full]
  obtain ⟨a, b, c, d, rfl⟩ := four T h
  rfl
theorem myP_step (T : List UInt32) (c : Nat) (hc : c < 4) : (myP T c).set c (colG 14 11 13 9 ((myP T c).getD c 0)) = myP T (c + 1) := by
  rw [myP, mixP_at _ _ _ _ _ _ hc, if_neg (Nat.lt_irrefl c)]
  exact mixP_set 4 (fun i => colG 14 11 13 9 (T.getD i 0)) (fun i => T.getD i 0) c
theorem myP_length (T : List UInt32) (c : Nat) : (myP T c).length = 4 := by rw [myP, mixP_length]
end Go.Proofs.YtflofbimecnakaaGreat
namespace Go.Proofs.YtflofbimecnakaaGreat
open Go.RowKit
set_option linter.unusedVariables false
set_option linter.unusedSimpArgs false
theorem infoS : (Tryz.prog.info? 9).map (fun i => (i.zero, i.size, i.bytes)) = some (some (.string ByteArray.empty), 1, 16) := by kernel_rfl
def scells (l : List ByteArray) : List Value := l.map Value.string
theorem scells_length (l : List ByteArray) : (scells l).length = l.length := by simp [scells]
theorem scells_append (l m : List ByteArray) : scells (l ++ m) = scells l ++ scells m := by simp [scells]
theorem scells_get (l : List ByteArray) (j : Nat) (hj : j < l.length) : (scells l)[j]? = some (.string l[j]) := by simp [scells, hj]
theorem scells_one (l : List ByteArray) : ∀ u ∈ scells l, u.oneCell' = true := by
  intro u hu
  simp only [scells, List.mem_map] at hu
  obtain ⟨b, _, rfl⟩ := hu
  rfl
theorem scells_one1 {w : World} {g : Nat} {u : ByteArray} (h : w.cell? ⟨g, 0, none⟩ = some (.string u)) : ∀ j x, (scells [u])[j]? = some x → w.cell? ((⟨g, 0, none⟩ : Addr).add j) = some x := by
  intro j x hx
  match j, hx with
  | 0, hx => simp [scells] at hx; subst hx; exact h
section
variable {P : Program} {w : World}
theorem wpList_append_str {ops : Array Oper} {rest : List Oper} {o : Oper} {a : Act} {Q : Exit → Act → World → Prop} (hgd : o.guard = none) (s x : Operand) (t : TypeId)
    (ho : o.op = .call { callee := .builtin .append, args := #[s, x], argTypes := #[t, t] })
    (base : Nat) (e : TypeId) (i : TypeInfo) (ht : P.underlying t = some (.slice e)) (hi : P.info? e = some i) (hz : i.zero = some (.string ByteArray.empty)) (hsize : i.size = 1) (hby : i.bytes = 16)
    (v : Value) (n : Nat) (l : List ByteArray) (hs : a.eval s = v) (hown : w.ownsRow base e 1 v n (scells l))
    (g c : Nat) (u : ByteArray) (hx : a.eval x = .slice (some ⟨g, 0, none⟩) 1 c) (hcell : w.cell? ⟨g, 0, none⟩ = some (.string u))
    (hn : n ≤ 8796093022207) (hbase : base ≤ w.heap.size)
    (h : ∀ v' w', w'.ownsRow base e 1 v' (n + 1) (scells (l ++ [u])) → w.grownBy w' v.ownBlock → wpList P ops Q rest (a.put o.dst v') w') : wpList P ops Q (o :: rest) a w := by
  refine wpList_append_own w hgd s x t ho base e i (.string ByteArray.empty) 1 16 ht hi hz hsize hby rfl (by decide) v n (scells l) hs hown ⟨g, 0, none⟩ 1 c (scells [u]) hx (by rw [scells_length]; rfl) (scells_one1 hcell) (scells_one _) (by unfold maxLen; omega) (by omega) hbase ?_
  intro v' w' h1 h2 _
  rw [← scells_append] at h1
  exact h v' w' h1 h2
end
theorem own_formS {w : World} {B e size n : Nat} {v : Value} {xs : List Value} (h : w.ownsRow B e size v n xs) : ∃ a c, v = .slice a n c ∧ (0 < n → ∃ g, a = some ⟨g, 0, none⟩) := by
  rcases h.2 with ⟨rfl, rfl⟩ | ⟨g, cap, cur, rfl, _⟩
  · exact ⟨none, 0, rfl, fun h => absurd h (by omega)⟩
  · exact ⟨_, _, rfl, fun _ => ⟨g, rfl⟩⟩
theorem scell {w : World} {B e n cap g : Nat} {l : List ByteArray} (h : w.ownsRow B e 1 (.slice (some ⟨g, 0, none⟩) n cap) n (scells l)) (k : Nat) (u : ByteArray) (hu : l[k]? = some u) :
    w.cell? ⟨g, k, none⟩ = some (.string u) := by
  obtain ⟨hk, rfl⟩ := List.getElem?_eq_some_iff.1 hu
  rw [h.cellAt k (by have := h.1; rw [scells_length] at this; omega), scells_get _ _ hk]
/-- a row of texts is handed back -/
def RetL (l : List ByteArray) (w : World) (e : Ending) (w' : World) : Prop := ∃ v, e = .returned v ∧ w'.ownsRow w.heap.size 9 1 v l.length (scells l) ∧ Below w.heap.size w w'
end Go.Proofs.YtflofbimecnakaaGreat
namespace Go.Proofs.YtflofbimecnakaaGreat
open Go.RowKit
set_option linter.unusedVariables false
set_option linter.unusedSimpArgs false
def wroE (k n : Nat) : Int := if keyOk k then if n = 16 then 0 else 4 else 3
end Go.Proofs.YtflofbimecnakaaGreat
namespace Go.Proofs.YtflofbimecnakaaGreat
open Go.RowKit
set_option linter.unusedVariables false
set_option linter.unusedSimpArgs false
def blkB (s : ByteArray) (i : Nat) : ByteArray := s.extract (16 * i) (16 * i + 16)
def blksB (s : ByteArray) (n : Nat) : List ByteArray := (List.range n).map (blkB s)
theorem blksB_length (s : ByteArray) (n : Nat) : (blksB s n).length = n := by simp [blksB]
theorem blksB_succ (s : ByteArray) (n : Nat) : blksB s (n + 1) = blksB s n ++ [blkB s n] := by simp [blksB, List.range_succ]
theorem blksB_get (s : ByteArray) (n i : Nat) (h : i < n) : (blksB s n)[i]? = some (blkB s i) := by simp [blksB, h]
theorem blkB_tl (s : ByteArray) (i : Nat) : (blkB s i).toList = blkL s.toList i := by
  rw [blkB, tl_ext, blkL]
  congr 1
  omega
theorem blkB_size (s : ByteArray) (i : Nat) (h : 16 * (i + 1) ≤ s.size) : (blkB s i).size = 16 := by
  rw [← tl_size, blkB_tl, blkL_length _ _ (by rw [tl_size]; exact h)]
end Go.Proofs.YtflofbimecnakaaGreat
namespace Go.Proofs.YtflofbimecnakaaGreat
open Go.RowKit
set_option linter.unusedVariables false
set_option linter.unusedSimpArgs false
theorem xorL_comm (A B : List UInt8) : xorL A B = xorL B A := by
  unfold xorL
  rw [List.zipWith_comm]
  congr 1
  funext a b
  exact UInt8.xor_comm _ _
def filM (T : List UInt8) : List UInt8 := T ++ zer ((16 - T.length % 16) % 16)
theorem filM_mod (T : List UInt8) : (filM T).length = 16 * ((filM T).length / 16) := by
  have hl : (filM T).length = T.length + (16 - T.length % 16) % 16 := by rw [filM, List.length_append, zer_length]
  omega
theorem filM_size (T : List UInt8) : (filM T).length < T.length + 16 := by
  have hl : (filM T).length = T.length + (16 - T.length % 16) % 16 := by rw [filM, List.length_append, zer_length]
  omega
theorem filM_more (T : List UInt8) (h : T.length % 16 ≠ 0) : filM (T ++ [0]) = filM T := by
  have hl : (T ++ [(0 : UInt8)]).length = T.length + 1 := by rw [List.length_append]; rfl
  rw [filM, filM, hl, List.append_assoc]
  congr 1
  rw [show ([0] : List UInt8) = zer 1 from rfl, ← zer_add]
  congr 1
  omega
def macE (k n : Nat) : Int := if keyOk k then if n ≤ 140000 then 0 else 6 else 3
def macF (K T : List UInt8) : List UInt8 := chA K (zer 16) (filM T) ((filM T).length / 16)
def macR (K T : List UInt8) : List UInt8 := if macE K.length T.length = 0 then macF K T else []
theorem chA_last (K V T : List UInt8) (h : V.length = 16) : ∀ n, (V ++ chS K V T n).drop (16 * n) = chA K V T n
  | 0 => by simp [chS, chA]
  | n + 1 => by
    have : (V ++ chS K V T n).length = 16 * (n + 1) := by rw [List.length_append, chS_length, h]; omega
    rw [chS, ← List.append_assoc, ← this, List.drop_left]
end Go.Proofs.YtflofbimecnakaaGreat
namespace Go.Proofs.YtflofbimecnakaaGreat
open Go.RowKit
set_option linter.unusedVariables false
set_option linter.unusedSimpArgs false
theorem cbg_wro (k n : Nat) (b : Bool) : cbgE k n b = if wroE k n = 0 then (if b then 0 else 6) else wroE k n := by
  unfold cbgE wroE
  by_cases h1 : keyOk k = true
  · by_cases h2 : n = 16
    · simp [h1, h2]
    · simp [h1, h2]
  · simp [h1]
theorem wro_zero {k n : Nat} (h : wroE k n = 0) : (k = 16 ∨ k = 24 ∨ k = 32) ∧ n = 16 := by
  unfold wroE at h
  split at h
  · rename_i hk
    split at h
    · rename_i hn; exact ⟨by simpa [keyOk] using hk, hn⟩
    · cases h
  · cases h
section
variable {P : Program} {w : World}
/-- append of a text to a row of the call's own -/
theorem wpList_append_txt {ops : Array Oper} {rest : List Oper} {o : Oper} {a : Act} {Q : Exit → Act → World → Prop} (hgd : o.guard = none) (sl x : Operand) (t u : TypeId)
    (ho : o.op = .call { callee := .builtin .append, args := #[sl, x], argTypes := #[t, u] })
    (base : Nat) (e : TypeId) (i : TypeInfo) (ht : P.underlying t = some (.slice e)) (hu : P.underlying u = some .string) (hi : P.info? e = some i) (hz : i.zero = some (.int .u8 0)) (hsize : i.size = 1) (hby : i.bytes = 1)
    (v : Value) (n m : Nat) (l : List UInt8) (hs : a.eval sl = v) (hown : w.ownsRow base e 1 v n (bcells l)) (s : ByteArray) (hx : a.eval x = .string s) (hm : s.size = m) (hb : n + m ≤ 140737488355328) (hbase : base ≤ w.heap.size)
    (h : ∀ v' w', w'.ownsRow base e 1 v' (n + m) (bcells (l ++ s.toList)) → w.grownBy w' v.ownBlock → wpList P ops Q rest (a.put o.dst v') w') : wpList P ops Q (o :: rest) a w := by
  subst hm
  refine Lib.wpList_append_own_string w hgd sl x t u ho base e i ht hu hi hz hsize hby v n _ hs hown s hx (by unfold maxLen; omega) hb hbase ?_
  intro v' w' h1 h2 _
  have e1 : Lib.strCells s = bcells s.toList := by
    rw [Lib.toList_data]
    simp [Lib.strCells, bcells]
  rw [e1, ← bcells_append] at h1
  exact h v' w' h1 h2
theorem step_append_txt {ops : Array Oper} {o : Oper} {a : Act} {K : Act → World → Prop} {Q : Exit → Act → World → Prop} {E : Prop} (hgd : o.guard = none) (sl x : Operand) (t u : TypeId)
    (ho : o.op = .call { callee := .builtin .append, args := #[sl, x], argTypes := #[t, u] })
    (base : Nat) (e : TypeId) (i : TypeInfo) (ht : P.underlying t = some (.slice e)) (hu : P.underlying u = some .string) (hi : P.info? e = some i) (hz : i.zero = some (.int .u8 0)) (hsize : i.size = 1) (hby : i.bytes = 1)
    (v : Value) (n m : Nat) (l : List UInt8) (hs : a.eval sl = v) (hown : w.ownsRow base e 1 v n (bcells l)) (s : ByteArray) (hx : a.eval x = .string s) (hm : s.size = m) (hb : n + m ≤ 140737488355328) (hbase : base ≤ w.heap.size)
    (h : ∀ v' w', w'.ownsRow base e 1 v' (n + m) (bcells (l ++ s.toList)) → w.grownBy w' v.ownBlock → K (a.put o.dst v') w') :
    if Region.wanted o (yielded ops a.tmps) = true then Oper.wp P o a w K Q else E := by
  subst hm
  have hw : Region.wanted o (yielded ops a.tmps) = true := by simp [Region.wanted, hgd]
  rw [if_pos hw]
  obtain ⟨v', w', hr, h2, h3, h4⟩ := Lib.run_append_own_string (P := P) w base t u o.type e i ht hu hi hz hsize hby v n _ hown s (by unfold maxLen; omega) hb hbase
  have e1 : Lib.strCells s = bcells s.toList := by
    rw [Lib.toList_data]
    simp [Lib.strCells, bcells]
  rw [e1, ← bcells_append] at h2
  unfold Oper.wp execOp
  simp only [ho, resolve, invoke, builtin, Sem.run_bind, Sem.run_pure, Result.andThen_ok, List.map_toArray, List.map_cons, List.map_nil, hs, hx, hr]
  exact h v' w' h2 h3
end
theorem blk_pv (V T : List UInt8) (hv : V.length = 16) (i : Nat) : blkL (V ++ T) i = if i = 0 then V else blkL T (i - 1) := by
  cases i with
  | zero => rw [blkL, Nat.mul_zero, List.drop_zero, List.take_left' hv]; rfl
  | succ j =>
    rw [blkL, if_neg (by omega), Nat.add_sub_cancel, blkL, show 16 * (j + 1) = 16 + 16 * j by omega, ← List.drop_drop, List.drop_left' hv]
theorem blk_pvL (V T : List UInt8) (hv : V.length = 16) (i : Nat) : blkL (V ++ T) i = pvL V T i := by
  rw [blk_pv V T hv]
  cases i with
  | zero => rfl
  | succ j => rw [if_neg (by omega), Nat.add_sub_cancel]; rfl
end Go.Proofs.YtflofbimecnakaaGreat
namespace Go.Proofs.YtflofbimecnakaaGreat
open Go.RowKit
set_option linter.unusedVariables false
set_option linter.unusedSimpArgs false
theorem RetSE.of {l l' : List UInt8} {c c' : Int} {w w' : World} {e : Ending} (h : RetSE l c w e w') (hl : l = l') (hc : c = c') : RetSE l' c' w e w' := by
  subst hl hc
  exact h
theorem fitO_ne {n : Nat} (h : n ≠ 0) : cfitO n = cfit n := by
  rw [cfitO, cfit]
  congr 1
  apply propext
  omega
end Go.Proofs.YtflofbimecnakaaGreat
namespace Go.Proofs.YtflofbimecnakaaGreat
open Go.RowKit
set_option linter.unusedVariables false
set_option linter.unusedSimpArgs false
def lonB (n : Nat) : Bool := decide (3000 < n ∧ n ≤ 140000)
def RetBq (b : Bool) (w : World) (e : Ending) (w' : World) : Prop := e = .returned (.bool b) ∧ w = w'
end Go.Proofs.YtflofbimecnakaaGreat
namespace Go.Proofs.YtflofbimecnakaaGreat
open Go.RowKit
set_option linter.unusedVariables false
set_option linter.unusedSimpArgs false
theorem macE_key {k n : Nat} (h1 : k ≠ 16) (h2 : k ≠ 24) (h3 : k ≠ 32) : macE k n = 3 := by rw [macE, keyOk_no h1 h2 h3]; rfl
theorem macE_yes {k n : Nat} (hk : k = 16 ∨ k = 24 ∨ k = 32) : macE k n = if n ≤ 140000 then 0 else 6 := by rw [macE, if_pos (keyOk_yes hk)]
theorem nought_tl : (ByteArray.mk #[0]).toList = [0] := tl_mk _
set_option maxRecDepth 100000 in
set_option maxHeartbeats 1600000 in
theorem cMac_no (key text : ByteArray) (w : World) (c : Int) (hc : macE key.size text.size = c) (hc0 : c ≠ 0) : Calls Tryz.prog 165 #[.string key, .string text] w (RetSE [] c w) := by
  have hcb : (c != 0) = true := by rw [bne_iff_ne]; exact hc0
  obtain ⟨b, hb⟩ : ∃ b, decide (text.size ≤ 140000) = b := ⟨_, rfl⟩
  have hE : cbgE key.size 16 b = c := by
    rw [← hc, cbgE, macE, ← hb]
    by_cases h : keyOk key.size = true
    · rw [if_pos h, if_pos h, if_pos rfl]
      by_cases h2 : text.size ≤ 140000
      · rw [decide_eq_true h2, if_pos h2]; rfl
      · rw [decide_eq_false h2, if_neg h2]; rfl
    · rw [if_neg h, if_neg h]
  have hi : decide ((text.size : Int) ≤ 140000) = b := by
    rw [← hb]
    exact decide_eq_decide.2 (by omega)
  have HE := Lib.hid hE
  clear hb hE hc
  go_enter Tryz.func165, Tryz.ntmps165
  go_wp2_with fail
  refine (rep_any (ByteArray.mk #[0]) 0 16 _ nought_tl (by decide)).mono ?_
  rintro e w1 ⟨z, rfl, hz, hb1⟩
  have hzs : z.size = 16 := by rw [← tl_size, hz]; rfl
  have HZS := Lib.hid hzs
  clear hz hzs
  cases b
  · have i1 : ¬ (text.size : Int) ≤ 140000 := of_decide_eq_false hi
    clear hi
    go_wp2_with fail
    try rw [show decide ((text.size : Int) ≤ 140000) = false from decide_eq_false (by omega)]
    refine (cbegin_no key z false c _ (by rw [HZS.out]; exact HE.out) hc0).mono ?_
    rintro e w2 ⟨rfl, hb2⟩
    go_wp2_with fail
    go_ret2
    exact ret_se (tl_mk []) rfl rfl (below2 hb1 hb2)
  · have i1 : (text.size : Int) ≤ 140000 := of_decide_eq_true hi
    clear hi
    go_wp2_with fail
    try rw [show decide ((text.size : Int) ≤ 140000) = true from decide_eq_true (by omega)]
    refine (cbegin_no key z true c _ (by rw [HZS.out]; exact HE.out) hc0).mono ?_
    rintro e w2 ⟨rfl, hb2⟩
    go_wp2_with fail
    go_ret2
    exact ret_se (tl_mk []) rfl rfl (below2 hb1 hb2)
set_option maxRecDepth 100000 in
set_option maxHeartbeats 1600000 in
theorem cMac_ok (key text : ByteArray) (w : World) (hk : key.size = 16 ∨ key.size = 24 ∨ key.size = 32) (ht : text.size ≤ 140000) : Calls Tryz.prog 165 #[.string key, .string text] w (RetSE (macF key.toList text.toList) 0 w) := by
  have i1 : (text.size : Int) ≤ 140000 := by omega
  obtain ⟨r, hr⟩ : ∃ r, text.size % 16 = r := ⟨_, rfl⟩
  obtain ⟨d, hd⟩ : ∃ d, d = 16 - r := ⟨_, rfl⟩
  obtain ⟨p, hp⟩ : ∃ p, p = d % 16 := ⟨_, rfl⟩
  have hrl : r < 16 := by omega
  have e1 : (text.size : Int).tmod 16 = (r : Int) := tmod_nat text.size 16 r hr.symm
  have e2 : IntKind.i64.wrap (r : Int) = (r : Int) := wrap_in _ (by omega) (by omega)
  have e3 : 16 - (r : Int) = (d : Int) := by omega
  have e4 : IntKind.i64.wrap (d : Int) = (d : Int) := wrap_in _ (by omega) (by omega)
  have e5 : (d : Int).tmod 16 = (p : Int) := tmod_nat d 16 p hp
  have e6 : IntKind.i64.wrap (p : Int) = (p : Int) := wrap_in _ (by omega) (by omega)
  have e7 : (0 : Int) ≤ (p : Int) := by omega
  have hpl : p ≤ 15 := by omega
  have HP : Hid ((16 - text.toList.length % 16) % 16 = p) := by show _ = _; rw [tl_size]; omega
  clear hr hd hp
  go_enter Tryz.func165, Tryz.ntmps165
  go_wp2_with fail
  refine (rep_any (ByteArray.mk #[0]) 0 16 _ nought_tl (by decide)).mono ?_
  rintro e w1 ⟨z, rfl, hz, hb1⟩
  have hzs : z.size = 16 := by rw [← tl_size, hz]; rfl
  have HZ : Hid (z.toList = zer 16) := hz
  have HZS := Lib.hid hzs
  clear hz
  go_wp2_with fail
  refine (cbegin_ok key z _ hk HZS.out).mono ?_
  rintro e w2 ⟨g, hg, rfl, hQ, hb2⟩
  have hb12 := below2 hb1 hb2
  have i2 : (p : Int) ≤ (z.size : Int) := by omega
  have i3 : p ≤ z.size := by omega
  obtain ⟨x, hx⟩ : ∃ x, z.extract 0 p = x := ⟨_, rfl⟩
  have hxl : x.toList = zer p := by rw [← hx, tl_ext0, HZ.out, zer, List.take_replicate, Nat.min_eq_left (by omega)]; rfl
  have hxs : x.size = p := by rw [← tl_size, hxl, zer_length]
  have hov : ¬ 9223372036854775807 < text.size + x.size := by omega
  obtain ⟨f, hf⟩ : ∃ f, text ++ x = f := ⟨_, rfl⟩
  have hfl : f.toList = filM text.toList := by rw [← hf, tl_append, hxl, filM, HP.out]
  obtain ⟨n, hn⟩ : ∃ n, (filM text.toList).length / 16 = n := ⟨_, rfl⟩
  have hfs : f.size = 16 * n := by rw [← tl_size, hfl, ← hn]; exact filM_mod _
  have hfz : f.size ≤ 140737488351232 := by rw [← tl_size, hfl]; have := filM_size text.toList; rw [tl_size] at this; omega
  have hnb : n ≤ 8751 := by have := filM_size text.toList; rw [tl_size, ← hfl, tl_size] at this; omega
  have HF := Lib.hid hfl
  have HFS := Lib.hid hfs
  have HFZ := Lib.hid hfz
  have HN := Lib.hid hn
  have HQ := Lib.hid hQ
  clear hxl hxs hfl hn hfs hfz hQ hb1 hb2 hzs
  go_wp2_with fail
  refine (chain_any _ g n _ z f HQ.out HZS.out HFS.out HFZ.out).mono ?_
  rintro e w3 ⟨c, rfl, hc, hb3⟩
  have hcs : c.size = 16 * n := by rw [← tl_size, hc, chS_length]
  have hov2 : ¬ 9223372036854775807 < z.size + c.size := by have := HZS.out; omega
  obtain ⟨md, hmd⟩ : ∃ md, z ++ c = md := ⟨_, rfl⟩
  obtain ⟨S, hS⟩ : ∃ S, S = 16 * n + 16 := ⟨_, rfl⟩
  obtain ⟨o, ho⟩ : ∃ o, o = 16 * n := ⟨_, rfl⟩
  have hms : md.size = S := by rw [← hmd, ByteArray.size_append, HZS.out, hcs]; omega
  have hml : md.toList = zer 16 ++ chS key.toList (zer 16) (filM text.toList) n := by rw [← hmd, tl_append, hc, HZ.out, HF.out]
  have j1 : (S : Int) - 16 = (o : Int) := by omega
  have j2 : IntKind.i64.wrap (o : Int) = (o : Int) := wrap_in _ (by omega) (by omega)
  have j3 : (0 : Int) ≤ (o : Int) := by omega
  have j4 : (o : Int) ≤ (S : Int) := by omega
  have j5 : o ≤ S := by omega
  have hfin : (md.extract o S).toList = chA key.toList (zer 16) (filM text.toList) n := by rw [tl_extE _ _ _ hms.symm, hml, ho, chA_last _ _ _ (zer_length 16)]
  have HFIN := Lib.hid hfin
  have hb13 := below2 hb12 hb3
  clear hc hcs hml ho hS hfin hx hf hb12 hb3
  go_wp2_with fail
  go_ret2
  exact ret_se HFIN.out (by rw [macF, HN.out]) rfl hb13
theorem cMac_any (key text : ByteArray) (w : World) : Calls Tryz.prog 165 #[.string key, .string text] w (RetSE (macR key.toList text.toList) (macE key.size text.size) w) := by
  obtain ⟨c, hc⟩ : ∃ c, macE key.size text.size = c := ⟨_, rfl⟩
  rw [macR, tl_size, tl_size, hc]
  by_cases h0 : c = 0
  · rw [if_pos h0, h0]
    rcases key_cases key with hk | ⟨h1, h2, h3⟩
    · rw [macE_yes hk] at hc
      split at hc
      · exact cMac_ok key text w hk (by assumption)
      · omega
    · rw [macE_key h1 h2 h3] at hc; omega
  · rw [if_neg h0]
    exact cMac_no key text w c hc h0
end Go.Proofs.YtflofbimecnakaaGreat
namespace Go.Proofs.YtflofbimecnakaaGreat
open Go.RowKit
set_option linter.unusedVariables false
set_option linter.unusedSimpArgs false
theorem Bag.whole {w : World} {B : Nat} {v : Value} {l : List UInt8} (h : Bag w B v l) : ∃ g cap, v = .slice (some ⟨g, 0, none⟩) l.length cap ∧ B ≤ g ∧ l.length ≤ cap := by
  obtain ⟨g, cap, sp, hv, hb, hc, hs, ha⟩ := h
  exact ⟨g, cap, hv, hb, hc⟩
theorem wpList_bytes_len {P : Program} (w : World) {ops : Array Oper} {rest : List Oper} {o : Oper} {a : Act} {Q : Exit → Act → World → Prop}
    (hg : o.guard = none) (x : Operand) (src dst e : TypeId) (hop : o.op = Op.convert src dst x) (h1 : P.underlying src = some .string) (h2 : P.underlying dst = some (.slice e)) (h3 : P.underlying e = some (.int .u8))
    (s : ByteArray) (hx : a.eval x = .string s) (B : Nat) (hB : B ≤ w.heap.size)
    (hK : ∀ g cap w', Hid (Bag w' B (.slice (some ⟨g, 0, none⟩) s.size cap) s.toList) → Below B w w' → wpList P ops Q rest (a.put o.dst (.slice (some ⟨g, 0, none⟩) s.size cap)) w') :
    wpList P ops Q (o :: rest) a w := by
  refine wpList_bytes_bag w hg x src dst e hop h1 h2 h3 s hx B hB ?_
  intro v w' hb hbel
  obtain ⟨g, cap, rfl, hgB, hcap⟩ := hb.whole
  rw [tl_size] at hb ⊢
  exact hK g cap w' hb hbel
end Go.Proofs.YtflofbimecnakaaGreat
namespace Go.Proofs.YtflofbimecnakaaGreat
open Go.RowKit
set_option linter.unusedVariables false
set_option linter.unusedSimpArgs false
theorem macE_zero {k n : Nat} (h : macE k n = 0) : (k = 16 ∨ k = 24 ∨ k = 32) ∧ n ≤ 140000 := by
  unfold macE at h
  split at h
  · rename_i hk
    split at h
    · exact ⟨by simpa [keyOk] using hk, by assumption⟩
    · omega
  · omega
end Go.Proofs.YtflofbimecnakaaGreat
