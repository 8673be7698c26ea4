/- One item has ended; rows of atoms and of holders. -/
import Derived.Test.YtikgonlhdkknkaaDoorCuI
import Derived.Test.YtikgonlhdkknkaaDoorShg
namespace Go.Proofs.YtikgonlhdkknkaaDoor
open Go.RowKit
set_option linter.unusedVariables false
set_option linter.unusedSimpArgs false
namespace Co
open Dr (Rs Lm has lack at0S)
theorem infoA : (Tryd.prog.info? 51).map (fun i => (i.zero, i.size, i.bytes)) = some (some (.agg #[.int .i64 0, .int .u64 0, .string ByteArray.empty]), 3, 32) := by kernel_rfl
theorem infoH : (Tryd.prog.info? 108).map (fun i => (i.zero, i.size, i.bytes)) = some (some (.agg #[.int .i64 0, .int .u64 0, .bool false, .bool false, .bool false, .string ByteArray.empty]), 6, 40) := by kernel_rfl
theorem rv_one (y : Ra) : ∀ u ∈ rv y, u.oneCell' = true := by
  intro u hu
  simp only [rv, List.mem_cons, List.not_mem_nil, or_false] at hu
  rcases hu with rfl | rfl | rfl <;> rfl
theorem hv_one (f : Fr) : ∀ u ∈ hv f, u.oneCell' = true := by
  intro u hu
  simp only [hv, List.mem_cons, List.not_mem_nil, or_false] at hu
  rcases hu with rfl | rfl | rfl | rfl | rfl | rfl <;> rfl
section
variable {w : World} {ops : Array Oper} {o : Oper} {a : Act}
theorem step_append_at {K : Act → World → Prop} {Q : Exit → Act → World → Prop} {E : Prop} (hgd : o.guard = none) (s x : Operand)
    (ho : o.op = .call { callee := .builtin .append, args := #[s, x], argTypes := #[46, 46] })
    (base : Nat) (v : Value) (n : Nat) (l : List Ra) (hs : a.eval s = v) (hown : w.ownsRow base 51 3 v n (rcells l))
    (g c : Nat) (y : Ra) (hx : a.eval x = .slice (some ⟨g, 0, none⟩) 1 c) (hcell : ∀ j u, (rv y)[j]? = some u → w.cell? ((⟨g, 0, none⟩ : Addr).add j) = some u)
    (hn : n ≤ 1000000) (hbase : base ≤ w.heap.size)
    (h : ∀ v' w', w'.ownsRow base 51 3 v' (n + 1) (rcells (l ++ [y])) → w.grownBy w' v.ownBlock → K (a.put o.dst v') w') :
    if Region.wanted o (yielded ops a.tmps) = true then Oper.wp Tryd.prog o a w K Q else E := by
  obtain ⟨i0, hi, hq⟩ := Option.map_eq_some_iff.1 infoA
  simp only [Prod.mk.injEq] at hq
  refine step_append_gen hgd s x 46 ho base 51 i0 _ 3 32 Tryd.underlying46 hi hq.1 hq.2.1 hq.2.2 rfl (by decide) v n (rcells l) hs hown g 1 c (rv y) hx rfl hcell (rv_one y) (by unfold maxLen; omega) (by omega) hbase ?_
  intro v' w' h1 h2
  exact h v' w' (by rw [rcells_append]; simpa [rcells] using h1) h2
theorem step_append_hd {K : Act → World → Prop} {Q : Exit → Act → World → Prop} {E : Prop} (hgd : o.guard = none) (s x : Operand)
    (ho : o.op = .call { callee := .builtin .append, args := #[s, x], argTypes := #[79, 79] })
    (base : Nat) (v : Value) (n : Nat) (G : List Fr) (hs : a.eval s = v) (hown : w.ownsRow base 108 6 v n (hcells G))
    (g c : Nat) (f : Fr) (hx : a.eval x = .slice (some ⟨g, 0, none⟩) 1 c) (hcell : ∀ j u, (hv f)[j]? = some u → w.cell? ((⟨g, 0, none⟩ : Addr).add j) = some u)
    (hn : n ≤ 1000000) (hbase : base ≤ w.heap.size)
    (h : ∀ v' w', w'.ownsRow base 108 6 v' (n + 1) (hcells (f :: G)) → w.grownBy w' v.ownBlock → K (a.put o.dst v') w') :
    if Region.wanted o (yielded ops a.tmps) = true then Oper.wp Tryd.prog o a w K Q else E := by
  obtain ⟨i0, hi, hq⟩ := Option.map_eq_some_iff.1 infoH
  simp only [Prod.mk.injEq] at hq
  refine step_append_gen hgd s x 79 ho base 108 i0 _ 6 40 Tryd.underlying79 hi hq.1 hq.2.1 hq.2.2 rfl (by decide) v n (hcells G) hs hown g 1 c (hv f) hx rfl hcell (hv_one f) (by unfold maxLen; omega) (by omega) hbase ?_
  intro v' w' h1 h2
  exact h v' w' (by rw [hcells_cons]; exact h1) h2
end
theorem at_cells {w : World} {k : Nat} {cs ds : List Value} (he : ds = cs) (h : At w k 0 cs) : ∀ j u, ds[j]? = some u → w.cell? ((⟨k, 0, none⟩ : Addr).add j) = some u := fun j u hu => by
  subst he
  have := (h j u hu).1
  by_cases h0 : j = 0
  · subst h0; simpa [Addr.add] using this
  · simpa [Addr.add, h0] using this
section
variable {w w' : World} {g : Nat} {s : ByteArray} {L : Lm} {p : Nat} {l : List Am} {G : List Fr} {vn vs : Value} {ro : Int}
theorem Rd.below (h : Rd w g s L p l G vn vs ro) (hb : Below w.heap.size w w') : Rd w' g s L p l G vn vs ro :=
  ⟨h.at0.below hb h.lt, own_below h.nodes hb (Nat.le_refl _), own_below h.stack hb (Nat.le_refl _), Nat.lt_of_lt_of_le h.lt hb.size⟩
theorem Rd.alloc (h : Rd w g s L p l G vn vs ro) (o : Obj) : Rd (w.alloc o) g s L p l G vn vs ro :=
  ⟨h.at0.alloc o, h.nodes.alloc o, h.stack.alloc o, by simp; have := h.lt; omega⟩
/-- an atom is appended -/
theorem Rd.addAtom (h : Rd w g s L p l G vn vs ro) {l' : List Am} {v' : Value} (hg : w.grownBy w' vn.ownBlock) (ho : w'.ownsRow (g + 1) 51 3 v' l'.length (rcells (l'.map up))) :
    Rd (w'.setCell ⟨g, 7, none⟩ v') g s L p l' G v' vs ro := by
  have hlt := h.lt
  have hne : ∀ k, vn.ownBlock = some k → g + 1 ≤ k := fun k hk => (h.nodes.lt k hk).1
  have h1 := h.at0.grown hg hlt (fun e => by have := hne g e; omega)
  have h2 := h.stack.kept hg (by
    rcases own_ne h.stack h.nodes (Ne.symm kinds_ne) with h3 | h3
    · exact .inl h3
    · exact .inr h3)
  exact ⟨h1.set 7 v', ownsRow_setCell_below ho (Nat.lt_succ_self g) _, ownsRow_setCell_below h2 (Nat.lt_succ_self g) _, by
    rw [show (w'.setCell ⟨g, 7, none⟩ v').heap.size = w'.heap.size by simp [World.setCell]]
    exact Nat.lt_of_lt_of_le hlt hg.size⟩
/-- a frame is appended -/
theorem Rd.addFrame (h : Rd w g s L p l G vn vs ro) {G' : List Fr} {v' : Value} (hg : w.grownBy w' vs.ownBlock) (ho : w'.ownsRow (g + 1) 108 6 v' G'.length (hcells G')) :
    Rd (w'.setCell ⟨g, 8, none⟩ v') g s L p l G' vn v' ro := by
  have hlt := h.lt
  have hne : ∀ k, vs.ownBlock = some k → g + 1 ≤ k := fun k hk => (h.stack.lt k hk).1
  have h1 := h.at0.grown hg hlt (fun e => by have := hne g e; omega)
  have h2 := h.nodes.kept hg (by
    rcases own_ne h.nodes h.stack kinds_ne with h3 | h3
    · exact .inl h3
    · exact .inr h3)
  exact ⟨h1.set 8 v', ownsRow_setCell_below h2 (Nat.lt_succ_self g) _, ownsRow_setCell_below ho (Nat.lt_succ_self g) _, by
    rw [show (w'.setCell ⟨g, 8, none⟩ v').heap.size = w'.heap.size by simp [World.setCell]]
    exact Nat.lt_of_lt_of_le hlt hg.size⟩
end
theorem own_cap {w : World} {B e size n cap : Nat} {a : Option Addr} {xs : List Value} (h : w.ownsRow B e size (.slice a n cap) n xs) : n ≤ cap := by
  rcases h.2 with ⟨h1, h0⟩ | ⟨g, cap', cur, h1, _, _, h2, _⟩
  · rw [h0]; exact Nat.zero_le _
  · cases h1; exact h2
theorem tl_extract (s : ByteArray) (a b : Nat) : (s.extract a b).toList = (s.toList.drop a).take (b - a) := by
  rw [Lib.toList_data, Lib.toList_data, ByteArray.data_extract, Array.toList_extract, List.extract_eq_take_drop]
def RsEnd (r : Rs St) (g : Nat) (s : ByteArray) (L : Lm) (vn vs : Value) (ro : Int) (w : World) (e : Ending) (w' : World) : Prop :=
  match r with
  | .ok (.loop G l p) => e = .returned (.tuple #[]) ∧ Hid (Rd w' g s L p l G vn vs ro) ∧ Hid (Below g w w')
  | .no c q _ => No c q g w e w'
  | _ => False
/-- frames that stand open at a place: each holds one more -/
structure Open (G : List Fr) (p : Nat) : Prop where
  out : ∀ f ∈ G, 0 < f.left ∧ f.left < 18446744073709551616 ∧ f.p0 ≤ p
set_option maxRecDepth 100000 in
set_option maxHeartbeats 1600000 in
theorem citemEnded_any (w : World) (g : Nat) (s : ByteArray) (L : Lm) (a p : Nat) (l : List Am) (G : List Fr) (vn vs : Value) (ro : Int) (hR : Rd w g s L p l G vn vs ro) (hop : ∀ f, G.head? = some f → 0 < f.left ∧ f.left < 18446744073709551616) (ha : a ≤ p) (hp : p ≤ s.size) (hz : s.size ≤ 140737488351232) :
    Calls Tryd.prog 51 #[.pointer (some ⟨g, 0, none⟩), .int .i64 (a : Int)] w (RsEnd (pendS s.toList Op.bytesLess G l a p) g s L vn vs ro w) := by
  have F := Lib.hid (fun c p w => fail_any c p w)
  have HR := Lib.hid hR
  cases G with
  | nil =>
    obtain ⟨ad, c, rfl, -⟩ := own_form hR.stack
    have hc8 := hR.at0.cell 8 _ rfl
    clear hR hz ha hp hop
    go_enter Tryd.func51, Tryd.ntmps51
    go_wp2_with fail
    first | go_end0 | refine bodyPost_ret (results_none rfl _ _ _) rfl ?_
    exact ⟨rfl, HR, Below.refl _ _⟩
  | cons f G =>
    have hf := hop f rfl
    obtain ⟨k, cap, rfl, hgk, hAt⟩ := hR.top
    have hc8 := hR.at0.cell 8 _ rfl
    obtain ⟨n, hn⟩ : ∃ n, G.length = n := ⟨_, rfl⟩
    rw [hn] at hAt hc8
    have ht1 := hAt.cell 1 _ rfl
    have ht2 := hAt.cell 2 _ rfl
    have ht3 := hAt.cell 3 _ rfl
    have ht4 := hAt.cell 4 _ rfl
    have ht5 := hAt.cell 5 _ rfl
    have hf1 := hAt.froz 1 (by rw [hv_length]; decide)
    have hf3 := hAt.froz 3 (by rw [hv_length]; decide)
    have hf4 := hAt.froz 4 (by rw [hv_length]; decide)
    have hf5 := hAt.froz 5 (by rw [hv_length]; decide)
    have WA := Lib.hid (fun (z : Nat) => wants_any (w.drewN z) _ _ _ _ ht2 ht3)
    have e4 : IntKind.i64.wrap (n : Int) = (n : Int) := wrap_fit n (by have := own_fit hR.stack; rw [List.length_cons, hn] at this; omega)
    have e5 : (n : Int) < (n : Int) + 1 := by omega
    have HHG := Lib.hid hn
    by_cases hkey : f.pairs = true ∧ f.value = false
    · obtain ⟨u, hu⟩ : ∃ u, s.extract a p = u := ⟨_, rfl⟩
      have hul : u.toList = Dr.part s.toList a p := by rw [← hu, tl_extract]; rfl
      have PT := Lib.hid (fun w hT => part_ok w g s L.bytes p a p hT ha hp)
      rw [hu] at PT
      have KE := Lib.hid (fun (z : Nat) => key_any (w.drewN z) _ _ _ _ _ u ht4 ht3 ht5 hf4 hf3 hf5)
      have hcond : (f.pairs && !f.value) = true := by rw [hkey.1, hkey.2]; rfl
      rw [hcond] at WA
      obtain ⟨R, hRR⟩ : ∃ R, pendS s.toList Op.bytesLess (f :: G) l a p = R := ⟨_, rfl⟩
      rw [hRR]
      rw [pendS, if_pos hkey, ← hul] at hRR
      rw [tl_mk] at KE
      obtain ⟨b, hb⟩ : ∃ b, (f.keys && !Op.bytesLess f.last u.toList) = b := ⟨_, rfl⟩
      rw [hb] at KE
      have HRK := Lib.hid (fun (z : Nat) => (hR.drewN z).topKey hn u _ rfl)
      cases b with
      | true =>
        have HF : Hid (R = .no 9 a false) := by
          show R = _
          rw [← hRR, if_pos]
          rw [Bool.and_eq_true] at hb
          exact ⟨hb.1, by simpa using hb.2⟩
        clear hR hz ha hp hop hf hAt ht1 ht2 ht3 ht4 ht5 hf1 hf3 hf4 hf5 hn hkey hu hul hcond hRR hb
        go_enter Tryd.func51, Tryd.ntmps51
        go_wp2_with fail
        go_quiet (fail)
        go_wp2_with (first
          | (go_at_call 71; refine (WA.out _).mono ?_; rintro e w1 ⟨rfl, rfl⟩))
        go_region_held3 (fun _ => True) (trivial) (first
          | (go_at_call 56; refine (place_yes (HR.out.drewN _)).mono ?_; rintro e w1 ⟨rfl, rfl⟩)
          | (go_at_call 74; refine (PT.out _ (HR.out.drewN _).tx.1).mono ?_; rintro e w2 ⟨rfl, rfl⟩)
          | (go_at_call 73; refine (KE.out _).mono ?_; rintro e w3 ⟨rfl, rfl⟩))
        go_wp2_with (go_at_call 55; refine (F.out _ _ _).mono ?_; rintro e w4 ⟨rfl, rfl⟩)
        rw [HF.out]
        exact ⟨rfl, rfl, (((below_drewN _ _ _).setCell (Nat.le_of_lt hgk) _).setCell (Nat.le_of_lt hgk) _).setCell (Nat.le_of_lt hgk) _⟩
      | false =>
        have HF : Hid (R = .ok (.loop ({ f with keys := true, value := true, last := u.toList } :: G) l p)) := by
          show R = _
          rw [← hRR, if_neg]
          rintro ⟨h1, h2⟩
          rw [h1, h2] at hb
          cases hb
        clear hR hz ha hp hop hf hAt ht1 ht2 ht3 ht4 ht5 hf1 hf3 hf4 hf5 hn hkey hu hul hcond hRR hb
        go_enter Tryd.func51, Tryd.ntmps51
        go_wp2_with fail
        go_quiet (fail)
        go_wp2_with (first
          | (go_at_call 71; refine (WA.out _).mono ?_; rintro e w1 ⟨rfl, rfl⟩))
        go_region_held3 (fun _ => True) (trivial) (first
          | (go_at_call 56; refine (place_yes (HR.out.drewN _)).mono ?_; rintro e w1 ⟨rfl, rfl⟩)
          | (go_at_call 74; refine (PT.out _ (HR.out.drewN _).tx.1).mono ?_; rintro e w2 ⟨rfl, rfl⟩)
          | (go_at_call 73; refine (KE.out _).mono ?_; rintro e w3 ⟨rfl, rfl⟩))
        go_wp2_with fail
        first | go_end0 | refine bodyPost_ret (results_none rfl _ _ _) rfl ?_
        rw [HF.out]
        exact ⟨rfl, HRK.out _, (((below_drewN _ _ _).setCell (Nat.le_of_lt hgk) _).setCell (Nat.le_of_lt hgk) _).setCell (Nat.le_of_lt hgk) _⟩
    · have hcond : (f.pairs && !f.value) = false := by
        cases h1 : f.pairs <;> cases h2 : f.value <;> simp_all
      rw [hcond] at WA
      obtain ⟨m, hm⟩ : ∃ m, f.left - 1 = m := ⟨_, rfl⟩
      have OT := Lib.hid (fun (z : Nat) => other_any (w.drewN z) _ _ _ (m : Int) _ ht1 ht3 hf1 hf3 (by omega) (u64c m (by omega)))
      have HRO := Lib.hid (fun (z : Nat) => (hR.drewN z).topOther hn m _ hm rfl)
      have hp1 : pendS s.toList Op.bytesLess (f :: G) l a p = .ok (.loop ({ f with value := false, left := f.left - 1 } :: G) l p) := by
        rw [pendS, if_neg hkey]
      rw [hp1]
      clear hR hz ha hp hop hf hAt ht1 ht2 ht3 ht4 ht5 hf1 hf3 hf4 hf5 hn hkey hcond hp1 hm
      go_enter Tryd.func51, Tryd.ntmps51
      go_wp2_with fail
      go_quiet (fail)
      go_wp2_with (first
        | (go_at_call 71; refine (WA.out _).mono ?_; rintro e w1 ⟨rfl, rfl⟩)
        | (go_at_call 72; refine (OT.out _).mono ?_; rintro e w1 ⟨rfl, rfl⟩))
      first | go_end0 | refine bodyPost_ret (results_none rfl _ _ _) rfl ?_
      exact ⟨rfl, HRO.out _, ((below_drewN _ _ _).setCell (Nat.le_of_lt hgk) _).setCell (Nat.le_of_lt hgk) _⟩
end Co
end Go.Proofs.YtikgonlhdkknkaaDoor
