/- Trees, read and told again, in plain words: forests; what is read is told by the bytes that it was. -/
import Derived.Test.YteglahkgnggmgaaDoorDwD
namespace Go.Proofs.YteglahkgnggmgaaDoor
set_option linter.unusedVariables false
set_option linter.unusedSimpArgs false
open Dr
section
variable {S : List UInt8} {L : Lm}
theorem pend_inv {f : Fr} {G : List Fr} {l : List Nd} {a p : Nat} {s : St} (h : pendS S Op.bytesLess (f :: G) l a p = .ok s) : s = .loop ({ f with kids := f.kids + 1, last := Dr.part S a p } :: G) l p ∧ ¬ (f.tag = 0x31 ∧ 0 < f.kids ∧ Op.bytesLess (Dr.part S a p) f.last = true) := by
  rw [pendS] at h
  split at h
  · cases h
  · rename_i h1
    cases h
    exact ⟨rfl, h1⟩
theorem ordF_cons {f : Fr} {B : List UInt8} {M : List (List UInt8)} (h : ¬ (f.tag = 0x31 ∧ 0 < f.kids ∧ Op.bytesLess B f.last = true)) (h2 : ordF { f with kids := f.kids + 1, last := B } M) : ordF f (B :: M) := fun ht => by
  have h3 := h2 ht
  rw [if_neg (by show ¬ f.kids + 1 = 0; omega)] at h3
  have h4 : ordL (B :: M) = true := h3
  split
  · exact h4
  · rename_i h5
    rw [ordL, h4, Bool.and_true]
    cases hb : Op.bytesLess B f.last with
    | false => rfl
    | true => exact absurd ⟨ht, by omega, hb⟩ h
theorem part_app2 {p q : Nat} {b : List UInt8} (h : S.drop p = b ++ S.drop q) (hq : p + b.length = q) : Dr.part S p q = b := by
  rw [← hq]
  exact part_of h
theorem nodeOk_in {t : UInt8} (ht : tagE t = 0) (hw : within t = true) (k : Nat) : nodeOk ⟨t, (k : Int), []⟩ = true := by
  show (decide (tagE t = 0) && (if within t = true then (decide (0 ≤ (k : Int)) && ([] : List UInt8) == []) else (decide ((k : Int) = -1) && bodyOk t []))) = true
  rw [ht, hw, if_pos rfl, decide_eq_true (Int.natCast_nonneg k)]
  rfl
theorem nodeOk_out {t : UInt8} {b : List UInt8} (ht : tagE t = 0) (hw : within t = false) (hb : bodyOk t b = true) : nodeOk ⟨t, -1, b⟩ = true := by
  show (decide (tagE t = 0) && (if within t = true then (decide ((0 : Int) ≤ -1) && b == []) else (decide ((-1 : Int) = -1) && bodyOk t b))) = true
  rw [ht, hw, if_neg (by decide), hb]
  rfl
/-- what reading told, when the rest of a frame was read -/
structure Told (S : List UInt8) (L : Lm) (f : Fr) (G : List Fr) (l0 : List Nd) (p : Nat) (L' : List Nd) : Prop where
  out : ∃ d N M last', Els d N M true ∧ N.all nodeOk = true ∧ S.drop p = M.flatten ++ S.drop f.e ∧ p + M.flatten.length = f.e ∧ (d = 0 ∨ G.length + 1 + d ≤ L.depth) ∧ ordF f M ∧
    RunsD S L (.loop ({ f with kids := f.kids + M.length, last := last' } :: G) (l0 ++ N) f.e) (.ok L')
theorem Runs.tell : ∀ (m : Nat) (f : Fr) (G : List Fr) (l0 : List Nd) (p : Nat) (L' : List Nd), S.length - p < m → p ≤ S.length → p ≤ f.e → RunsD S L (.loop (f :: G) l0 p) (.ok L') → Told S L f G l0 p L'
  | 0, f, G, l0, p, L', hm, _, _, _ => absurd hm (by omega)
  | m + 1, f, G, l0, p, L', hm, hp, he, hr => by
    by_cases h1 : p < f.e
    · have hs1 : loopS f G l0 p = .el (f :: G) l0 p := by rw [loopS, if_pos h1]
      have hr1 : RunsD S L (.el (f :: G) l0 p) (.ok L') := by
        cases hr with
        | loop h => rw [hs1] at h; exact h
      generalize hR : (Rs.ok L' : Rs (List Nd)) = R at hr1
      cases hr1 with
      | elNo h => cases hR
      | @el _ _ _ s _ h2 h3 =>
        subst hR
        obtain ⟨hpl, hi, ht, n, q, hlr, hend, hk⟩ := elS_inv h2
        have hfe := hend f rfl
        obtain ⟨h4, h5, h6⟩ := lenR_inv hlr
        have h7 := get_drop hpl
        have h8 := lenR_pl hlr
        rcases hk with ⟨hw, hdp, rfl⟩ | ⟨hw, hqn, hbo, rfl⟩
        · have hq0 := Runs.tell m { tag := S.getD p 0, node := l0.length, p0 := p, e := q + n, kids := 0, last := [] } (f :: G) (l0 ++ [{ tag := S.getD p 0, kids := 0, body := [] }]) q L' (by omega) h6 (by show q ≤ q + n; omega) h3
          obtain ⟨dK, K, MK, lastK, hE, hall, hdr, hlen, hd, hO, hrun⟩ := hq0.out
          have hdr : S.drop q = MK.flatten ++ S.drop (q + n) := hdr
          have hlen : q + MK.flatten.length = q + n := hlen
          have hMn : MK.flatten.length = n := by omega
          have hB : S.drop p = encN (S.getD p 0) MK.flatten ++ S.drop (q + n) := by
            rw [encN, List.cons_append, List.append_assoc, h7, h4, hdr, hMn]
          have hBl := encN_length (S.getD p 0) MK.flatten
          rw [hMn] at hBl
          have hpart := part_app2 hB (by omega)
          have hqn : q + n ≤ S.length := by
            by_cases hn : MK.flatten = []
            · have h9 : n = 0 := by rw [← hMn, hn]; rfl
              omega
            · have := drop_len hdr hn; omega
          have hs2 : loopS { tag := S.getD p 0, node := l0.length, p0 := p, e := q + n, kids := 0 + MK.length, last := lastK } (f :: G) (l0 ++ [{ tag := S.getD p 0, kids := 0, body := [] }] ++ K) (q + n) = .pend (f :: G) (l0 ++ ⟨S.getD p 0, (MK.length : Int), []⟩ :: K) p (q + n) := by
            rw [loopS, if_neg (by show ¬ q + n < q + n; omega)]
            show St.pend (f :: G) ((l0 ++ [({ tag := S.getD p 0, kids := 0, body := [] } : Nd)] ++ K).modify l0.length fun x => { x with kids := ((0 + MK.length : Nat) : Int) }) p _ = _
            rw [List.append_assoc, List.singleton_append, mod_mid2, Nat.zero_add]
          have hrun2 : RunsD S L (.pend (f :: G) (l0 ++ ⟨S.getD p 0, (MK.length : Int), []⟩ :: K) p (q + n)) (.ok L') := by
            cases hrun with
            | loop h => rw [← hs2]; exact h
          generalize hR : (Rs.ok L' : Rs (List Nd)) = R at hrun2
          cases hrun2 with
          | pendNo h => cases hR
          | pend h9 h10 =>
            subst hR
            obtain ⟨rfl, hord⟩ := pend_inv h9
            rw [hpart] at h10 hord
            have hq1 := Runs.tell m { f with kids := f.kids + 1, last := encN (S.getD p 0) MK.flatten } G (l0 ++ ⟨S.getD p 0, (MK.length : Int), []⟩ :: K) (q + n) L' (by omega) hqn hfe h10
            obtain ⟨d, N, M, last', hE1, hall1, hdr1, hlen1, hd1, hO1, hrun1⟩ := hq1.out
            have hdr1 : S.drop (q + n) = M.flatten ++ S.drop f.e := hdr1
            have hlen1 : q + n + M.flatten.length = f.e := hlen1
            have hnode := Els.node (n := ⟨S.getD p 0, (MK.length : Int), []⟩) rfl hE hE1
            have hflag : (true && (decide (S.getD p 0 ≠ 0x31) || ordL MK) && true) = true := by
              by_cases h31 : S.getD p 0 = 0x31
              · have h11 := hO h31
                rw [if_pos rfl] at h11
                rw [h11, Bool.or_true]; rfl
              · rw [decide_eq_true h31]; rfl
            rw [show (⟨S.getD p 0, (MK.length : Int), []⟩ : Nd).tag = S.getD p 0 from rfl, hflag] at hnode
            refine ⟨_, _, _, last', hnode, ?_, ?_, ?_, ?_, ordF_cons hord hO1, ?_⟩
            · rw [List.all_cons, List.all_append, hall, hall1, nodeOk_in ht hw]
              rfl
            · rw [List.flatten_cons, List.append_assoc, ← hdr1]; exact hB
            · rw [List.flatten_cons, List.length_append, hBl]; omega
            · rw [List.length_cons] at hdp hd
              rcases hd with h12 | h12 <;> rcases hd1 with h13 | h13 <;> omega
            · have h14 : RunsD S L (.loop ({ f with kids := f.kids + 1 + M.length, last := last' } :: G) (l0 ++ ⟨S.getD p 0, (MK.length : Int), []⟩ :: K ++ N) f.e) (.ok L') := hrun1
              rw [show f.kids + 1 + M.length = f.kids + (encN (S.getD p 0) MK.flatten :: M).length by rw [List.length_cons]; omega, List.append_assoc, List.cons_append] at h14
              exact h14
        · obtain ⟨bd, hbd⟩ : ∃ b, Dr.part S q (q + n) = b := ⟨_, rfl⟩
          rw [hbd] at hbo h3
          have hbl : bd.length = n := by rw [← hbd, Dr.part, List.length_take, List.length_drop]; omega
          have hdr : S.drop q = bd ++ S.drop (q + n) := by
            rw [← hbd, Dr.part, show q + n - q = n by omega]
            have := (List.take_append_drop n (S.drop q)).symm
            rw [List.drop_drop] at this
            exact this
          have hB : S.drop p = encN (S.getD p 0) bd ++ S.drop (q + n) := by
            rw [encN, List.cons_append, List.append_assoc, h7, h4, hdr, hbl]
          have hBl := encN_length (S.getD p 0) bd
          rw [hbl] at hBl
          have hpart := part_app2 hB (by omega)
          generalize hR : (Rs.ok L' : Rs (List Nd)) = R at h3
          cases h3 with
          | pendNo h => cases hR
          | pend h9 h10 =>
            subst hR
            obtain ⟨rfl, hord⟩ := pend_inv h9
            rw [hpart] at h10 hord
            have hq1 := Runs.tell m { f with kids := f.kids + 1, last := encN (S.getD p 0) bd } G (l0 ++ [⟨S.getD p 0, -1, bd⟩]) (q + n) L' (by omega) hqn hfe h10
            obtain ⟨d, N, M, last', hE1, hall1, hdr1, hlen1, hd1, hO1, hrun1⟩ := hq1.out
            have hdr1 : S.drop (q + n) = M.flatten ++ S.drop f.e := hdr1
            have hlen1 : q + n + M.flatten.length = f.e := hlen1
            have hleaf := Els.leaf (n := ⟨S.getD p 0, -1, bd⟩) (show (-1 : Int) < 0 by decide) hE1
            refine ⟨_, _, _, last', hleaf, ?_, ?_, ?_, hd1, ordF_cons hord hO1, ?_⟩
            · rw [List.all_cons, hall1, nodeOk_out ht hw hbo]
              rfl
            · rw [List.flatten_cons, List.append_assoc, ← hdr1]; exact hB
            · rw [List.flatten_cons, List.length_append]
              show p + ((encN (S.getD p 0) bd).length + _) = _
              rw [hBl]; omega
            · have h14 : RunsD S L (.loop ({ f with kids := f.kids + 1 + M.length, last := last' } :: G) (l0 ++ [⟨S.getD p 0, -1, bd⟩] ++ N) f.e) (.ok L') := hrun1
              rw [show f.kids + 1 + M.length = f.kids + (encN (S.getD p 0) bd :: M).length by rw [List.length_cons]; omega, List.append_assoc, List.singleton_append] at h14
              exact h14
    · have hpe : p = f.e := by omega
      subst hpe
      refine ⟨0, [], [], f.last, .nil, rfl, rfl, rfl, .inl rfl, fun ht => ?_, ?_⟩
      · split
        · rfl
        · rfl
      · rw [List.append_nil]; exact hr
theorem Els.bods {d N M o} (h : Els d N M o) : N.all nodeOk = true → bods N ≤ M.flatten.length := by
  induction h with
  | nil => intro _; exact Nat.zero_le _
  | @leaf n d N M o hn h ih =>
    intro hall
    rw [List.all_cons, Bool.and_eq_true] at hall
    have h1 := ih hall.2
    have h2 := encN_length n.tag n.body
    have h3 : Go.Proofs.YteglahkgnggmgaaDoor.bods (n :: N) = n.body.length + Go.Proofs.YteglahkgnggmgaaDoor.bods N := by simp [Go.Proofs.YteglahkgnggmgaaDoor.bods]
    rw [h3, List.flatten_cons, List.length_append]
    omega
  | @node n dK K MK oK d N M o hn hK h ihK ih =>
    intro hall
    rw [List.all_cons, List.all_append, Bool.and_eq_true, Bool.and_eq_true] at hall
    have h0 := hall.1
    rw [nodeOk, Bool.and_eq_true] at h0
    have hb : n.body = [] := by
      by_cases hw : within n.tag = true
      · rw [if_pos hw, Bool.and_eq_true] at h0
        simpa using h0.2.2
      · rw [if_neg hw, Bool.and_eq_true] at h0
        have : n.kids = -1 := of_decide_eq_true h0.2.1
        omega
    have h1 := ih hall.2.2
    have h2 := ihK hall.2.1
    have h3 := encN_length n.tag MK.flatten
    have h4 : Go.Proofs.YteglahkgnggmgaaDoor.bods (n :: (K ++ N)) = n.body.length + (Go.Proofs.YteglahkgnggmgaaDoor.bods K + Go.Proofs.YteglahkgnggmgaaDoor.bods N) := by simp [Go.Proofs.YteglahkgnggmgaaDoor.bods]
    rw [h4, hb, List.flatten_cons, List.length_append]
    show 0 + _ ≤ _
    omega
/-- what a whole text was, when it was read -/
theorem Runs.tellOne {l : List Nd} (hr : RunsD S L (.el [] [] 0) (.ok l)) : ∃ d, Els d l [S] true ∧ l.all nodeOk = true ∧ (d = 0 ∨ d ≤ L.depth) := by
  generalize hR : (Rs.ok l : Rs (List Nd)) = R at hr
  cases hr with
  | elNo h => cases hR
  | el h2 h3 =>
    subst hR
    obtain ⟨hpl, hi, ht, n, q, hlr, hend, hk⟩ := elS_inv h2
    obtain ⟨h4, h5, h6⟩ := lenR_inv hlr
    have h7 := get_drop hpl
    have hfin : ∀ (N : List Nd) (x : Nat), fin S L N x = .ok l → S.length ≤ x ∧ N = l := fun N x h => by
      rw [fin] at h
      split at h
      · split at h
        · cases h
        · rw [lack] at h; cases h
      · cases h; exact ⟨by omega, rfl⟩
    have hend2 : ∀ (N : List Nd) (a x : Nat), RunsD S L (.pend [] N a x) (.ok l) → S.length ≤ x ∧ N = l := fun N a x h => by
      generalize hR : (Rs.ok l : Rs (List Nd)) = R at h
      cases h with
      | pendNo h => cases hR
      | pend h9 h10 =>
        cases h9
        generalize hx : (St.loop [] N x) = st at h10
        cases h10 with
        | el => cases hx
        | elNo => cases hx
        | pend => cases hx
        | pendNo => cases hx
        | loop => cases hx
        | fin =>
          cases hx
          exact hfin _ _ hR.symm
    rcases hk with ⟨hw, hdp, rfl⟩ | ⟨hw, hqn, hbo, rfl⟩
    · have hq0 := Runs.tell (S.length + 1) { tag := S.getD 0 0, node := ([] : List Nd).length, p0 := 0, e := q + n, kids := 0, last := [] } [] ([] ++ [{ tag := S.getD 0 0, kids := 0, body := [] }]) q l (by omega) h6 (by show q ≤ q + n; omega) h3
      obtain ⟨dK, K, MK, lastK, hE, hall, hdr, hlen, hd, hO, hrun⟩ := hq0.out
      have hdr : S.drop q = MK.flatten ++ S.drop (q + n) := hdr
      have hlen : q + MK.flatten.length = q + n := hlen
      have hMn : MK.flatten.length = n := by omega
      have hB : S.drop 0 = encN (S.getD 0 0) MK.flatten ++ S.drop (q + n) := by
        rw [encN, List.cons_append, List.append_assoc, h7, h4, hdr, hMn]
      have hs2 : loopS { tag := S.getD 0 0, node := ([] : List Nd).length, p0 := 0, e := q + n, kids := 0 + MK.length, last := lastK } [] ([] ++ [{ tag := S.getD 0 0, kids := 0, body := [] }] ++ K) (q + n) = .pend [] (⟨S.getD 0 0, (MK.length : Int), []⟩ :: K) 0 (q + n) := by
        rw [loopS, if_neg (by show ¬ q + n < q + n; omega)]
        show St.pend [] (([] ++ [({ tag := S.getD 0 0, kids := 0, body := [] } : Nd)] ++ K).modify 0 fun x => { x with kids := ((0 + MK.length : Nat) : Int) }) 0 _ = _
        rw [List.nil_append, List.singleton_append, List.modify_zero_cons, Nat.zero_add]
      have hrun2 : RunsD S L (.pend [] (⟨S.getD 0 0, (MK.length : Int), []⟩ :: K) 0 (q + n)) (.ok l) := by
        cases hrun with
        | loop h => rw [← hs2]; exact h
      obtain ⟨h8, rfl⟩ := hend2 _ _ _ hrun2
      have hnode := Els.node (n := ⟨S.getD 0 0, (MK.length : Int), []⟩) rfl hE .nil
      have hflag : (true && (decide (S.getD 0 0 ≠ 0x31) || ordL MK) && true) = true := by
        by_cases h31 : S.getD 0 0 = 0x31
        · have h11 := hO h31
          rw [if_pos rfl] at h11
          rw [h11, Bool.or_true]; rfl
        · rw [decide_eq_true h31]; rfl
      rw [show (⟨S.getD 0 0, (MK.length : Int), []⟩ : Nd).tag = S.getD 0 0 from rfl, hflag, List.append_nil] at hnode
      rw [List.drop_eq_nil_of_le h8, List.append_nil, List.drop_zero] at hB
      rw [← hB] at hnode
      refine ⟨_, hnode, ?_, ?_⟩
      · rw [List.all_cons, hall, nodeOk_in ht hw]
        rfl
      · rw [List.length_nil] at hdp hd
        rcases hd with h12 | h12 <;> omega
    · obtain ⟨h8, rfl⟩ := hend2 _ _ _ h3
      obtain ⟨bd, hbd⟩ : ∃ b, Dr.part S q (q + n) = b := ⟨_, rfl⟩
      rw [hbd] at hbo
      have hbl : bd.length = n := by rw [← hbd, Dr.part, List.length_take, List.length_drop]; omega
      have hdr : S.drop q = bd ++ S.drop (q + n) := by
        rw [← hbd, Dr.part, show q + n - q = n by omega]
        have := (List.take_append_drop n (S.drop q)).symm
        rw [List.drop_drop] at this
        exact this
      have hB : S.drop 0 = encN (S.getD 0 0) bd ++ S.drop (q + n) := by
        rw [encN, List.cons_append, List.append_assoc, h7, h4, hdr, hbl]
      rw [List.drop_eq_nil_of_le h8, List.append_nil, List.drop_zero] at hB
      have hleaf := Els.leaf (n := ⟨S.getD 0 0, -1, bd⟩) (show (-1 : Int) < 0 by decide) .nil
      rw [show encN (⟨S.getD 0 0, -1, bd⟩ : Nd).tag (⟨S.getD 0 0, -1, bd⟩ : Nd).body = encN (S.getD 0 0) bd from rfl, ← hB] at hleaf
      rw [List.nil_append, hbd]
      refine ⟨0, hleaf, ?_, .inl rfl⟩
      rw [List.all_cons, nodeOk_out ht hw hbo]
      rfl
/-- what is read is told by the bytes that it was -/
theorem read_enc {d i b ro : Int} {l : List Nd} (hm : mayOk d i b ro = true) (hr : RunsD S (limL d i b) (.el [] [] 0) (.ok l)) : enc l = (S, 0) := by
  have hy := mayOk_yes hm
  obtain ⟨dd, hE, hall, hdd⟩ := Runs.tellOne hr
  have h1 : l.length ≤ i.toNat := Runs.ini hr l rfl (Nat.zero_le _)
  have h2 : S.length ≤ b.toNat := Runs.inb hr l rfl (Nat.zero_le _)
  have h3 := hE.bods hall
  rw [List.flatten_singleton] at h3
  have h4 := hE.jn []
  rw [List.append_nil] at h4
  have hdd' : dd = 0 ∨ dd ≤ d.toNat := hdd
  rw [enc, if_neg (by omega), hE.one, if_neg (show ¬ true = false by decide), hall, if_neg (by decide), if_neg (by show ¬ (32 < (dd : Int) ∨ 262144 < Go.Proofs.YteglahkgnggmgaaDoor.bods l); omega), h4]
  have h5 : ((([S] : List (List UInt8)) ++ (jnS []).1, true && (jnS []).2) : List (List UInt8) × Bool) = ([S], true) := rfl
  rw [h5]
  show (if 262144 < S.length then _ else _) = _
  rw [if_neg (by omega), if_neg (show ¬ true = false by decide)]
  rfl
end
end Go.Proofs.YteglahkgnggmgaaDoor
