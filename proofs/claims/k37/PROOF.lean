import PyProof.Rows.All
import Wide.All
import OpenK.AllK
import Wide.FinOn
import HandS.ForMost
import HandS.Wide
import HandS.Codes
import PySem.Challenge.RW_windowkin_k37_states_that_can_be_merged
import HandS.IsInst
import HandS.Walk
import HandS.Zip
import KE.GoesMore
import HandS.ClsMeth
import HandS.Property
import HandS.FStr
import HandS.TupAny
import HandS.TupMul
import HandS.Strs
import HandS.More
import HandS.OwnEq
import PyProof.NeKinds
import PyProof.ZipIter
import PyProof.ListNew
import KE.KStar
import KE.KDictZip
import HandS.Star
import HandS.List
import PyProof.EqAt
import PyProof.EqKinds
import HandS.Exc
import HandS.EndOwn
import KE.KNestM
set_option Elab.async false
set_option linter.all false
set_option maxRecDepth 100000
namespace Lw
open PySem L2
def top (i : Nat) : Stmt := PySem.Challenge.pw_windowkin_k37_states_that_can_be_merged.main.body.getD i (.Pass ⟨0, 0, 0, 0⟩)
abbrev sBag : Stmt := top 27
abbrev sPull : Stmt := top 28
abbrev sOf : Stmt := top 29
/-! ### heaps -/
theorem same_upd {H : Hp} {p : Addr} {o : HO} (h : H p = none) : Same H (upd H p o) := fun b x e => by
  rw [upd_ne (ne_of_none e h)]
  exact e
theorem upd_upd {H : Hp} {p : Addr} {o o' : HO} : upd (upd H p o) p o' = upd H p o' := by
  funext c
  by_cases e : c = p
  · subst e
    rw [upd_same, upd_same]
  · rw [upd_ne e, upd_ne e, upd_ne e]
theorem upd_self {H : Hp} {p : Addr} {o : HO} (h : H p = some o) : upd H p o = H := by
  funext c
  by_cases e : c = p
  · subst e
    rw [upd_same, h]
  · rw [upd_ne e]
/-! ### the bag: the script's own list at l, a place, a rest, a salt -/
def BagO (l : Addr) (ns : List Int) (o : HO) : Prop := ∃ (i : Nat) (r s : Int), o = .lst [.ref l, .int (i : Int), .int r, .int s] ∧ i ≤ ns.length ∧ 0 ≤ r ∧ 0 ≤ s ∧ s < 2147483563
structure BagAt (H : Hp) (b l : Addr) (ns : List Int) : Prop where
  ob : ∃ o, H b = some o ∧ BagO l ns o
  sc : H l = some (.lst (ns.map V.int))
  ln : ns.length ≤ 63
theorem BagAt.ne {H : Hp} {b l : Addr} {ns : List Int} (h : BagAt H b l ns) : l ≠ b := fun e => by
  obtain ⟨o, ho, i, r, s, rfl, _⟩ := h.ob
  have h2 := h.sc
  rw [e, ho] at h2
  cases ns with
  | nil => cases h2
  | cons x r => cases h2
theorem BagAt.upd {H : Hp} {b l : Addr} {ns : List Int} {o : HO} (h : BagAt H b l ns) (ho : BagO l ns o) : BagAt (upd H b o) b l ns :=
  ⟨⟨o, upd_same, ho⟩, by rw [upd_ne h.ne]; exact h.sc, h.ln⟩
/-- the bag where all that was tracked stands -/
theorem BagAt.same {H H' : Hp} {b l : Addr} {ns : List Int} (h : BagAt H b l ns) (e : Same H H') : BagAt H' b l ns :=
  ⟨h.ob.imp fun _ z => ⟨e _ _ z.1, z.2⟩, e _ _ h.sc, h.ln⟩
def spPull : Sp := fun vs H Q _ => ∃ (b l : Addr) (ns : List Int) (m : Int), vs = [.ref b, .int m] ∧ BagAt H b l ns ∧ 0 < m ∧ m < 2 ^ 100 ∧
  ∀ (v : Int) (o : HO), 0 ≤ v → v < m → BagO l ns o → Q (.int v) (upd H b o)
def spBag (K : PySem.W.Frag) : Sp := fun vs H Q _ => ∃ (a : Addr) (ns : List Int), vs = [.ref a] ∧ SqL K H a (ns.map V.int) ∧ ns.length ≤ 63 ∧
  ∀ (b l : Addr) (H' : Hp), Same H H' → H b = none → H l = none → BagAt H' b l ns → Q (.ref b) H'
section
variable {P : Program} {w : World} {K : PySem.W.Frag} {mg : Str → Option Value} {base : Heap}
/-! ### _law_pull -/
theorem scPull : FnScope ["_law_bag_here", "_law_many", "_law_cell", "_law_got", "_law_seed"] ["_law_bag_here", "_law_many"] (defScope sPull) := ⟨rfl, rfl, rfl, by decide +kernel, rfl, by decide +kernel, by decide +kernel⟩
theorem at0 {x : V} {r : List V} : atI (x :: r) 0 = some x := by
  have h := atI_nat (xs := x :: r) (j := 0) (v := x) rfl
  exact h
theorem at1 {x y : V} {r : List V} : atI (x :: y :: r) 1 = some y := by
  have h := atI_nat (xs := x :: y :: r) (j := 1) (v := y) rfl
  exact h
theorem at2 {x y z : V} {r : List V} : atI (x :: y :: z :: r) 2 = some z := by
  have h := atI_nat (xs := x :: y :: z :: r) (j := 2) (v := z) rfl
  exact h
theorem at3 {x y z u : V} {r : List V} : atI (x :: y :: z :: u :: r) 3 = some u := by
  have h := atI_nat (xs := x :: y :: z :: u :: r) (j := 3) (v := u) rfl
  exact h
set_option maxHeartbeats 4000000 in
theorem ok_pull {f : Addr} {fd : FuncData} {k : Nat} (F : Fun K "_law_pull" "_law_pull" sPull f fd) (mlen : mg "len" = none) : FnOk P w K mg base CX0 (k + 1) f fd ["_law_bag_here", "_law_many"] spPull := by
  refine F.ok scPull (fun vs H Q E h => ?_) (fun cdv A outer s H vs Q E hr h => ?_)
  · obtain ⟨b, l, ns, m, rfl, _⟩ := h
    rfl
  · obtain ⟨b, l, ns, m, rfl, B, hm, hm2, q⟩ := h
    refine ⟨_, C8.pss_cut (ps_if (PW.pt (pw_and (pt_cmpR op_eq (pe_ix ix_list (pv 0) pe_int (fun _ _ => rfl)) pe_int (nomark _))
        (pw_and1 (pt_cmpR op_lt (pe_ix ix_list (pv 0) pe_int (fun _ _ => rfl)) (pe_callB call_len_seq (by rfl) mlen PySem.boot_len (pa_cons (pe_ix ix_list (pv 0) pe_int (fun _ _ => rfl)) pa_nil)) (nomark _)))))
        (pss_cons (ps_set (i := 2) scPull.nd rfl (Or.inl rfl) (pe_ix ix_list (pe_ix ix_list (pv 0) pe_int (fun _ _ => rfl)) (pe_ix ix_list (pv 0) pe_int (fun _ _ => rfl)) (fun _ _ => rfl)))
        (pss_cons (ps_asg (pe_op op_add (pe_ix ix_list (pv 0) pe_int (fun _ _ => rfl)) pe_int) (pg_sub (pv 0) pe_int set_list))
        (pss_one (ps_if (pt_cmpR op_ge (pv 2) (pe_op op_pow pe_int pe_int) (nomark _))
          (pss_one (ps_asg (pe_op op_sub (pv 2) (pe_op op_pow pe_int pe_int)) (pg_sub (pv 0) pe_int set_list)))
          (pss_one (ps_asg (pe_op op_mod (pe_op op_add (pe_op op_add (pe_op op_mul (pe_ix ix_list (pv 0) pe_int (fun _ _ => rfl)) pe_int) (pe_op op_mul (pe_op op_mod (pv 2) pe_int) pe_int)) pe_int) pe_int) (pg_sub (pv 0) pe_int set_list)))))))
        pss_nil)
      (pss_cons (ps_if (pt_cmpR op_gt (pe_ix ix_list (pv 0) pe_int (fun _ _ => rfl)) pe_int (nomark _))
        (pss_cons (ps_set (i := 3) scPull.nd rfl (Or.inl rfl) (pe_op op_mod (pe_ix ix_list (pv 0) pe_int (fun _ _ => rfl)) (pv 1)))
        (pss_cons (ps_asg (pe_op op_fdivW (pe_ix ix_list (pv 0) pe_int (fun _ _ => rfl)) (pv 1)) (pg_sub (pv 0) pe_int set_list))
        (pss_one (ps_ret (pv 3))))) pss_nil)
      (pss_cons (ps_set (i := 4) scPull.nd rfl (Or.inl rfl) (pe_ix ix_list (pv 0) pe_int (fun _ _ => rfl)))
      (pss_cons (ps_asg (pe_op op_mod (pe_op op_add (pe_op op_add (pe_op op_mul (pe_op op_mul (pv 4) (pv 4)) pe_int) (pe_op op_mul (pv 4) pe_int)) pe_int) pe_int) (pg_sub (pv 0) pe_int set_list))
      (pss_one (ps_ret (pe_op op_mod (pe_op op_add (pe_op op_fdiv (pe_ix ix_list (pv 0) pe_int (fun _ _ => rfl)) pe_int) (pe_op op_mul (pe_op op_mod (pe_ix ix_list (pv 0) pe_int (fun _ _ => rfl)) pe_int) pe_int)) (pv 1))))))), ?_⟩
    obtain ⟨o, ho, i, r, sa, rfl, hi, hr0, hs0, hs1⟩ := B.ob
    refine ⟨fun σ H' => ∃ (v2 : Option V) (o : HO), σ = [some (.ref b), some (.int m), v2, none, none] ∧ H' = upd H b o ∧ BagO l ns o, ?_, ?_⟩
    · refine ⟨_, rfl, b, _, _, _, rfl, rfl, SqL.of ho, at2, rfl, _, rfl, ?_⟩
      have stay : H = upd H b (.lst [.ref l, .int (i : Int), .int r, .int sa]) := (upd_self ho).symm
      refine ite2 (fun c => ?_) (fun c => ?_)
      · have c0 : r = 0 := by
          have c1 := of_decide_eq_true c
          injection c1
        subst c0
        refine ⟨_, rfl, b, _, _, _, rfl, rfl, SqL.of ho, at1, _, rfl, b, _, _, _, rfl, rfl, SqL.of ho, at0, l, _, rfl, .inl (SqL.of B.sc), _, _, rfl, rfl, _, rfl, ?_⟩
        rw [List.length_map]
        refine ite2 (fun c => ?_) (fun c => ?_)
        · have c1 : (i : Int) < (ns.length : Int) := of_decide_eq_true c
          have c2 : i < ns.length := by omega
          have g1 : (ns.map V.int)[i]? = some (.int ns[i]) := by
            rw [List.getElem?_map, List.getElem?_eq_getElem c2]
            rfl
          refine ⟨_, rfl, b, _, _, _, rfl, rfl, SqL.of ho, at0, _, rfl, b, _, _, _, rfl, rfl, SqL.of ho, at1, l, _, _, _, rfl, rfl, SqL.of B.sc, atI_nat g1, ?_⟩
          refine ⟨_, rfl, b, _, _, _, rfl, rfl, SqL.of ho, at1, _, _, rfl, rfl, _, rfl, b, _, _, 1, rfl, rfl, ho, rfl, ?_⟩
          refine ⟨_, rfl, _, _, rfl, rfl, ⟨by decide, by decide, by decide⟩, _, _, rfl, rfl, _, rfl, ?_⟩
          refine ite2 (fun c => ?_) (fun c => ?_)
          · have c3 : (10 : Int) ^ (18 : Int).toNat ≤ ns[i] := of_decide_eq_true c
            refine ⟨_, rfl, _, _, rfl, rfl, ⟨by decide, by decide, by decide⟩, _, _, rfl, rfl, _, rfl, b, _, _, 2, rfl, rfl, upd_same, rfl, ?_⟩
            refine ⟨_, _, rfl, upd_upd, i + 1, ns[i] - 10 ^ (18 : Int).toNat, sa, by rfl, by omega, by omega, hs0, hs1⟩
          · refine ⟨_, rfl, b, _, _, _, rfl, rfl, SqL.of upd_same, at3, _, _, rfl, rfl, .inl ⟨by omega, by omega⟩, _, rfl, _, _, rfl, rfl, (by show (0 : Int) < 2147483563; decide), _, _, rfl, rfl, .inl ⟨by omega, by omega⟩, _, _, rfl, rfl, _, _, rfl, rfl, _, _, rfl, rfl, (by show (0 : Int) < 2147483563; decide), _, rfl, b, _, _, 3, rfl, rfl, upd_same, rfl, ?_⟩
            refine ⟨_, _, rfl, upd_upd, i + 1, 0, _, by rfl, by omega, by omega, ?_, ?_⟩
            · exact Int.emod_nonneg _ (by decide)
            · exact Int.emod_lt_of_pos _ (by decide)
        · refine ⟨none, _, rfl, stay, i, 0, sa, rfl, hi, by omega, hs0, hs1⟩
      · refine iteF ?_
        exact ⟨none, _, rfl, stay, i, r, sa, rfl, hi, hr0, hs0, hs1⟩
    · rintro σ H' ⟨v2, o, rfl, rfl, i, r, sa, rfl, hi, hr0, hs0, hs1⟩
      refine ⟨_, rfl, b, _, _, _, rfl, rfl, SqL.of upd_same, at2, _, _, rfl, rfl, _, rfl, ?_⟩
      refine ite2 (fun c => ?_) (fun c => ?_)
      · have c1 : 0 < r := of_decide_eq_true c
        refine ⟨_, rfl, b, _, _, _, rfl, rfl, SqL.of upd_same, at2, _, rfl, _, _, rfl, rfl, hm, ?_⟩
        refine ⟨_, rfl, b, _, _, _, rfl, rfl, SqL.of upd_same, at2, _, rfl, _, _, rfl, rfl, wide_div hm (b := 100) (by omega) (by decide) (by decide), _, rfl, b, _, _, 2, rfl, rfl, upd_same, rfl, ?_⟩
        refine ⟨_, rfl, ?_⟩
        rw [upd_upd]
        refine q _ _ (Int.emod_nonneg _ (by omega)) (Int.emod_lt_of_pos _ hm) ⟨i, r / m, sa, rfl, hi, Int.ediv_nonneg hr0 (by omega), hs0, hs1⟩
      · refine ⟨_, rfl, b, _, _, _, rfl, rfl, SqL.of upd_same, at3, ?_⟩
        have hq : sa * sa < 2 ^ 64 := by
          have : sa * sa ≤ sa * 2147483563 := Int.mul_le_mul_of_nonneg_left (by omega) hs0
          omega
        have hq0 : 0 ≤ sa * sa := Int.mul_nonneg hs0 hs0
        refine ⟨_, rfl, _, rfl, _, _, rfl, rfl, .inl ⟨by omega, by omega⟩, _, _, rfl, rfl, .inl ⟨by omega, by omega⟩, _, rfl, _, _, rfl, rfl, .inl ⟨by omega, by omega⟩, _, _, rfl, rfl, _, _, rfl, rfl, _, _, rfl, rfl, (by show (0 : Int) < 2147483563; decide), _, rfl, b, _, _, 3, rfl, rfl, upd_same, rfl, ?_⟩
        rw [upd_upd]
        obtain ⟨x, hx⟩ : ∃ x : Int, (sa * sa * 3 + sa * 16807 + 1013904223) % 2147483563 = x := ⟨_, rfl⟩
        have x0 : 0 ≤ x := hx ▸ Int.emod_nonneg _ (by decide)
        have x1 : x < 2147483563 := hx ▸ Int.emod_lt_of_pos _ (by decide)
        refine ⟨_, rfl, b, _, _, _, rfl, rfl, SqL.of upd_same, at3, _, _, rfl, rfl, ⟨by decide, by decide⟩, _, rfl, b, _, _, _, rfl, rfl, SqL.of upd_same, at3, _, _, rfl, rfl, (by show (0 : Int) < 8191; decide), _, _, rfl, rfl, .inl ⟨by omega, by omega⟩, _, _, rfl, rfl, _, rfl, _, _, rfl, rfl, hm, ?_⟩
        exact q _ _ (Int.emod_nonneg _ (by omega)) (Int.emod_lt_of_pos _ hm) ⟨i, r, x, by rw [← hx]; rfl, hi, hr0, x0, x1⟩
end
end Lw
set_option Elab.async false
set_option linter.all false
set_option maxRecDepth 100000
namespace Lw
open PySem L2
abbrev sLike : Stmt := top 30
/-- the built-in names that the law's helpers ask for -/
structure Bi (mg : Str → Option Value) : Prop where
  len : mg "len" = none
  list : mg "list" = none
  tuple : mg "tuple" = none
  bool : mg "bool" = none
  int : mg "int" = none
  str : mg "str" = none
  isi : mg "isinstance" = none
  all : mg "all" = none
  zip : mg "zip" = none
  range : mg "range" = none
def spOf (K : PySem.W.Frag) : Sp := fun vs H Q _ => ∃ (b l t : Addr) (ns : List Int) (xs : List V), vs = [.ref b, .ref t] ∧ BagAt H b l ns ∧ SqL K H t xs ∧ t ≠ b ∧ xs ≠ [] ∧ xs.length ≤ 1000 ∧
  ∀ (i : Nat) (v : V) (o : HO), xs[i]? = some v → BagO l ns o → Q v (upd H b o)
theorem if_t {c : Bool} {A B : Prop} (hc : c = true) (h : A) : if c = true then A else B := by
  rw [if_pos hc]
  exact h
theorem if_f {c : Bool} {A B : Prop} (hc : c = false) (h : B) : if c = true then A else B := by
  rw [hc, if_neg Bool.false_ne_true]
  exact h
theorem cut_all {xs : List V} (h : xs.length ≤ 63) : cutV xs none (some 63) = xs := by
  unfold cutV
  rw [HT.sIx_none, show HT.sIx xs.length xs.length (some 63) = min 63 xs.length from HT.sIx_nat xs.length xs.length 63, Nat.min_eq_right h]
  simp
section
variable {P : Program} {w : World} {K : PySem.W.Frag} {mg : Str → Option Value} {base : Heap}
theorem SqL.upd_ne {H : Hp} {a b : Addr} {xs : List V} {o : HO} (h : SqL K H a xs) (e : a ≠ b) : SqL K (upd H b o) a xs := by
  unfold SqL Rd at h ⊢
  rw [L2.upd_ne e]
  exact h
/-! ### _law_bag -/
theorem scBag : FnScope ["_law_script", "_law_salt", "_law_cell"] ["_law_script"] (defScope sBag) := ⟨rfl, rfl, rfl, by decide +kernel, rfl, by decide +kernel, by decide +kernel⟩
set_option maxHeartbeats 4000000 in
theorem ok_bag {f : Addr} {fd : FuncData} {k : Nat} (F : Fun K "_law_bag" "_law_bag" sBag f fd) (T : Bi mg) : FnOk P w K mg base CX0 (k + 1) f fd ["_law_script"] (spBag K) := by
  refine F.ok scBag (fun vs H Q E h => ?_) (fun cdv A outer s H vs Q E hr h => ?_)
  · obtain ⟨b, ns, rfl, _⟩ := h
    rfl
  · obtain ⟨a, ns, rfl, hS, hl, q⟩ := h
    refine ⟨_, pss_cons (ps_set (i := 1) scBag.nd rfl (Or.inl rfl) pe_int)
      (pss_cons (ps_for PassesOwn.never rfl (pi_list (pe_slice sl_list (pv 0) po_none (po_some pe_int))) (pg_name (i := 2) scBag.nd rfl (Or.inl rfl))
        (pss_one (ps_set (i := 1) scBag.nd rfl (Or.inl rfl) (pe_op op_mod (pe_op op_add (pe_op op_add (pe_op op_mul (pv 1) pe_int) (pe_op op_mod (pv 2) pe_int)) pe_int) pe_int))))
      (pss_one (ps_ret (pe_lst (pa_cons (pe_callTy call_list_of (by rfl) T.list (by decide +kernel) (pa_cons (pe_slice sl_list (pv 0) po_none (po_some pe_int)) pa_nil)) (pa_cons pe_int (pa_cons pe_int (pa_cons (pv 1) pa_nil)))))))), ?_⟩
    have hl' : (ns.map V.int).length ≤ 63 := by rw [List.length_map]; exact hl
    refine ⟨_, rfl, _, rfl, a, _, rfl, hS, fun p hp => ?_⟩
    rw [cut_all hl']
    have s1 : Same H (upd H p (.lst (ns.map V.int))) := same_upd hp
    refine ⟨p, rfl, ⟨_, SqL.of upd_same⟩, for_list (K := K) (a := p) (xs := ns.map V.int) (fun i σ H' => ∃ (v : Option V) (sa : Int), σ = [some (.ref a), some (.int sa), v] ∧ H' = upd H p (.lst (ns.map V.int)) ∧ 0 ≤ sa ∧ sa < 2147483563)
      ⟨none, 3803, rfl, rfl, by decide, by decide⟩ (fun i σ H' _ ⟨_, _, _, e, _⟩ => by subst e; exact SqL.of upd_same) ?_ ?_⟩
    · rintro i y σ H' hi ⟨v, sa, rfl, rfl, h0, h1⟩
      obtain ⟨z, rfl⟩ : ∃ z, y = V.int z := by
        rw [List.getElem?_map] at hi
        cases e : ns[i]? with
        | none =>
          rw [e] at hi
          cases hi
        | some z =>
          rw [e] at hi
          exact ⟨z, (Option.some.inj hi).symm⟩
      refine ⟨_, rfl, _, _, rfl, rfl, .inl ⟨by omega, by omega⟩, _, rfl, _, _, rfl, rfl, (by show (0 : Int) < 2147483563; decide), _, _, rfl, rfl, _, _, rfl, rfl, _, _, rfl, rfl, (by show (0 : Int) < 2147483563; decide), ?_⟩
      exact ⟨_, _, rfl, rfl, Int.emod_nonneg _ (by decide), Int.emod_lt_of_pos _ (by decide)⟩
    · rintro σ H' ⟨v, sa, rfl, rfl, h0, h1⟩
      refine ⟨_, rfl, _, rfl, a, _, rfl, s1.seq hS, fun p2 hp2 => ?_⟩
      rw [cut_all hl']
      refine ⟨p2, _, rfl, .inl (SqL.of upd_same), fun l hl2 => ?_⟩
      have s2 := s1.trans (same_upd (o := .lst (ns.map V.int)) hp2)
      have s3 := s2.trans (same_upd (o := .lst (ns.map V.int)) hl2)
      refine ⟨_, rfl, (by show 4 ≤ sizeLine; decide), fun b hb => ?_⟩
      have nl : H l = none := s2.free hl2
      have nb : H b = none := s3.free hb
      have lb : l ≠ b := fun e => by
        rw [← e, upd_same] at hb
        cases hb
      refine q b l _ (s3.trans (same_upd hb)) nb nl ⟨⟨_, upd_same, 0, 0, sa, rfl, Nat.zero_le _, by decide, h0, h1⟩, ?_, hl⟩
      rw [upd_ne lb, upd_same]
/-! ### _law_of -/
theorem scOf : FnScope ["_law_bag_here", "_law_things"] ["_law_bag_here", "_law_things"] (defScope sOf) := ⟨rfl, rfl, rfl, by decide +kernel, rfl, by decide +kernel, by decide +kernel⟩
set_option maxHeartbeats 4000000 in
theorem ok_of {f : Addr} {fd : FuncData} {k : Nat} (F : Fun K "_law_of" "_law_of" sOf f fd) (T : Bi mg) (cP : C8.Cal P w K mg base 1 "_law_pull" spPull []) : FnOk P w K mg base CX0 (k + 2) f fd ["_law_bag_here", "_law_things"] (spOf K) := by
  refine F.ok scOf (fun vs H Q E h => ?_) (fun cdv A outer s H vs Q E hr h => ?_)
  · obtain ⟨b, l, t, ns, xs, rfl, _⟩ := h
    rfl
  · obtain ⟨b, l, t, ns, xs, rfl, B, hS, ne, nn, hl, q⟩ := h
    refine ⟨_, pss_one (ps_ret (pe_ix ix_list (pv 1) (C8.pe_c cP hr (Nat.le_add_left 1 k) (by rfl) (pa_cons (pv 0) (pa_cons (pe_callB call_len_seq (by rfl) T.len PySem.boot_len (pa_cons (pv 1) pa_nil)) pa_nil))) (fun _ _ => rfl))), ?_⟩
    have l0 : 0 < xs.length := List.length_pos_iff.mpr nn
    refine ⟨_, rfl, _, rfl, _, rfl, t, xs, rfl, .inl hS, b, l, ns, _, rfl, B, by omega, by omega, fun v o v0 v1 BO => ?_⟩
    have hv : v.toNat < xs.length := by omega
    have hvv : ((v.toNat : Nat) : Int) = v := Int.toNat_of_nonneg v0
    have g : atI xs v = some xs[v.toNat] := by
      have := atI_nat (xs := xs) (j := v.toNat) (v := xs[v.toNat]) (List.getElem?_eq_getElem hv)
      rw [hvv] at this
      exact this
    exact ⟨t, xs, v, _, rfl, rfl, SqL.upd_ne hS ne, g, q v.toNat _ o (List.getElem?_eq_getElem hv) BO⟩
/-! ### _law_like of like things is True -/
def atomV : V → Bool
  | .non => true
  | .bl _ => true
  | .int _ => true
  | .str _ => true
  | _ => false
def Lk (H : Hp) : Nat → V → V → Prop
  | 0, _, _ => False
  | n + 1, x, y => (x = y ∧ atomV x = true) ∨
    (∃ (a b : Addr) (xs ys : List V), x = .ref a ∧ y = .ref b ∧ H a = some (.lst xs) ∧ H b = some (.lst ys) ∧ xs.length = ys.length ∧ xs.length ≤ 1000 ∧ ∀ (i : Nat) u v, xs[i]? = some u → ys[i]? = some v → Lk H n u v) ∨
    (∃ (a b : Addr) (xs ys : List V), x = .ref a ∧ y = .ref b ∧ H a = some (.tup xs) ∧ H b = some (.tup ys) ∧ xs.length = ys.length ∧ xs.length ≤ 1000 ∧ ∀ (i : Nat) u v, xs[i]? = some u → ys[i]? = some v → Lk H n u v)
theorem Lk.same {H H' : Hp} (s : Same H H') : ∀ (n : Nat) (x y : V), Lk H n x y → Lk H' n x y
  | 0, _, _, h => h
  | n + 1, x, y, h => by
    rcases h with h | ⟨a, b, xs, ys, e1, e2, e3, e4, e5, e6, h⟩ | ⟨a, b, xs, ys, e1, e2, e3, e4, e5, e6, h⟩
    · exact .inl h
    · exact .inr (.inl ⟨a, b, xs, ys, e1, e2, s _ _ e3, s _ _ e4, e5, e6, fun i u v h1 h2 => Lk.same s n u v (h i u v h1 h2)⟩)
    · exact .inr (.inr ⟨a, b, xs, ys, e1, e2, s _ _ e3, s _ _ e4, e5, e6, fun i u v h1 h2 => Lk.same s n u v (h i u v h1 h2)⟩)
def spLike (n : Nat) : Sp := fun vs H Q _ => ∃ x y, vs = [x, y] ∧ Lk H n x y ∧ ∀ H', Same H H' → Q (.bl true) H'
theorem scLike : FnScope ["_law_found", "_law_due", "_law_one", "_law_other"] ["_law_found", "_law_due"] (defScope sLike) := ⟨rfl, rfl, rfl, by decide +kernel, rfl, by decide +kernel, by decide +kernel⟩
theorem walk_zipT {a b : Addr} {xs ys : List V} {n : Nat} (hn : n = min xs.length ys.length) : Walk (RZ.ItzT K a b) n (fun H => SqT K H a xs ∧ SqT K H b ys) (YPair (fun i => xs[i]?) (fun i => ys[i]?)) := by
  subst hn
  refine ⟨fun i H hi q => ?_, fun H q => ?_, fun i H x H' hi q y => ?_⟩
  · have h1 : i < xs.length := by omega
    have h2 : i < ys.length := by omega
    exact ⟨xs, ys, xs[i], ys[i], q.1, q.2, by simp [h1], by simp [h2]⟩
  · exact ⟨xs, ys, q.1, q.2, by omega⟩
  · obtain ⟨T, u, v, e1, e2, e3, g1, g2⟩ := y
    exact ⟨T, u, v, e1, e2, e3, g1 xs q.1, g2 ys q.2⟩
/-- what the law asks of an atom: its type's name -/
def tyV : V → String
  | .non => "NoneType"
  | .bl _ => "bool"
  | .int _ => "int"
  | .str _ => "str"
  | _ => "none"
theorem tyV_of {H : Hp} {x : V} (h : atomV x = true) : TyX K H x (.type (tyV x)) := by
  cases x with
  | non => exact .base .non
  | bl b => exact .base (.bl b)
  | int i => exact .base (.int i)
  | str z => exact .base (.str z)
  | _ => cases h
theorem tyV_cases {x : V} (h : atomV x = true) : tyV x = "NoneType" ∨ tyV x = "bool" ∨ tyV x = "int" ∨ tyV x = "str" := by
  cases x with
  | non => exact .inl rfl
  | bl b => exact .inr (.inl rfl)
  | int i => exact .inr (.inr (.inl rfl))
  | str z => exact .inr (.inr (.inr rfl))
  | _ => cases h
/-- isinstance of an atom: some answer, by the type alone -/
def isB (x : V) (T : String) : Bool := (kitB (tyV x) T).getD false
theorem isB_of {x : V} {T : String} (h : atomV x = true) (hT : T = "list" ∨ T = "tuple" ∨ T = "bool" ∨ T = "int" ∨ T = "str") : PySem.W.kitOne K (.type (tyV x)) (.type T) = some (isB x T) := by
  refine kit_ty ?_
  unfold isB
  rcases tyV_cases h with e | e | e | e <;> rw [e] <;> rcases hT with e | e | e | e | e <;> rw [e] <;> decide +kernel
theorem isB_no {x : V} (h : atomV x = true) : PySem.W.kitAny K (.type (tyV x)) [.type "list", .type "tuple"] = some false := by
  rcases tyV_cases h with e | e | e | e <;> rw [e]
  all_goals
    refine kitAny_cons (b := false) (kit_ty (by decide +kernel)) (fun _ => ?_) (fun z => by cases z)
    refine kitAny_cons (b := false) (kit_ty (by decide +kernel)) (fun _ => rfl) (fun z => by cases z)
theorem all_true (n : Nat) : (List.replicate n true).all id = true := by
  rw [List.all_replicate]
  simp
theorem like0 {f : Addr} {fd : FuncData} {k : Nat} (F : Fun K "_law_like" "_law_like" sLike f fd) : FnOk P w K mg base CX0 (k + 1) f fd ["_law_found", "_law_due"] (spLike 0) := by
  refine F.ok scLike (fun vs H Q E h => ?_) (fun cdv A outer s H vs Q E hr h => ?_)
  · obtain ⟨x, y, rfl, _⟩ := h
    rfl
  · obtain ⟨x, y, rfl, L, q⟩ := h
    exact L.elim
set_option maxHeartbeats 8000000 in
theorem ok_like {f : Addr} {fd : FuncData} {n k : Nat} (F : Fun K "_law_like" "_law_like" sLike f fd) (T : Bi mg) (c : 0 < n → C8.Cal P w K mg base (k + 1) "_law_like" (spLike (n - 1)) []) : FnOk P w K mg base CX0 (k + 2) f fd ["_law_found", "_law_due"] (spLike n) := by
  refine F.ok scLike (fun vs H Q E h => ?_) (fun cdv A outer s H vs Q E hr h => ?_)
  · obtain ⟨x, y, rfl, _⟩ := h
    rfl
  · obtain ⟨x, y, rfl, L, q⟩ := h
    cases n with
    | zero => exact L.elim
    | succ n =>
      have cc := c (Nat.succ_pos n)
      refine ⟨_, pss_cons (ps_if (pt_val (pe_callB call_isiT (by rfl) T.isi (by decide +kernel) (pa_cons (pv 1) (pa_cons (pe_tup (pa_cons (pe_bltn (v := .ty "list") (by rfl) T.list (by decide +kernel) rfl) (pa_cons (pe_bltn (v := .ty "tuple") (by rfl) T.tuple (by decide +kernel) rfl) pa_nil))) pa_nil))))
          (pss_cons (ps_if (PW.pt (pw_or (pt_cmpR op_ne (pe_callB call_isi (by rfl) T.isi (by decide +kernel) (pa_cons (pv 0) (pa_cons (pe_bltn (v := .ty "list") (by rfl) T.list (by decide +kernel) rfl) pa_nil))) (pe_callB call_isi (by rfl) T.isi (by decide +kernel) (pa_cons (pv 1) (pa_cons (pe_bltn (v := .ty "list") (by rfl) T.list (by decide +kernel) rfl) pa_nil))) (nomark _))
              (pw_or1 (pt_cmpR op_ne (pe_callB call_isi (by rfl) T.isi (by decide +kernel) (pa_cons (pv 0) (pa_cons (pe_bltn (v := .ty "tuple") (by rfl) T.tuple (by decide +kernel) rfl) pa_nil))) (pe_callB call_isi (by rfl) T.isi (by decide +kernel) (pa_cons (pv 1) (pa_cons (pe_bltn (v := .ty "tuple") (by rfl) T.tuple (by decide +kernel) rfl) pa_nil))) (nomark _))))) (pss_one (ps_ret pe_bl)) pss_nil)
          (pss_one (ps_ret (pe_and (pe_cmpR op_eq (pe_callB call_len_seq (by rfl) T.len PySem.boot_len (pa_cons (pv 0) pa_nil)) (pe_callB call_len_seq (by rfl) T.len PySem.boot_len (pa_cons (pv 1) pa_nil)) (nomark _))
            (pe_one (pe_callB (cr_all rfl) (by rfl) T.all (by decide +kernel) (pa_cons
              (pe_lc (own := [("_law_one", 2), ("_law_other", 3)]) (g := gTup K 2 (gCons (gName 2) (gCons (gName 3) gNil))) (tt := tYes) (te := tCall (spLike n) [] E0 (tCons (tVar 2) (tCons (tVar 3) tNil))) rfl scLike.nd (RZ.pi_zipA (by rfl) T.zip (pa_cons (pv 0) (pa_cons (pv 1) pa_nil)))
                (blkOk_by (N := ["_law_found", "_law_due", "_law_one", "_law_other"]) (sc := defScope sLike) (by decide +kernel))
                (fun _ _ _ _ _ => by exact pg_tup rfl (pgs_cons (pg_name (i := 2) scLike.nd rfl (Or.inl rfl)) (pgs_cons (pg_name (i := 3) scLike.nd rfl (Or.inl rfl)) pgs_nil)))
                (fun _ _ _ _ _ => pts_nil)
                (fun _ _ _ _ _ => by exact C8.pe_c cc hr (Nat.le_refl _) (by rfl) (pa_cons (pv 2) (pa_cons (pv 3) pa_nil)))) pa_nil))))))) pss_nil)
        (pss_cons (ps_if (PW.pt (pw_or (pt_cmpR op_isN (pv 0) pe_non (nomark _)) (pw_or1 (pt_cmpR op_isN (pv 1) pe_non (nomark _))))) (pss_one (ps_ret (pe_and (pe_cmpR op_isN (pv 0) pe_non (nomark _)) (pe_one (pe_cmpR op_isN (pv 1) pe_non (nomark _)))))) pss_nil)
        (pss_cons (ps_if (PW.pt (pw_or (pt_cmpR op_ne (pe_callB call_isi (by rfl) T.isi (by decide +kernel) (pa_cons (pv 0) (pa_cons (pe_bltn (v := .ty "bool") (by rfl) T.bool (by decide +kernel) rfl) pa_nil))) (pe_callB call_isi (by rfl) T.isi (by decide +kernel) (pa_cons (pv 1) (pa_cons (pe_bltn (v := .ty "bool") (by rfl) T.bool (by decide +kernel) rfl) pa_nil))) (nomark _))
              (pw_or1 (pt_cmpR op_ne (pe_callB call_isi (by rfl) T.isi (by decide +kernel) (pa_cons (pv 0) (pa_cons (pe_bltn (v := .ty "int") (by rfl) T.int (by decide +kernel) rfl) pa_nil))) (pe_callB call_isi (by rfl) T.isi (by decide +kernel) (pa_cons (pv 1) (pa_cons (pe_bltn (v := .ty "int") (by rfl) T.int (by decide +kernel) rfl) pa_nil))) (nomark _))))) (pss_one (ps_ret pe_bl)) pss_nil)
        (pss_one (ps_ret (pe_and (pe_cmpR op_eq (pe_callB call_isi (by rfl) T.isi (by decide +kernel) (pa_cons (pv 0) (pa_cons (pe_bltn (v := .ty "str") (by rfl) T.str (by decide +kernel) rfl) pa_nil))) (pe_callB call_isi (by rfl) T.isi (by decide +kernel) (pa_cons (pv 1) (pa_cons (pe_bltn (v := .ty "str") (by rfl) T.str (by decide +kernel) rfl) pa_nil))) (nomark _)) (pe_one (pe_cmpR op_eq (pv 0) (pv 1) (nomark _)))))))), ?_⟩
      rcases L with ⟨rfl, ha⟩ | ⟨a, b, xs, ys, rfl, rfl, ea, eb, hl, h1000, hp⟩ | ⟨a, b, xs, ys, rfl, rfl, ea, eb, hl, h1000, hp⟩
      · refine ⟨_, rfl, (by show 2 ≤ sizeLine; decide), fun t ht => ?_⟩
        have s1 := same_upd (o := .tup [.ty "list", .ty "tuple"]) ht
        refine ⟨x, t, _, _, _, _, rfl, upd_same, .cons (.ty _) (.cons (.ty _) .nil), tyV_of ha, isB_no ha, false, rfl, ?_⟩
        refine iteF ?_
        refine ⟨_, rfl, rfl, _, rfl, ?_⟩
        by_cases hx : x = .non
        · subst hx
          refine if_t (decide_eq_true rfl) (iteT ?_)
          exact ⟨_, rfl, rfl, _, rfl, if_t (decide_eq_true rfl) ⟨_, rfl, rfl, q _ s1⟩⟩
        · refine if_f (decide_eq_false hx) ⟨_, rfl, rfl, _, rfl, if_f (decide_eq_false hx) ?_⟩
          refine ⟨_, rfl, x, _, _, _, _, rfl, .ty _, tyV_of ha, isB_of ha (by simp), _, rfl, x, _, _, _, _, rfl, .ty _, tyV_of ha, isB_of ha (by simp), rfl, _, rfl, ?_⟩
          refine if_f (by simp) ?_
          refine ⟨_, rfl, x, _, _, _, _, rfl, .ty _, tyV_of ha, isB_of ha (by simp), _, rfl, x, _, _, _, _, rfl, .ty _, tyV_of ha, isB_of ha (by simp), rfl, _, rfl, ?_⟩
          refine if_f (by simp) ?_
          refine ⟨_, rfl, x, _, _, _, _, rfl, .ty _, tyV_of ha, isB_of ha (by simp), _, rfl, x, _, _, _, _, rfl, .ty _, tyV_of ha, isB_of ha (by simp), rfl, _, rfl, ?_⟩
          refine if_t (by simp) ?_
          refine ⟨_, rfl, _, rfl, ?_, ?_⟩
          · cases x <;> first | rfl | (cases ha)
          · rw [decide_eq_true rfl]
            exact q _ s1
      · refine ⟨_, rfl, (by show 2 ≤ sizeLine; decide), fun t ht => ?_⟩
        have s1 := same_upd (o := .tup [.ty "list", .ty "tuple"]) ht
        have ea1 := s1 _ _ ea
        have eb1 := s1 _ _ eb
        refine ⟨.ref b, t, _, _, _, _, rfl, upd_same, .cons (.ty _) (.cons (.ty _) .nil), .base (.lst eb1), kitAny_cons (b := true) (kit_ty (by decide +kernel)) (fun z => by cases z) (fun _ => rfl), true, rfl, ?_⟩
        refine iteT ?_
        refine ⟨_, rfl, _, _, _, _, true, rfl, .ty _, .base (.lst ea1), kit_ty (by decide +kernel), _, rfl, _, _, _, _, true, rfl, .ty _, .base (.lst eb1), kit_ty (by decide +kernel), rfl, _, rfl, ?_⟩
        refine if_f (by simp) ?_
        refine ⟨_, rfl, _, _, _, _, false, rfl, .ty _, .base (.lst ea1), kit_ty (by decide +kernel), _, rfl, _, _, _, _, false, rfl, .ty _, .base (.lst eb1), kit_ty (by decide +kernel), rfl, _, rfl, ?_⟩
        refine if_f (by simp) ?_
        refine ⟨_, rfl, a, xs, rfl, .inl (SqL.of ea1), _, rfl, b, ys, rfl, .inl (SqL.of eb1), rfl, _, rfl, ?_⟩
        refine if_t (by rw [hl]; exact decide_eq_true rfl) ?_
        refine ⟨_, rfl, _, rfl, a, b, xs, ys, rfl, .inl ⟨SqL.of ea1, SqL.of eb1, fun D hD => ?_⟩⟩
        have s2 := s1.trans (same_upd (o := .lst []) hD)
        refine lc_it (walk_zip (K := K) (a := a) (b := b) (xs := xs) (ys := ys) (n := xs.length) (by omega)) (fun i H' => Same H H' ∧ H' D = some (.lst ((List.replicate i true).map V.bl))) ⟨s2, upd_same⟩ (fun i H' _ p => ⟨SqL.of (p.1 _ _ ea), SqL.of (p.1 _ _ eb)⟩) ?_ ?_
        · rintro i v H1 H' hi ⟨sm, eD⟩ ⟨T, x, y, rfl, hT, rfl, gx, gy⟩
          have s3 := sm.trans (same_upd (o := .tup [x, y]) hT)
          refine ⟨T, _, rfl, SqT.of upd_same, rfl, _, _, rfl, _, _, rfl, rfl, rfl, ?_⟩
          refine ⟨_, rfl, _, rfl, x, y, rfl, Lk.same s3 n _ _ (hp i x y gx gy), fun H4 s4 => ?_⟩
          have eD4 : H4 D = some (.lst ((List.replicate i true).map V.bl)) := s4 _ _ (by rw [upd_ne (ne_of_none eD hT)]; exact eD)
          have nD : H D = none := s1.free hD
          refine ⟨_, eD4, ?_, ?_, ?_⟩
          · rw [List.length_map, List.length_replicate]
            exact small1000 (by omega)
          · intro c o ec
            rw [upd_ne (ne_of_none ec nD)]
            exact s4 _ _ (s3 _ _ ec)
          · rw [upd_same, List.replicate_succ', List.map_append]
            rfl
        · rintro H' ⟨sm, eD⟩
          refine ⟨D, List.replicate xs.length true, rfl, SqL.of eD, ?_⟩
          rw [all_true]
          exact q H' sm
      · refine ⟨_, rfl, (by show 2 ≤ sizeLine; decide), fun t ht => ?_⟩
        have s1 := same_upd (o := .tup [.ty "list", .ty "tuple"]) ht
        have ea1 := s1 _ _ ea
        have eb1 := s1 _ _ eb
        refine ⟨.ref b, t, _, _, _, _, rfl, upd_same, .cons (.ty _) (.cons (.ty _) .nil), .base (.tup eb1), kitAny_cons (b := false) (kit_ty (by decide +kernel)) (fun _ => kitAny_cons (b := true) (kit_ty (by decide +kernel)) (fun z => by cases z) (fun _ => rfl)) (fun z => by cases z), true, rfl, ?_⟩
        refine iteT ?_
        refine ⟨_, rfl, _, _, _, _, false, rfl, .ty _, .base (.tup ea1), kit_ty (by decide +kernel), _, rfl, _, _, _, _, false, rfl, .ty _, .base (.tup eb1), kit_ty (by decide +kernel), rfl, _, rfl, ?_⟩
        refine if_f (by simp) ?_
        refine ⟨_, rfl, _, _, _, _, true, rfl, .ty _, .base (.tup ea1), kit_ty (by decide +kernel), _, rfl, _, _, _, _, true, rfl, .ty _, .base (.tup eb1), kit_ty (by decide +kernel), rfl, _, rfl, ?_⟩
        refine if_f (by simp) ?_
        refine ⟨_, rfl, a, xs, rfl, .inr (SqT.of ea1), _, rfl, b, ys, rfl, .inr (SqT.of eb1), rfl, _, rfl, ?_⟩
        refine if_t (by rw [hl]; exact decide_eq_true rfl) ?_
        refine ⟨_, rfl, _, rfl, a, b, xs, ys, rfl, .inr ⟨SqT.of ea1, SqT.of eb1, fun D hD => ?_⟩⟩
        have s2 := s1.trans (same_upd (o := .lst []) hD)
        refine lc_it (walk_zipT (K := K) (a := a) (b := b) (xs := xs) (ys := ys) (n := xs.length) (by omega)) (fun i H' => Same H H' ∧ H' D = some (.lst ((List.replicate i true).map V.bl))) ⟨s2, upd_same⟩ (fun i H' _ p => ⟨SqT.of (p.1 _ _ ea), SqT.of (p.1 _ _ eb)⟩) ?_ ?_
        · rintro i v H1 H' hi ⟨sm, eD⟩ ⟨T, x, y, rfl, hT, rfl, gx, gy⟩
          have s3 := sm.trans (same_upd (o := .tup [x, y]) hT)
          refine ⟨T, _, rfl, SqT.of upd_same, rfl, _, _, rfl, _, _, rfl, rfl, rfl, ?_⟩
          refine ⟨_, rfl, _, rfl, x, y, rfl, Lk.same s3 n _ _ (hp i x y gx gy), fun H4 s4 => ?_⟩
          have eD4 : H4 D = some (.lst ((List.replicate i true).map V.bl)) := s4 _ _ (by rw [upd_ne (ne_of_none eD hT)]; exact eD)
          have nD : H D = none := s1.free hD
          refine ⟨_, eD4, ?_, ?_, ?_⟩
          · rw [List.length_map, List.length_replicate]
            exact small1000 (by omega)
          · intro c o ec
            rw [upd_ne (ne_of_none ec nD)]
            exact s4 _ _ (s3 _ _ ec)
          · rw [upd_same, List.replicate_succ', List.map_append]
            rfl
        · rintro H' ⟨sm, eD⟩
          refine ⟨D, List.replicate xs.length true, rfl, SqL.of eD, ?_⟩
          rw [all_true]
          exact q H' sm
end
end Lw
set_option Elab.async false
set_option linter.all false
set_option maxRecDepth 100000
namespace Lw
open PySem L2
abbrev sPlan : Stmt := top 31
/-! ### edges: their tuples' places, and their two ends -/
abbrev Es := List (Addr × Int × Int)
def Ed (H : Hp) (ts : Es) : Prop := ∀ e ∈ ts, H e.1 = some (.tup [.int e.2.1, .int e.2.2])
def vsOf (ts : Es) : List V := ts.map fun e => .ref e.1
def psOf (ts : Es) : List (Int × Int) := ts.map (·.2)
/-- all that stood, but at b, stands -/
def KeepB (b : Addr) (H H' : Hp) : Prop := ∀ c o, c ≠ b → H c = some o → H' c = some o
theorem KeepB.rfl' {b : Addr} {H : Hp} : KeepB b H H := fun _ _ _ e => e
theorem KeepB.trans {b : Addr} {H H1 H2 : Hp} (x : KeepB b H H1) (y : KeepB b H1 H2) : KeepB b H H2 := fun c o n e => y c o n (x c o n e)
theorem KeepB.of_same {b : Addr} {H H' : Hp} (s : Same H H') : KeepB b H H' := fun c o _ e => s c o e
theorem KeepB.updb {b : Addr} {H : Hp} {o : HO} : KeepB b H (upd H b o) := fun c o n e => by
  rw [upd_ne n]
  exact e
theorem KeepB.new {b p : Addr} {H H' : Hp} {o : HO} (x : KeepB b H H') (n : H' p = none) : KeepB b H (upd H' p o) := x.trans (.of_same (same_upd n))
/-- a store at what was not there at first -/
theorem KeepB.at {b p : Addr} {H H' : Hp} {o : HO} (x : KeepB b H H') (n : H p = none) : KeepB b H (upd H' p o) := fun c o' nb e => by
  rw [upd_ne (ne_of_none e n)]
  exact x c o' nb e
theorem KeepB.free {b p : Addr} {H H' : Hp} {ob : HO} (x : KeepB b H H') (hb : H' b = some ob) (n : H' p = none) : H p = none := by
  cases e : H p with
  | none => rfl
  | some o =>
    have np : p ≠ b := fun z => by
      rw [z, hb] at n
      cases n
    rw [x p o np e] at n
    cases n
theorem BagAt.at_b {H : Hp} {b l : Addr} {ns : List Int} (B : BagAt H b l ns) : ∃ xs, H b = some (.lst xs) := by
  obtain ⟨o, ho, i, r, s, rfl, _⟩ := B.ob
  exact ⟨_, ho⟩
theorem BagAt.ne_tup {H : Hp} {b l c : Addr} {ns : List Int} {xs : List V} (B : BagAt H b l ns) (h : H c = some (.tup xs)) : c ≠ b := fun e => by
  obtain ⟨ys, hb⟩ := B.at_b
  rw [e, hb] at h
  cases h
theorem BagAt.ne_ins {H : Hp} {b l c C dx : Addr} {ns : List Int} {fs : List (Str × V)} (B : BagAt H b l ns) (h : H c = some (.ins C dx fs)) : c ≠ b := fun e => by
  obtain ⟨ys, hb⟩ := B.at_b
  rw [e, hb] at h
  cases h
theorem BagAt.ne_new {H : Hp} {b l c : Addr} {ns : List Int} (B : BagAt H b l ns) (h : H c = none) : c ≠ b := fun e => by
  obtain ⟨ys, hb⟩ := B.at_b
  rw [e, hb] at h
  cases h
theorem vsOf_cons_ne {l : Addr} {ts : Es} {i : Nat} {r s : Int} : vsOf ts ≠ [.ref l, .int (i : Int), .int r, .int s] := fun e => by
  have h : (vsOf ts)[1]? = some (V.int (i : Int)) := by rw [e]; rfl
  unfold vsOf at h
  rw [List.getElem?_map] at h
  cases g : ts[1]? with
  | none => rw [g] at h; cases h
  | some x => rw [g] at h; cases h
theorem BagAt.ne_vs {H : Hp} {b l c : Addr} {ns : List Int} {ts : Es} (B : BagAt H b l ns) (h : H c = some (.lst (vsOf ts))) : c ≠ b := fun e => by
  obtain ⟨o, ho, i, r, s, rfl, _⟩ := B.ob
  rw [e, ho] at h
  injection h with h
  injection h with h
  exact vsOf_cons_ne h.symm
theorem Ed.keep {H H' : Hp} {b l : Addr} {ns : List Int} {ts : Es} (h : Ed H ts) (B : BagAt H b l ns) (k : KeepB b H H') : Ed H' ts := fun e he => k _ _ (B.ne_tup (h e he)) (h e he)
theorem Ed.same {H H' : Hp} {ts : Es} (h : Ed H ts) (k : Same H H') : Ed H' ts := fun e he => k _ _ (h e he)
theorem Ed.app {H : Hp} {ts us : Es} (h : Ed H ts) (h2 : Ed H us) : Ed H (ts ++ us) := fun e he => (List.mem_append.mp he).elim (h e) (h2 e)
theorem Ed.nil {H : Hp} : Ed H [] := fun e he => nomatch he
theorem Ed.one {H : Hp} {t : Addr} {x y : Int} (h : H t = some (.tup [.int x, .int y])) : Ed H [(t, x, y)] := fun e he => by
  have z := List.mem_singleton.mp he
  subst z
  exact h
/-- the bag where all but the bag stands -/
theorem BagAt.new {H : Hp} {b l p : Addr} {ns : List Int} {o : HO} (B : BagAt H b l ns) (n : H p = none) : BagAt (L2.upd H p o) b l ns := B.same (same_upd n)
theorem BagAt.off {H : Hp} {b l p : Addr} {ns : List Int} {o : HO} (B : BagAt H b l ns) (nb : p ≠ b) (nl : p ≠ l) : BagAt (L2.upd H p o) b l ns := by
  obtain ⟨ob, hob, hB⟩ := B.ob
  exact ⟨⟨ob, by rw [upd_ne nb.symm]; exact hob, hB⟩, by rw [upd_ne nl.symm]; exact B.sc, B.ln⟩
structure Valid (n : Int) (ts : Es) : Prop where
  rg : ∀ e ∈ ts, 0 ≤ e.2.1 ∧ e.2.1 < n ∧ 0 ≤ e.2.2 ∧ e.2.2 < n
  sr : ∀ k : Int, 0 ≤ k → k < n → ∃ e ∈ ts, e.2.1 = k
structure PlanAt (H : Hp) (p q : Addr) (n : Int) (ts : Es) : Prop where
  tp : H p = some (.tup [.int n, .ref q])
  ls : H q = some (.lst (vsOf ts))
  ed : Ed H ts
  va : Valid n ts
  n1 : 1 ≤ n
def spPlan : Sp := fun vs H Q _ => ∃ (b l : Addr) (ns : List Int) (most many : Int), vs = [.ref b, .int most, .int many] ∧ BagAt H b l ns ∧ 1 ≤ most ∧ most ≤ many ∧ many ≤ 100 ∧
  ∀ (p q : Addr) (n : Int) (ts : Es) (H' : Hp), KeepB b H H' → BagAt H' b l ns → H p = none → H q = none → PlanAt H' p q n ts → n ≤ most → (ts.length : Int) ≤ many → Q (.ref p) H'
theorem cut_lo {xs : List V} {k : Nat} (h : k ≤ xs.length) : cutV xs none (some (k : Int)) = xs.take k := by
  unfold cutV
  rw [HT.sIx_none, HT.sIx_nat, Nat.min_eq_left h]
  simp
theorem cut_hi {xs : List V} {k : Nat} (h : k ≤ xs.length) : cutV xs (some (k : Int)) none = xs.drop k := by
  unfold cutV
  rw [HT.sIx_none, HT.sIx_nat, Nat.min_eq_left h]
  rw [List.take_of_length_le]
  rw [List.length_drop]
  exact Nat.le_refl _
section
variable {P : Program} {w : World} {K : PySem.W.Frag} {mg : Str → Option Value} {base : Heap}
theorem scPlan : FnScope ["_law_bag_here", "_law_most", "_law_many", "_law_size", "_law_pairs", "_law_k", "_law_at", "_law_state"] ["_law_bag_here", "_law_most", "_law_many"] (defScope sPlan) := ⟨rfl, rfl, rfl, by decide +kernel, rfl, by decide +kernel, by decide +kernel⟩
set_option maxHeartbeats 8000000 in
theorem ok_plan {f : Addr} {fd : FuncData} {k : Nat} (F : Fun K "_law_plan" "_law_plan" sPlan f fd) (T : Bi mg) (cP : C8.Cal P w K mg base 1 "_law_pull" spPull []) : FnOk P w K mg base CX0 (k + 2) f fd ["_law_bag_here", "_law_most", "_law_many"] spPlan := by
  refine F.ok scPlan (fun vs H Q E h => ?_) (fun cdv A outer s H vs Q E hr h => ?_)
  · obtain ⟨b, l, ns, m1, m2, rfl, _⟩ := h
    rfl
  · obtain ⟨b, l, ns, most, many, rfl, B, hm1, hm2, hm3, q⟩ := h
    have hk : 1 ≤ k + 1 := Nat.le_add_left 1 k
    refine ⟨_, pss_cons (ps_set (i := 3) scPlan.nd rfl (Or.inr rfl) (pe_op op_add pe_int (C8.pe_c cP hr hk (by rfl) (pa_cons (pv 0) (pa_cons (pv 1) pa_nil)))))
      (pss_cons (ps_setLc (i := 4) (own := [("_law_state", 7)]) (g := gName 7) (tt := tYes) (te := tTup (tCons (tVar 7) (tCons (tCall spPull [] E0 (tCons (tVar 0) (tCons (tVar 3) tNil))) tNil))) rfl scPlan.nd rfl rfl (sw_true rfl rfl rfl (by decide +kernel))
          (pi_range1 (by rfl) T.range (pa_cons (pv 3) pa_nil))
          (blkOk_by (N := ["_law_bag_here", "_law_most", "_law_many", "_law_size", "_law_pairs", "_law_k", "_law_at", "_law_state"]) (sc := defScope sPlan) (by decide +kernel))
          (fun _ _ _ _ _ => by exact pg_name (i := 7) scPlan.nd rfl (Or.inl rfl))
          (fun _ _ _ _ _ => pts_nil)
          (fun _ _ _ _ _ => by exact pe_tup (pa_cons (pv 7) (pa_cons (C8.pe_c cP hr hk (by rfl) (pa_cons (pv 0) (pa_cons (pv 3) pa_nil))) pa_nil))))
      (pss_cons (ps_for PassesOwn.never rfl (pi_range1 (by rfl) T.range (pa_cons (C8.pe_c cP hr hk (by rfl) (pa_cons (pv 0) (pa_cons (pe_op op_add (pe_op op_sub (pv 2) (pv 3)) pe_int) pa_nil))) pa_nil)) (pg_name (i := 5) scPlan.nd rfl (Or.inl rfl))
        (pss_cons (ps_set (i := 6) scPlan.nd rfl (Or.inl rfl) (C8.pe_c cP hr hk (by rfl) (pa_cons (pv 0) (pa_cons (pe_op op_add (pe_callB call_len_seq (by rfl) T.len PySem.boot_len (pa_cons (pv 4) pa_nil)) pe_int) pa_nil))))
        (pss_one (ps_set (i := 4) scPlan.nd rfl (Or.inl rfl) (pe_op op_cat (pe_op op_cat (pe_slice sl_list (pv 4) po_none (po_some (pv 6)))
          (pe_lst (pa_cons (pe_tup (pa_cons (C8.pe_c cP hr hk (by rfl) (pa_cons (pv 0) (pa_cons (pv 3) pa_nil))) (pa_cons (C8.pe_c cP hr hk (by rfl) (pa_cons (pv 0) (pa_cons (pv 3) pa_nil))) pa_nil))) pa_nil)))
          (pe_slice sl_list (pv 4) (po_some (pv 6)) po_none))))))
      (pss_one (ps_ret (pe_tup (pa_cons (pv 3) (pa_cons (pv 4) pa_nil))))))), ?_⟩
    -- size
    refine ⟨_, rfl, _, rfl, b, l, ns, most, rfl, B, by omega, by omega, fun v o v0 v1 BO => ?_⟩
    refine ⟨_, _, rfl, rfl, ?_⟩
    have B1 := B.upd BO
    have k1 : KeepB b H (upd H b o) := .updb
    have hv0 : 0 ≤ 1 + v := by omega
    -- pairs: the comprehension
    refine ⟨_, rfl, 1 + v, rfl, by omega, by omega, fun D hD => ?_⟩
    have hbD : D ≠ b := B1.ne_new hD
    have nD : H D = none := by
      rw [upd_ne hbD] at hD
      exact hD
    refine lc_it (walk_range (lo := 0) (n := (1 + v).toNat)) (fun i H' => ∃ ts : Es, ts.length = i ∧ KeepB b H H' ∧ BagAt H' b l ns ∧ H' D = some (.lst (vsOf ts)) ∧ Ed H' ts ∧ ∀ (j : Nat) (e : Addr × Int × Int), ts[j]? = some e → e.2.1 = (j : Int) ∧ 0 ≤ e.2.2 ∧ e.2.2 < 1 + v)
      ⟨[], rfl, k1.new hD, B1.new hD, upd_same, .nil, fun j e he => by simp at he⟩ (fun _ _ _ _ => True.intro) ?_ ?_
    · rintro i x H1 H' hi ⟨ts, hts, kp, Bi, eD, ed, hj⟩ ⟨rfl, rfl⟩
      refine ⟨rfl, ?_⟩
      refine ⟨_, rfl, _, rfl, _, rfl, b, l, ns, _, rfl, Bi, by omega, by omega, fun v2 o2 v20 v21 BO2 => ?_⟩
      refine ⟨(by show 2 ≤ sizeLine; decide), fun t ht => ?_⟩
      have B2 := Bi.upd BO2
      have B3 := B2.new (o := .tup [.int (0 + (i : Int)), .int v2]) ht
      have ed3 : Ed (upd (upd H' b o2) t (.tup [.int (0 + (i : Int)), .int v2])) ts := (ed.keep Bi .updb).same (same_upd ht)
      have eD2 : upd H' b o2 D = some (.lst (vsOf ts)) := by
        rw [upd_ne hbD]
        exact eD
      have tD : D ≠ t := ne_of_none eD2 ht
      refine ⟨vsOf ts, by rw [upd_ne tD]; exact eD2, ?_, ts ++ [(t, (i : Int), v2)], by simp [hts], ?_, ?_, ?_, ?_, ?_⟩
      · unfold vsOf
        rw [List.length_map]
        exact small1000 (by omega)
      · exact ((kp.trans .updb).new ht).at nD
      · exact B3.off hbD (ne_of_none B.sc nD).symm
      · rw [upd_same]
        unfold vsOf
        rw [List.map_append]
        rfl
      · refine Ed.app (fun e he => ?_) (.one ?_)
        · have h1 := ed3 e he
          rw [upd_ne (fun z => ?_)]
          · exact h1
          · rw [z, upd_ne tD, eD2] at h1
            cases h1
        · rw [upd_ne (Ne.symm tD), upd_same]
          show some (HO.tup [V.int (0 + (i : Int)), V.int v2]) = _
          rw [Int.zero_add]
      · intro j e he
        by_cases hlt : j < ts.length
        · rw [List.getElem?_append_left hlt] at he
          exact hj j e he
        · rw [List.getElem?_append_right (by omega)] at he
          cases hz : j - ts.length with
          | zero =>
            rw [hz] at he
            have z : (t, (i : Int), v2) = e := Option.some.inj he
            subst z
            exact ⟨by show (i : Int) = (j : Int); omega, v20, v21⟩
          | succ m =>
            rw [hz] at he
            cases he
    · rintro H1 ⟨ts, hts, kp, Bi, eD, ed, hj⟩
      have va : Valid (1 + v) ts := by
        refine ⟨fun e he => ?_, fun k k0 k1 => ?_⟩
        · obtain ⟨j, hjl, hje⟩ := List.getElem_of_mem he
          have h1 := hj j e (by rw [List.getElem?_eq_getElem hjl, hje])
          exact ⟨by omega, by omega, h1.2.1, h1.2.2⟩
        · have hk' : k.toNat < ts.length := by omega
          have h1 := hj k.toNat ts[k.toNat] (List.getElem?_eq_getElem hk')
          exact ⟨ts[k.toNat], List.getElem_mem hk', by rw [h1.1]; omega⟩
      -- the loop
      have ln1 : (ts.length : Int) = 1 + v := by omega
      refine ⟨_, rfl, _, rfl, _, rfl, _, _, rfl, rfl, _, _, rfl, rfl, b, l, ns, _, rfl, Bi, by omega, by omega, fun r o2 r0 r1 BO2 => ?_⟩
      refine ⟨r, rfl, by omega, by omega, ?_⟩
      refine for_it (walk_range (lo := 0) (n := r.toNat)) (fun i σ H' => ∃ (us : Es) (qa : Addr) (v5 v6 v7 : Option V), σ = [some (.ref b), some (.int most), some (.int many), some (.int (1 + v)), some (.ref qa), v5, v6, v7] ∧
          (us.length : Int) = 1 + v + (i : Int) ∧ KeepB b H H' ∧ BagAt H' b l ns ∧ H qa = none ∧ H' qa = some (.lst (vsOf us)) ∧ Ed H' us ∧ Valid (1 + v) us)
        ⟨ts, D, none, none, none, rfl, by omega, kp.trans .updb, Bi.upd BO2, nD, by rw [upd_ne hbD]; exact eD, ed.keep Bi .updb, va⟩ (fun _ _ _ _ _ => True.intro) ?_ ?_
      · rintro i x σ H2 H' hi ⟨us, qa, v5, v6, v7, rfl, hus, kp2, B2, nq, eq, ed2, va2⟩ ⟨rfl, rfl⟩
        have qb : qa ≠ b := B2.ne_vs eq
        -- at = pull(bag, len(pairs) + 1)
        refine ⟨_, rfl, _, rfl, qa, _, rfl, .inl (SqL.of eq), _, _, rfl, rfl, b, l, ns, _, rfl, B2, ?_, ?_, fun at_ o3 a0 a1 BO3 => ?_⟩
        · show (0 : Int) < ((vsOf us).length : Int) + 1
          omega
        · show ((vsOf us).length : Int) + 1 < 2 ^ 100
          unfold vsOf
          rw [List.length_map]
          omega
        have a1' : at_ < (us.length : Int) + 1 := by
          have z : at_ < ((vsOf us).length : Int) + 1 := a1
          unfold vsOf at z
          rw [List.length_map] at z
          exact z
        have hat : ((at_.toNat : Nat) : Int) = at_ := Int.toNat_of_nonneg a0
        have hatl : at_.toNat ≤ (vsOf us).length := by
          unfold vsOf
          rw [List.length_map]
          omega
        have B3 := B2.upd BO3
        have eq3 : upd H' b o3 qa = some (.lst (vsOf us)) := by
          rw [upd_ne qb]
          exact eq
        have ed3 : Ed (upd H' b o3) us := ed2.keep B2 .updb
        have kp3 : KeepB b H (upd H' b o3) := kp2.trans .updb
        generalize upd H' b o3 = H3 at *
        -- pairs[:at]
        refine ⟨_, rfl, _, rfl, at_, rfl, qa, _, rfl, SqL.of eq3, fun p1 hp1 => ?_⟩
        rw [← hat, cut_lo hatl]
        have B4 := B3.new (o := .lst ((vsOf us).take at_.toNat)) hp1
        have kp4 := kp3.new (o := .lst ((vsOf us).take at_.toNat)) hp1
        have s4 := same_upd (o := .lst ((vsOf us).take at_.toNat)) hp1
        have eq4 := s4 _ _ eq3
        have ed4 := ed3.same s4
        have e14 : upd H3 p1 (.lst ((vsOf us).take at_.toNat)) p1 = some (.lst ((vsOf us).take at_.toNat)) := upd_same
        generalize upd H3 p1 (.lst ((vsOf us).take at_.toNat)) = H4 at *
        -- the new edge
        refine ⟨_, rfl, _, rfl, b, l, ns, _, rfl, B4, by omega, by omega, fun x1 o5 x10 x11 BO5 => ?_⟩
        have B5 := B4.upd BO5
        have p1b : p1 ≠ b := B3.ne_new hp1
        refine ⟨_, rfl, _, rfl, b, l, ns, _, rfl, B5, by omega, by omega, fun x2 o6 x20 x21 BO6 => ?_⟩
        have B6 := B5.upd BO6
        have kp6 : KeepB b H4 (upd (upd H4 b o5) b o6) := KeepB.updb.trans .updb
        have ed6 := ed4.keep B4 kp6
        have eq6 := kp6 _ _ qb eq4
        have e16 := kp6 _ _ p1b e14
        have kp6' := kp4.trans kp6
        generalize upd (upd H4 b o5) b o6 = H6 at *
        refine ⟨(by show 2 ≤ sizeLine; decide), fun t ht => ?_⟩
        have s7 := same_upd (o := .tup [.int x1, .int x2]) ht
        have B7 := B6.same s7
        have e7 : upd H6 t (.tup [.int x1, .int x2]) t = some (.tup [.int x1, .int x2]) := upd_same
        have kp7 := kp6'.trans (.of_same s7)
        have eq7 := s7 _ _ eq6
        have e17 := s7 _ _ e16
        have ed7 := ed6.same s7
        generalize upd H6 t (.tup [.int x1, .int x2]) = H7 at *
        refine ⟨(by show 1 ≤ sizeLine; decide), fun p2 hp2 => ?_⟩
        have s8 := same_upd (o := .lst [.ref t]) hp2
        have e8 : upd H7 p2 (.lst [.ref t]) p2 = some (.lst [.ref t]) := upd_same
        have B8 := B7.same s8
        have kp8 := kp7.trans (.of_same s8)
        have eq8 := s8 _ _ eq7
        have e18 := s8 _ _ e17
        have et8 := s8 _ _ e7
        have ed8 := ed7.same s8
        generalize upd H7 p2 (.lst [.ref t]) = H8 at *
        have hsz : ∀ m : Nat, m ≤ 1000 → m ≤ sizeLine := fun m h => Nat.le_of_lt (small1000 h)
        have lus : us.length ≤ 200 := by omega
        have lvs : (vsOf us).length = us.length := by
          unfold vsOf
          rw [List.length_map]
        refine ⟨p1, p2, _, _, rfl, rfl, e18, e8, hsz _ (by simp; omega), fun p3 hp3 => ?_⟩
        have s9 := same_upd (o := .lst ((vsOf us).take at_.toNat ++ [.ref t])) hp3
        have e9 : upd H8 p3 (.lst ((vsOf us).take at_.toNat ++ [.ref t])) p3 = some (.lst ((vsOf us).take at_.toNat ++ [.ref t])) := upd_same
        have B9 := B8.same s9
        have kp9 := kp8.trans (.of_same s9)
        have eq9 := s9 _ _ eq8
        have et9 := s9 _ _ et8
        have ed9 := ed8.same s9
        generalize upd H8 p3 (.lst ((vsOf us).take at_.toNat ++ [.ref t])) = H9 at *
        refine ⟨_, rfl, _, rfl, _, rfl, qa, _, rfl, SqL.of eq9, fun p4 hp4 => ?_⟩
        rw [cut_hi hatl]
        have s10 := same_upd (o := .lst ((vsOf us).drop at_.toNat)) hp4
        have e10 : upd H9 p4 (.lst ((vsOf us).drop at_.toNat)) p4 = some (.lst ((vsOf us).drop at_.toNat)) := upd_same
        have B10 := B9.same s10
        have kp10 := kp9.trans (.of_same s10)
        have e910 := s10 _ _ e9
        have et10 := s10 _ _ et9
        have ed10 := ed9.same s10
        generalize upd H9 p4 (.lst ((vsOf us).drop at_.toNat)) = H10 at *
        refine ⟨p3, p4, _, _, rfl, rfl, e910, e10, hsz _ (by simp; omega), fun p5 hp5 => ?_⟩
        have s11 := same_upd (o := .lst ((vsOf us).take at_.toNat ++ [.ref t] ++ (vsOf us).drop at_.toNat)) hp5
        obtain ⟨yb, hyb⟩ := B10.at_b
        refine ⟨us.take at_.toNat ++ [(t, x1, x2)] ++ us.drop at_.toNat, p5, _, _, _, rfl, ?_, kp10.trans (.of_same s11), B10.same s11, kp10.free hyb hp5, ?_, ?_, ?_⟩
        · simp
          omega
        · rw [upd_same]
          unfold vsOf
          rw [List.map_append, List.map_append, List.map_take, List.map_drop]
          rfl
        · have f1 : Ed H10 (us.take at_.toNat) := fun e he => ed10 e (List.mem_of_mem_take he)
          have f2 : Ed H10 (us.drop at_.toNat) := fun e he => ed10 e (List.mem_of_mem_drop he)
          exact Ed.same (Ed.app (Ed.app f1 (.one et10)) f2) s11
        · refine ⟨fun e he => ?_, fun kk k0 k1 => ?_⟩
          · rw [List.mem_append, List.mem_append] at he
            rcases he with (he | he) | he
            · exact va2.rg e (List.mem_of_mem_take he)
            · have z := List.mem_singleton.mp he
              subst z
              exact ⟨x10, x11, x20, x21⟩
            · exact va2.rg e (List.mem_of_mem_drop he)
          · obtain ⟨e, he, hk2⟩ := va2.sr kk k0 k1
            refine ⟨e, ?_, hk2⟩
            rw [← List.take_append_drop at_.toNat us, List.mem_append] at he
            rw [List.mem_append, List.mem_append]
            exact he.elim (fun z => .inl (.inl z)) .inr
      · rintro σ H2 ⟨us, qa, v5, v6, v7, rfl, hus, kp2, B2, nq, eq, ed2, va2⟩
        refine ⟨_, rfl, _, rfl, (by show 2 ≤ sizeLine; decide), fun p hp => ?_⟩
        obtain ⟨yb, hyb⟩ := B2.at_b
        have s1 := same_upd (o := .tup [.int (1 + v), .ref qa]) hp
        exact q p qa (1 + v) us _ (kp2.trans (.of_same s1)) (B2.same s1) (kp2.free hyb hp) nq ⟨upd_same, s1 _ _ eq, ed2.same s1, va2, by omega⟩ (by omega) (by omega)
end
end Lw
set_option Elab.async false
set_option linter.all false
set_option maxRecDepth 100000
/-! enumerate(t) of a tuple; enumerate and for over what is a list or a tuple -/
namespace Lw
open PySem PySem.Spec PyProof.Rows L2
/-- the two objects that enumerate(t) makes: the tuple's iterator, the counter over it -/
abbrev itO (l : Addr) : Obj := { cls := .type "tuple_iterator", data := .fields #[.ref l, .int 0 0] }
abbrev enO (i : Addr) : Obj := { cls := .type "enumerate", data := .fields #[.none, .bool false, .ref i, rawInt 0, .none, .none] }
theorem enumT_new (l : Addr) (o : Obj) (items : Array Value) (n : Nat) (hc : o.cls = .type "tuple") (hd : o.data = .seq items n) :
    Meets (Builtin.«enumerate.__new__» ⟨[.type "enumerate", .ref l], []⟩) (fun _ R s => s.heap.get? l = some o ∧
      R (.ok (.ret (.ref (s.heap.push (itO l)).objs.size))) { s with heap := (s.heap.push (itO l)).push (enO s.heap.objs.size) }) := by
  obtain ⟨oc, dct, dt, sl⟩ := o
  dsimp only at hc hd
  subst hc hd
  refine .of_wp fun P w A R s hyp => ?_
  rcases s with ⟨h, gn, dr, tk, os⟩
  rcases hyp with ⟨hl, fin⟩
  have sub := sub_enumerate
  have isT : Heap.IsTuple (Shared.heap ⟨h, gn, dr, tk, os⟩) l items := ⟨_, hl, rfl, n, rfl⟩
  wp_walk using AutoSeq1.wpAny_loadPart' hl
  refine wpAny_stack_any fun st => wpAny_pure ?_
  split
  next c _ _ _ _ _ => cases (c == Value.type "enumerate") <;> (wp_walk using AutoSeq1.wpAny_loadPart' hl, wpAny_pyIter_tuple isT) <;> exact ⟨_, rfl, fin⟩
  next => (wp_walk using AutoSeq1.wpAny_loadPart' hl, wpAny_pyIter_tuple isT) <;> exact ⟨_, rfl, fin⟩
theorem enumT_call {P : Program} {w : World} {A : Around} {E : Value → Shared → Prop} {s : Shared} {l : Addr} {items : Array Value} {Q : Value → Shared → Prop} (hL : s.heap.IsTuple l items)
    (h : IsEnum ((s.heap.push (itO l)).push (enO s.heap.objs.size)) (s.heap.objs.size + 1) s.heap.objs.size 0 .none → Heap.IsTupleIter ((s.heap.push (itO l)).push (enO s.heap.objs.size)) s.heap.objs.size l 0 →
      Q (.ref (s.heap.objs.size + 1)) { s with heap := (s.heap.push (itO l)).push (enO s.heap.objs.size) }) :
    wpAny (model P w) A (call (.type "enumerate") [.ref l]) Q E s := by
  obtain ⟨o, get, cls, n, dat⟩ := hL
  have size1 : (s.heap.push (itO l)).objs.size = s.heap.objs.size + 1 := Heap.size_push ..
  have en : IsEnum ((s.heap.push (itO l)).push (enO s.heap.objs.size)) (s.heap.objs.size + 1) s.heap.objs.size 0 .none := by
    rw [← size1]
    exact Heap.get?_push_size _ rfl
  have it : Heap.IsTupleIter ((s.heap.push (itO l)).push (enO s.heap.objs.size)) s.heap.objs.size l 0 := ⟨itO l, Heap.get?_push_of_some _ (Heap.get?_push_size _ rfl), rfl, rfl⟩
  refine callType_new F.called_enumerate (by decide) (F.typeCall_enumerate_1 _) (F.newCall_enumerate_1 _) (F.args_object_init_2 · _) F.entry_enumerate_new (enumT_new l o items n cls dat) ⟨get, ?_⟩
  rw [size1]
  exact ⟨⟨_, en, rfl⟩, h en it⟩
/-- the turns of enumerate(t): a new pair of the number and the item -/
def IteT (K : PySem.W.Frag) (a : Addr) : It where
  go i H := ∃ (xs : List V) (x : V), SqT K H a xs ∧ xs[i]? = some x
  yld i H v H' := ∃ T x, v = .ref T ∧ H T = none ∧ H' = upd H T (.tup [.int (i : Nat), x]) ∧ ∀ xs, SqT K H a xs → xs[i]? = some x
  stop i H := ∃ xs : List V, SqT K H a xs ∧ xs.length ≤ i
/-- the state of the walk at turn i -/
structure EnAt (a e it : Addr) (i : Nat) (h : Heap) : Prop where
  en : ∃ old, IsEnum h e it ((i : Nat) : Int) old
  itr : h.IsTupleIter it a i
  ne : e ≠ it ∧ e ≠ a
theorem two {e it b : Addr} (h : b ∈ [e, it]) : b = e ∨ b = it := by
  simp only [List.mem_cons, List.not_mem_nil, or_false] at h
  exact h
theorem EnAt.keep {a e it : Addr} {i : Nat} {h h' : Heap} (z : EnAt a e it i h) (k : ∀ b ∈ [e, it], ∀ o, h.get? b = some o → h'.get? b = some o) : EnAt a e it i h' := by
  obtain ⟨old, he⟩ := z.en
  exact ⟨⟨old, k e (.head _) _ he⟩, z.itr.at (k it (.tail _ (.head _))), z.ne⟩
theorem enumT_item {X : Cx} {elts : List Expr} {kk : Nat} {tpos : Pos} {a e it : Addr} (ai : a ≠ it) (calm : X.calm = true) {i : Nat} {pins : List (Addr × Obj)} {s : Shared} {σ : L2.St} {H : Hp} {E : Value → Shared → Prop} (I : Inv X pins σ H s)
    (off : ∀ b ∈ [e, it], FpOk X pins H b) (z : EnAt a e it i s.heap) {xs : List V} {x : V} (hq : SqT X.K H a xs) (hx : xs[i]? = some x) :
    wpAny (model X.prog X.w) X.A (pyNext (.ref e)) (fun r s1 => ∃ u, r = some u ∧ wpAny (model X.prog X.w) X.A (letOwnedTupleGo (.Tuple elts kk tpos) (.ref e) u)
      (fun _ s2 => ∃ y H', Inv X pins σ H' s2 ∧ RelV y u ∧ (IteT X.K a).yld i H y H' ∧ EnAt a e it (i + 1) s2.heap ∧ ∀ b ∈ [e, it], H' b = none) E s1) E s := by
  obtain ⟨old, he⟩ := z.en
  obtain ⟨its, vals, tup, _⟩ := I.tuple hq
  obtain ⟨u, hu, ru⟩ := vals.get hx
  have eb := Heap.lt_size he
  have ib : it < s.heap.objs.size := z.itr.elim fun _ q => Heap.lt_size q.1
  have hi : i < its.toArray.size := by
    rw [List.size_toArray]
    exact (List.getElem?_eq_some_iff.mp hu).1
  have out : e ∉ [it, a] := fun m => (two m).elim z.ne.1 z.ne.2
  refine wpAny_pyNext_enum_itemD (Draws.tuple (A := X.A.in1) (show X.A.in1.handled = none from I.ok.hd calm) it a ai its.toArray) he ⟨z.itr, tup⟩ hi z.ne.1 out ?_
  intro y h' tk hy eo st new _ stay
  obtain rfl : y = u := by
    rw [List.getElem?_toArray, hu] at hy
    exact (Option.some.inj hy).symm
  refine ⟨_, rfl, wpAny_letOwnedTupleGo_enum (s := { s with heap := h', toks := tk + 1 }) eo fun h2 en2 sb => ?_⟩
  have new2 : h2.get? s.heap.objs.size = some { cls := .type "tuple", data := .seq #[.int i tk, y] } := by
    rw [sb.2 _ (Nat.ne_of_gt eb)]
    exact new
  have okN : ObjOk X.prog X.w (upd H s.heap.objs.size (.tup [.int (i : Nat), x])) h2 s.heap.objs.size (.tup [.int (i : Nat), x]) := ⟨by show 2 ≤ sizeLine; decide, _, .cons ⟨_, rfl⟩ (.cons ru .nil), _, new2, rfl, _, rfl⟩
  have rest : ∀ b o, b ∉ [e, it] → s.heap.get? b = some o → h2.get? b = some o := by
    intro b o nb hb
    have be : b ≠ e := fun q => nb (q ▸ .head _)
    have bi : b ≠ it := fun q => nb (q ▸ .tail _ (.head _))
    rw [sb.2 b be]
    exact stay b o be bi hb
  refine ⟨.ref s.heap.objs.size, _, I.turnedNew (ch := [e, it]) rest off (Nat.le_refl _) okN, rfl, ⟨_, x, rfl, I.hok.fresh (Nat.le_refl _), rfl, fun ys hys => I.tuple_inj hys hq ▸ hx⟩, ⟨⟨y, ?_⟩, ?_, z.ne⟩, ?_⟩
  · rw [Int.natCast_succ]
    exact en2
  · exact st.1.at fun o q => by rw [sb.2 it z.ne.1.symm]; exact q
  · intro b hb
    have lt : b < s.heap.objs.size := (two hb).elim (fun q => q ▸ eb) (fun q => q ▸ ib)
    rw [upd_ne (Nat.ne_of_lt lt)]
    exact (off b hb).1
/-- the tuple's iterator at its end -/
theorem over {P : Program} {w : World} {A : Around} (calm : A.handled = none) {it a : Addr} {items : Array Value} {i : Nat} (hi : items.size ≤ i) : Draws P w A it [it, a] i (fun _ _ => True) (fun j h => j = i ∧ h.IsTupleIter it a i ∧ h.IsTuple a items) where
  live _ _ z := z.2.1.elim fun o q => ⟨o, q.1⟩
  frame _ _ _ z k := ⟨z.1, z.2.1.at (k it (.head _)), z.2.2.at (k a (.tail _ (.head _)))⟩
  item j _ _ _ lt z _ := absurd z.1 (Nat.ne_of_lt lt)
  done _ _ _ z h := wpAny_nextOf_tuple_end calm z.2.1 z.2.2 (Array.getElem?_eq_none hi) h
theorem enumT_turn {P : Program} {w : World} {K : PySem.W.Frag} {elts : List Expr} {kk : Nat} {tpos : Pos} {a e it : Addr} (ai : a ≠ it) : Turn P w K (.Tuple elts kk tpos) (IteT K a) [e, it] e (EnAt a e it) where
  mem := .head _
  obj i h z b hb := by
    obtain ⟨old, he⟩ := z.en
    obtain ⟨o, ho, _, hd⟩ := z.itr
    rcases two hb with rfl | rfl
    · exact ⟨_, he, nofun⟩
    · exact ⟨o, ho, by rw [hd]; nofun⟩
  keep i h h' z k := z.keep k
  item := by
    rintro X rfl rfl rfl calm i pins s σ H E I off z ⟨xs, x, hq, hx⟩
    exact enumT_item ai calm I off z hq hx
  done := by
    rintro X rfl rfl rfl calm i pins s σ H E I off z ⟨xs, hq, hx⟩
    obtain ⟨old, he⟩ := z.en
    obtain ⟨its, vals, tup, _⟩ := I.tuple hq
    obtain ⟨f0, f1, _, f3, f4, f5⟩ := off it (.tail _ (.head _))
    have len := vals.length
    refine wpAny_pyNext_enum_endD (over (A := X.A.in1) (show X.A.in1.handled = none from I.ok.hd calm) (items := its.toArray) (by rw [List.size_toArray]; omega)) he ⟨rfl, z.itr, tup⟩ fun h' up => ⟨rfl, I.turned (t' := s.toks) (fun b o hb q => up b o hb q) f0 f1 f3 f4 f5⟩
  self A i s Q E z h := z.en.elim fun _ he => wpAny_pyIter_enum he h
theorem walk_enumT {K : PySem.W.Frag} {a : Addr} {xs : List V} : Walk (IteT K a) xs.length (fun H => SqT K H a xs) (YPair (fun i => some (.int (i : Nat))) (fun i => xs[i]?)) := by
  constructor
  · intro i H hi hq
    exact ⟨xs, xs[i], hq, List.getElem?_eq_getElem hi⟩
  · intro H hq
    exact ⟨xs, hq, Nat.le_refl _⟩
  · rintro i H _ _ hi hq ⟨T, x, rfl, nT, rfl, at_⟩
    exact ⟨T, _, x, rfl, nT, rfl, rfl, at_ xs hq⟩
/-! ### a list or a tuple -/
abbrev SqF := PySem.W.Frag → Hp → Addr → List V → Prop
/-- enumerate(e) -/
def iEnumA (K : PySem.W.Frag) (ta : TA) : TI := fun σ H R => ta σ H fun vs H1 => ∃ (a : Addr) (xs : List V) (S : SqF), vs = [.ref a] ∧ (S = SqL ∨ S = SqT) ∧ S K H1 a xs ∧
  ∀ J, Walk J xs.length (fun H => S K H a xs) (YPair (fun i => some (.int (i : Nat))) (fun i => xs[i]?)) → R J H1
/-- e itself -/
def iSeqA (K : PySem.W.Frag) (tl : TE) : TI := fun σ H R => tl σ H fun x H1 => ∃ (a : Addr) (xs : List V) (S : SqF), x = .ref a ∧ (S = SqL ∨ S = SqT) ∧ S K H1 a xs ∧ ∀ J, Walk J xs.length (fun H => S K H a xs) (YAt xs) → R J H1
section
variable {X : Cx}
/-- new addresses are nobody's -/
theorem new_ok {pins : List (Addr × Obj)} {s : Shared} {σ : L2.St} {H : Hp} {b : Addr} (I : Inv X pins σ H s) (h : s.heap.objs.size ≤ b) : FpOk X pins H b := I.fpOk h (I.hok.fresh h)
theorem pi_enumA {e : Expr} {ta : TA} {p pos tpos : Pos} {elts : List Expr} {kk : Nat} (hg : Gl X "enumerate") (hm : X.mg "enumerate" = none) (ha : PA X [e] ta) (hs : starEach [e] X.env = [(false, eval e X.env)] := by rfl) :
    PI X (.Tuple elts kk tpos) (.Call (.Name "enumerate" p) [e] [] pos) (iEnumA X.K ta) := by
  constructor
  intro pins s σ H R I h
  refine Call_ (ld_blt I hg hm boot_enumerate (PyProof.Rows.callWith_type1 (wpAny_mono (ha.run pos pins s σ H _ I h) ?_ fun _ _ z => z) hs rfl))
  rintro us s1 ⟨_, H1, I1, vals, a, xs, S, rfl, hS, hq, go⟩
  obtain ⟨_, rfl, rfl⟩ : ∃ u, us = [u] ∧ u = Value.ref a := by
    match us, vals with
    | [u], .cons r .nil => exact ⟨u, rfl, r⟩
  have free : ∀ b ∈ [s1.heap.objs.size + 1, s1.heap.objs.size], FpOk X pins H1 b := fun b hb => new_ok I1 ((two hb).elim (fun q => q ▸ Nat.le_succ _) (fun q => q ▸ Nat.le_refl _))
  rcases hS with rfl | rfl
  · obtain ⟨its, rv, lst, _⟩ := I1.list hq
    refine call_enumerate_list lst.isList fun g en it _ up => wpAny_pyIter_enum en ?_
    exact ⟨_, [s1.heap.objs.size + 1, s1.heap.objs.size], _, Ite X.K a, H1, rfl, I1.kept (t' := s1.toks) up, turn_enum a _ _, ⟨⟨.none, en⟩, it, Nat.succ_ne_self _⟩, free, go _ walk_enum⟩
  · obtain ⟨its, rv, tup, _⟩ := I1.tuple hq
    have old : a < s1.heap.objs.size := tup.elim fun _ q => Heap.lt_size q.1
    refine enumT_call (items := its.toArray) tup fun en it => wpAny_pyIter_enum en ?_
    refine ⟨_, [s1.heap.objs.size + 1, s1.heap.objs.size], _, IteT X.K a, H1, rfl, I1.kept (t' := s1.toks) fun b o q => Heap.get?_push_of_some _ (Heap.get?_push_of_some _ q), enumT_turn (Nat.ne_of_lt old), ⟨⟨.none, en⟩, it, Nat.succ_ne_self _, ?_⟩, free, go _ walk_enumT⟩
    exact fun q => absurd old (Nat.not_lt.mpr (q ▸ Nat.le_succ _))
theorem pi_seqA {tg l : Expr} {tl : TE} (hl : PE X l tl) : PI X tg l (iSeqA X.K tl) := by
  constructor
  intro pins s σ H R I h
  refine wpAny_mono (hl.run pins s σ H _ I h) ?_ fun _ _ z => z
  rintro v s1 ⟨_, H1, I1, rv, a, xs, S, rfl, hS, hq, go⟩
  cases rv
  have free : ∀ b ∈ [s1.heap.objs.size], FpOk X pins H1 b := fun b hb => new_ok I1 (List.mem_singleton.mp hb ▸ Nat.le_refl _)
  have keep : ∀ o : Obj, Inv X pins σ H1 { s1 with heap := s1.heap.push o } := fun o => I1.kept (t' := s1.toks) fun b o' q => Heap.get?_push_of_some _ q
  rcases hS with rfl | rfl
  · obtain ⟨its, r, lst, _⟩ := I1.list hq
    exact wpAny_pyIter_list lst.isList ⟨_, _, _, Itl X.K a, H1, rfl, keep _, turn_list a _, ⟨_, Heap.get?_push_size _ rfl, rfl, rfl⟩, free, go _ walk_list⟩
  · obtain ⟨its, r, tup, _⟩ := I1.tuple hq
    exact wpAny_pyIter_tuple (items := its.toArray) tup ⟨_, _, _, Itt X.K a, H1, rfl, keep _, turn_tuple a _, ⟨_, Heap.get?_push_size _ rfl, rfl, rfl⟩, free, go _ walk_tup⟩
end
end Lw
set_option Elab.async false
set_option linter.all false
set_option maxRecDepth 100000
namespace Lw
open PySem L2
abbrev sCheck : Stmt := top 8
abbrev sInit : Stmt := inClass (top 9) 2
/-- what the walk asks of the class Graph -/
structure GTxt (K : PySem.W.Frag) (mg : Str → Option Value) (C : Addr) (mc : Value) : Prop where
  cl : Cls K C
  nS : NoAttr K C "state_count"
  nE : NoAttr K C "edge_pairs"
  mgG : mg "Graph" = some (.ref C)
  rd : ClX.CRead K C mc
  v8 : ∃ u, ClX.CVal K C mc "MAX_STATES" (.int 8) u
  v24 : ∃ u, ClX.CVal K C mc "MAX_EDGES" (.int 24) u
  enum : mg "enumerate" = none
def flds (n : Int) (t : Addr) : List (Str × V) := [("state_count", V.int n), ("edge_pairs", V.ref t)]
def spCheck (K : PySem.W.Frag) : Sp := fun vs H Q _ => ∃ (n : Int) (e : Addr) (ts : Es) (S : SqF), vs = [.int n, .ref e] ∧ (S = SqL ∨ S = SqT) ∧ S K H e (vsOf ts) ∧ Ed H ts ∧ Valid n ts ∧ 1 ≤ n ∧ n ≤ 100 ∧ ts.length ≤ 100 ∧ ∀ H', Same H H' → Q .non H'
structure GraphAt (C : Addr) (H : Hp) (g : Addr) (n : Int) (us : Es) : Prop where
  ob : ∃ dx t, H g = some (.ins C dx (flds n t)) ∧ H t = some (.tup (vsOf us))
  ed : Ed H us
def spInit (C : Addr) : Sp := fun vs H Q _ => ∃ (g dx e : Addr) (n : Int) (ts : Es) (mk : List V → HO), vs = [.ref g, .int n, .ref e] ∧ H g = some (.ins C dx []) ∧ (mk = HO.lst ∨ mk = HO.tup) ∧ H e = some (mk (vsOf ts)) ∧ Ed H ts ∧ Valid n ts ∧ 1 ≤ n ∧ n ≤ 8 ∧ ts.length ≤ 24 ∧
  ∀ (us : Es) (H' : Hp), psOf us = psOf ts → KeepB g H H' → GraphAt C H' g n us → Q .non H'
theorem sq_same {K : PySem.W.Frag} {S : SqF} {H H' : Hp} {e : Addr} {xs : List V} (hS : S = SqL ∨ S = SqT) (h : S K H e xs) (s : Same H H') : S K H' e xs := by
  rcases hS with rfl | rfl
  · exact s.seq h
  · rcases h with (h | ⟨o, h⟩) | h
    · exact .inl (.inl (s _ _ h))
    · exact .inl (.inr ⟨o, s _ _ h⟩)
    · exact .inr h
theorem vsOf_len (ts : Es) : (vsOf ts).length = ts.length := by
  unfold vsOf
  rw [List.length_map]
theorem vsOf_at {ts : Es} {i : Nat} {v : V} (h : (vsOf ts)[i]? = some v) : ∃ e, ts[i]? = some e ∧ v = .ref e.1 := by
  unfold vsOf at h
  rw [List.getElem?_map] at h
  cases g : ts[i]? with
  | none =>
    rw [g] at h
    cases h
  | some e =>
    rw [g] at h
    exact ⟨e, rfl, (Option.some.inj h).symm⟩
section
variable {P : Program} {w : World} {K : PySem.W.Frag} {mg : Str → Option Value} {base : Heap}
theorem scCheck : FnScope ["states", "edges", "place", "source", "target", "sources", "state"] ["states", "edges"] (defScope sCheck) := ⟨rfl, rfl, rfl, by decide +kernel, rfl, by decide +kernel, by decide +kernel⟩
theorem inV_yes {k : Int} {ks : List Int} (h : k ∈ ks) : inV (.int k) (ks.map V.int) = true := by
  unfold inV
  rw [List.any_map, List.any_eq_true]
  exact ⟨k, h, by simp [eqV]⟩
theorem flat_ints (ks : List Int) : (ks.map V.int).all flatV = true := by
  rw [List.all_map, List.all_eq_true]
  intro x _
  rfl
set_option maxHeartbeats 8000000 in
theorem ok_check {f C : Addr} {mc : Value} {fd : FuncData} {k : Nat} (F : Fun K "check_edges" "check_edges" sCheck f fd) (T : Bi mg) (G : GTxt K mg C mc) : FnOk P w K mg base CX0 (k + 1) f fd ["states", "edges"] (spCheck K) := by
  refine F.ok scCheck (fun vs H Q E h => ?_) (fun cdv A outer s H vs Q E hr h => ?_)
  · obtain ⟨n, e, ts, S, rfl, _⟩ := h
    rfl
  · obtain ⟨n, e, ts, S, rfl, hS, hq, ed, va, n1, n8, hl, q⟩ := h
    refine ⟨_, pss_cons (ps_for PassesOwn.never rfl (pi_enumA (by rfl) G.enum (pa_cons (pv 1) pa_nil))
          (pg_tup rfl (pgs_cons (pg_name (i := 2) scCheck.nd rfl (.inl rfl)) (pgs_cons (pg_tup rfl (pgs_cons (pg_name (i := 3) scCheck.nd rfl (.inl rfl)) (pgs_cons (pg_name (i := 4) scCheck.nd rfl (.inl rfl)) pgs_nil))) pgs_nil)))
        (pss_one (ps_if (pt_not (PW.pt (pw_and (pt_chain op_le op_lt pe_int (pv 3) (pv 0)) (pw_and1 (pt_chain op_le op_lt pe_int (pv 4) (pv 0)))))) (pss_one ps_never) pss_nil)))
      (pss_cons (ps_setLc (i := 5) (own := [("source", 3), ("target", 4)]) (g := gTup K 2 (gCons (gName 3) (gCons (gName 4) gNil))) (tt := tYes) (te := tVar 3) rfl scCheck.nd rfl rfl (sw_true rfl rfl rfl (by decide +kernel))
          (pi_seqA (pv 1))
          (blkOk_by (N := ["states", "edges", "place", "source", "target", "sources", "state"]) (sc := defScope sCheck) (by decide +kernel))
          (fun _ _ _ _ _ => by exact pg_tup rfl (pgs_cons (pg_name (i := 3) scCheck.nd rfl (Or.inl rfl)) (pgs_cons (pg_name (i := 4) scCheck.nd rfl (Or.inl rfl)) pgs_nil)))
          (fun _ _ _ _ _ => pts_nil)
          (fun _ _ _ _ _ => by exact pv 3))
      (pss_one (ps_for PassesOwn.never rfl (pi_range1 (by rfl) T.range (pa_cons (pv 0) pa_nil)) (pg_name (i := 6) scCheck.nd rfl (Or.inl rfl))
        (pss_one (ps_if (pt_cmpR op_notIn_seq (pv 6) (pv 5) (by rfl)) (pss_one ps_never) pss_nil))))), ?_⟩
    have gsz : ∀ m : Nat, m ≤ 1000 → m < sizeLine := fun m h => small1000 h
    -- for place, (source, target) in enumerate(edges)
    refine ⟨_, rfl, e, vsOf ts, S, rfl, hS, hq, fun J w => ?_⟩
    refine for_it w (fun i σ H' => ∃ v2 v3 v4 : Option V, σ = [some (.int n), some (.ref e), v2, v3, v4, none, none] ∧ Same H H') ⟨none, none, none, rfl, fun _ _ z => z⟩ (fun i σ H' _ p => by obtain ⟨_, _, _, _, s⟩ := p; exact sq_same hS hq s) ?_ ?_
    · rintro i x σ H1 H' hi ⟨v2, v3, v4, rfl, sm⟩ ⟨Ta, x, y, rfl, hT, rfl, gx, gy⟩
      obtain ⟨ee, hee, rfl⟩ := vsOf_at gy
      have ex : x = .int (i : Nat) := (Option.some.inj gx).symm
      subst ex
      have s1 := sm.trans (same_upd (o := .tup [.int (i : Nat), .ref ee.1]) hT)
      have mem : ee ∈ ts := List.mem_of_getElem? hee
      have r := va.rg ee mem
      refine ⟨Ta, _, rfl, SqT.of upd_same, rfl, _, _, rfl, _, _, rfl, ⟨ee.1, _, rfl, SqT.of (s1 _ _ (ed ee mem)), rfl, _, _, rfl, _, _, rfl, rfl, ?_⟩⟩
      refine ⟨rfl, ?_⟩
      refine ⟨_, rfl, _, _, rfl, rfl, _, rfl, if_t (decide_eq_true r.1) ⟨_, rfl, _, _, rfl, rfl, ?_⟩⟩
      refine ⟨_, rfl, if_t (decide_eq_true r.2.1) ?_⟩
      refine ⟨_, rfl, _, _, rfl, rfl, _, rfl, if_t (decide_eq_true r.2.2.1) ⟨_, rfl, _, _, rfl, rfl, ?_⟩⟩
      refine ⟨_, rfl, ?_⟩
      refine if_f (by rw [decide_eq_true r.2.2.2]; rfl) ?_
      exact ⟨_, _, _, rfl, s1⟩
    · rintro σ H1 ⟨v2, v3, v4, rfl, sm⟩
      -- sources
      refine ⟨_, rfl, e, vsOf ts, S, rfl, hS, sq_same hS hq sm, fun J w => fun D hD => ?_⟩
      have nD : H D = none := sm.free hD
      refine lc_it w (fun i H' => Same H H' ∧ H' D = some (.lst ((ts.take i).map fun e => V.int e.2.1))) ⟨sm.trans (same_upd hD), upd_same⟩ (fun i H' _ p => sq_same hS hq p.1) ?_ ?_
      · rintro i x H2 H' hi ⟨sm2, eD⟩ ⟨rfl, gx⟩
        obtain ⟨ee, hee, rfl⟩ := vsOf_at gx
        have mem : ee ∈ ts := List.mem_of_getElem? hee
        refine ⟨ee.1, _, rfl, SqT.of (sm2 _ _ (ed ee mem)), rfl, _, _, rfl, _, _, rfl, rfl, rfl, ?_⟩
        refine ⟨_, rfl, _, eD, ?_, ?_, ?_⟩
        · rw [List.length_map, List.length_take]
          exact gsz _ (by omega)
        · intro c o ec
          rw [upd_ne (ne_of_none ec nD)]
          exact sm2 _ _ ec
        · rw [upd_same, List.take_add_one, hee, List.map_append]
          rfl
      · rintro H2 ⟨sm2, eD⟩
        rw [vsOf_len, List.take_length] at eD
        refine ⟨_, rfl, n, rfl, by omega, by omega, ?_⟩
        refine for_it (walk_range (lo := 0) (n := n.toNat)) (fun i σ H' => ∃ v2 v3 v4 v6 : Option V, σ = [some (.int n), some (.ref e), v2, v3, v4, some (.ref D), v6] ∧ Same H H' ∧ H' D = some (.lst (ts.map fun e => V.int e.2.1))) ⟨_, _, _, _, rfl, sm2, eD⟩ (fun _ _ _ _ _ => True.intro) ?_ ?_
        · rintro i x σ H3 H' hi ⟨v2, v3, v4, v6, rfl, sm3, eD3⟩ ⟨rfl, rfl⟩
          obtain ⟨ee, hee, hk⟩ := va.sr (i : Int) (by omega) (by omega)
          have e1 : (ts.map fun e => V.int e.2.1) = (ts.map fun e => e.2.1).map V.int := by
            rw [List.map_map]
            rfl
          have e2 : inV (.int (0 + (i : Int))) (ts.map fun e => V.int e.2.1) = true := by
            rw [e1, Int.zero_add, ← hk]
            exact inV_yes (List.mem_map_of_mem (f := fun e : Addr × Int × Int => e.2.1) hee)
          refine ⟨_, rfl, _, rfl, D, _, rfl, .inl (SqL.of eD3), rfl, by rw [e1]; exact flat_ints _, _, rfl, ?_⟩
          refine if_f (by rw [e2]; rfl) ?_
          exact ⟨_, _, _, _, rfl, sm3, eD3⟩
        · rintro σ H3 ⟨v2, v3, v4, v6, rfl, sm3, eD3⟩
          exact q H3 sm3
end
end Lw
set_option Elab.async false
set_option linter.all false
set_option maxRecDepth 100000
namespace Lw
open PySem L2
abbrev sEq : Stmt := inClass (top 9) 4
abbrev sLen : Stmt := inClass (top 9) 5
abbrev sRepr : Stmt := inClass (top 9) 6
abbrev sStates : Stmt := inClass (top 9) 7
abbrev sEdges : Stmt := inClass (top 9) 8
/-! ### edges as data -/
def dEs (ts : Es) : List PyData := ts.map fun e => .tuple [.int e.2.1, .int e.2.2]
theorem dEs_at {K : PySem.W.Frag} {H : Hp} : ∀ {ts : Es}, Ed H ts → DpAll K H (vsOf ts) (dEs ts)
  | [], _ => .nil
  | e :: ts, h => .cons (.tup (SqT.of (h e List.mem_cons_self)) (.cons (.int _) (.cons (.int _) .nil))) (dEs_at (ts := ts) fun x hx => h x (List.mem_cons_of_mem _ hx))
theorem dEs_lay : ∀ ts : Es, PyData.canLayAll0 (dEs ts) = true
  | [] => rfl
  | e :: ts => by
    show (true && PyData.canLayAll0 (dEs ts)) = true
    rw [dEs_lay ts]
    rfl
theorem dEs_depth : ∀ ts : Es, PyData.depthAll (dEs ts) ≤ 1
  | [] => Nat.zero_le _
  | e :: ts => by
    show max 1 (PyData.depthAll (dEs ts)) ≤ 1
    exact Nat.max_le.mpr ⟨Nat.le_refl _, dEs_depth ts⟩
theorem shT (ts : Es) : SeqAt.shaped (.tuple (dEs ts)) = true := by
  show (PyData.canLayAll0 (dEs ts) && decide (PyData.depthAll (dEs ts) + 1 ≤ 64)) = true
  rw [dEs_lay, decide_eq_true (by have := dEs_depth ts; omega)]
  rfl
theorem shL (ts : Es) : SeqAt.shaped (.list (dEs ts)) = true := by
  show (PyData.canLayAll0 (dEs ts) && decide (PyData.depthAll (dEs ts) + 1 ≤ 64)) = true
  rw [dEs_lay, decide_eq_true (by have := dEs_depth ts; omega)]
  rfl
theorem eqv_es : ∀ us ts : Es, PyData.eqvAll (dEs us) (dEs ts) = decide (psOf us = psOf ts)
  | [], [] => rfl
  | [], e :: ts => rfl
  | e :: us, [] => rfl
  | e :: us, f :: ts => by
    have ih := eqv_es us ts
    show ((e.2.1 == f.2.1 && (e.2.2 == f.2.2 && true)) && PyData.eqvAll (dEs us) (dEs ts)) = decide (e.2 :: psOf us = f.2 :: psOf ts)
    rw [ih]
    obtain ⟨a, x, y⟩ := e
    obtain ⟨b, z, u⟩ := f
    by_cases h1 : x = z <;> by_cases h2 : y = u <;> by_cases h3 : psOf us = psOf ts <;> simp [h1, h2, h3]
/-! ### the object -/
theorem ks : ¬ (("state_count" : Str) = "edge_pairs") := by decide +kernel
theorem flds_put1 (n : Int) : putF "state_count" (.int n) [] = ([("state_count", V.int n)] : List (Str × V)) := rfl
theorem flds_put2 (n : Int) (t : Addr) : putF "edge_pairs" (.ref t) ([("state_count", V.int n)] : List (Str × V)) = flds n t := by
  show (if ("state_count" : Str) = "edge_pairs" then _ else (("state_count" : Str), V.int n) :: putF "edge_pairs" (.ref t) []) = flds n t
  rw [if_neg ks]
  rfl
theorem look_s (n : Int) (t : Addr) : (flds n t).lookup ("state_count" : Str) = some (.int n) := by
  unfold flds
  simp [List.lookup]
theorem look_e (n : Int) (t : Addr) : (flds n t).lookup ("edge_pairs" : Str) = some (.ref t) := by
  unfold flds
  have h : (("edge_pairs" : Str) == ("state_count" : Str)) = false := by decide +kernel
  simp [List.lookup, h]
theorem look_no (n : Int) (t : Addr) {m : Str} (h1 : (m == ("state_count" : Str)) = false) (h2 : (m == ("edge_pairs" : Str)) = false) : (flds n t).lookup m = none := by
  unfold flds
  simp [List.lookup, h1, h2]
theorem sq_or {K : PySem.W.Frag} {S : SqF} {H : Hp} {e : Addr} {xs : List V} (hS : S = SqL ∨ S = SqT) (h : S K H e xs) : SqL K H e xs ∨ SqT K H e xs := by
  rcases hS with rfl | rfl
  · exact .inl h
  · exact .inr h
def grText (n m : Int) : Str := ((((("Graph(" : Str) ++ (toString n : Str)) ++ (" states, " : Str)) ++ (toString m : Str)) ++ (" edges)" : Str))
def spLen (C : Addr) : Sp := fun vs H Q _ => ∃ (g : Addr) (n : Int) (us : Es), vs = [.ref g] ∧ GraphAt C H g n us ∧ Q (.int us.length) H
def spStates (C : Addr) : Sp := fun vs H Q _ => ∃ (g : Addr) (n : Int) (us : Es), vs = [.ref g] ∧ GraphAt C H g n us ∧ Q (.int n) H
def spRepr (C : Addr) : Sp := fun vs H Q _ => ∃ (g : Addr) (n : Int) (us : Es), vs = [.ref g] ∧ GraphAt C H g n us ∧ 0 ≤ n ∧ n < 1000 ∧ us.length < 1000 ∧ Q (.str (grText n us.length)) H
def spEdges (C : Addr) : Sp := fun vs H Q _ => ∃ (g : Addr) (n : Int) (us : Es), vs = [.ref g] ∧ GraphAt C H g n us ∧ ∀ p, H p = none → Q (.ref p) (upd H p (.lst (vsOf us)))
section
variable {P : Program} {w : World} {K : PySem.W.Frag} {mg : Str → Option Value} {base : Heap}
theorem scInit : FnScope ["self", "states", "edges", "source", "target"] ["self", "states", "edges"] (defScope sInit) := ⟨rfl, rfl, rfl, by decide +kernel, rfl, by decide +kernel, by decide +kernel⟩
set_option maxHeartbeats 8000000 in
theorem ok_init {f C : Addr} {mc : Value} {fd : FuncData} {k : Nat} (F : Fun K "__init__" "Graph.__init__" sInit f fd) (T : Bi mg) (G : GTxt K mg C mc) (cC : C8.Cal P w K mg base 1 "check_edges" (spCheck K) []) : FnOk P w K mg base CX0 (k + 2) f fd ["self", "states", "edges"] (spInit C) := by
  refine F.ok scInit (fun vs H Q E h => ?_) (fun cdv A outer s H vs Q E hr h => ?_)
  · obtain ⟨g, dx, e, n, ts, mk, rfl, _⟩ := h
    rfl
  · obtain ⟨g, dx, e, n, ts, mk, rfl, hg, hmk, he, ed, va, n1, n8, hl, q⟩ := h
    have ge : e ≠ g := by
      rintro rfl
      rw [hg] at he
      rcases hmk with rfl | rfl <;> cases he
    obtain ⟨S, hS, hq0⟩ : ∃ S : SqF, (S = SqL ∨ S = SqT) ∧ ∀ H', H' e = some (mk (vsOf ts)) → S K H' e (vsOf ts) := by
      rcases hmk with rfl | rfl
      · exact ⟨SqL, .inl rfl, fun H' h => SqL.of h⟩
      · exact ⟨SqT, .inr rfl, fun H' h => SqT.of h⟩
    have hq := hq0 H he
    have hk : 1 ≤ k + 1 := Nat.le_add_left 1 k
    refine ⟨_, pss_cons (ps_if (pt_cmpR op_lt (pv 1) pe_int (nomark _)) (pss_one ps_never) pss_nil)
      (pss_cons (ps_if (pt_cmpR op_gt (pv 1) (ClX.pe_cval (pe_glob (v := .ref C) (by rfl) G.mgG rfl)) (nomark _)) (pss_one ps_never) pss_nil)
      (pss_cons (ps_if (pt_cmpR op_gt (pe_callB call_len_seq (by rfl) T.len PySem.boot_len (pa_cons (pv 2) pa_nil)) (ClX.pe_cval (pe_glob (v := .ref C) (by rfl) G.mgG rfl)) (nomark _)) (pss_one ps_never) pss_nil)
      (pss_cons (ps_expr (C8.pe_c cC hr hk (by rfl) (pa_cons (pv 1) (pa_cons (pv 2) pa_nil))))
      (pss_cons (ps_fld (pv 0) (pv 1) rfl)
      (pss_one (ps_fld (pv 0) (pe_callTy call_tuple_of (by rfl) T.tuple (by decide +kernel) (pa_cons
        (pe_lc (own := [("source", 3), ("target", 4)]) (g := gTup K 2 (gCons (gName 3) (gCons (gName 4) gNil))) (tt := tYes) (te := tTup (tCons (tVar 3) (tCons (tVar 4) tNil))) rfl scInit.nd (pi_seqA (pv 2))
          (blkOk_by (N := ["self", "states", "edges", "source", "target"]) (sc := defScope sInit) (by decide +kernel))
          (fun _ _ _ _ _ => by exact pg_tup rfl (pgs_cons (pg_name (i := 3) scInit.nd rfl (Or.inl rfl)) (pgs_cons (pg_name (i := 4) scInit.nd rfl (Or.inl rfl)) pgs_nil)))
          (fun _ _ _ _ _ => pts_nil)
          (fun _ _ _ _ _ => by exact pe_tup (pa_cons (pv 3) (pa_cons (pv 4) pa_nil)))) pa_nil)) rfl)))))), ?_⟩
    obtain ⟨u8, hv8⟩ := G.v8
    obtain ⟨u24, hv24⟩ := G.v24
    refine ⟨_, rfl, _, _, rfl, rfl, _, rfl, if_f (decide_eq_false (by omega)) ?_⟩
    refine ⟨_, rfl, C, mc, _, _, rfl, G.rd, hv8, _, _, rfl, rfl, _, rfl, if_f (decide_eq_false (by omega)) ?_⟩
    refine ⟨_, rfl, e, _, rfl, sq_or hS hq, C, mc, _, _, rfl, G.rd, hv24, _, _, rfl, rfl, _, rfl, if_f (decide_eq_false (by rw [vsOf_len]; omega)) ?_⟩
    refine ⟨_, rfl, _, rfl, n, e, ts, S, rfl, hS, hq, ed, va, n1, by omega, by omega, fun H1 s1 => ?_⟩
    refine ⟨_, rfl, _, rfl, g, C, dx, [], rfl, s1 _ _ hg, G.cl, G.nS, (by show 0 < 1000; decide), ?_⟩
    rw [flds_put1]
    have k2 : KeepB g H (upd H1 g (.ins C dx [("state_count", V.int n)])) := KeepB.trans (.of_same s1) .updb
    have g2 : upd H1 g (.ins C dx [("state_count", V.int n)]) g = some (.ins C dx [("state_count", V.int n)]) := upd_same
    generalize upd H1 g (.ins C dx [("state_count", V.int n)]) = H2 at *
    refine ⟨_, rfl, e, vsOf ts, S, rfl, hS, hq0 _ (k2 _ _ ge he), fun J w => fun D hD => ?_⟩
    have nDg : D ≠ g := fun z => by
      rw [z, g2] at hD
      cases hD
    have nD : H D = none := k2.free g2 hD
    refine lc_it w (fun i H' => ∃ us : Es, psOf us = psOf (ts.take i) ∧ KeepB g H H' ∧ H' g = some (.ins C dx [("state_count", V.int n)]) ∧ H' D = some (.lst (vsOf us)) ∧ Ed H' us)
      ⟨[], rfl, k2.new hD, by rw [upd_ne nDg.symm]; exact g2, upd_same, .nil⟩ (fun i H' _ p => by obtain ⟨us, _, k3, _⟩ := p; exact hq0 _ (k3 _ _ ge he)) ?_ ?_
    · rintro i x H3 H' hi ⟨us, hus, k3, g3, eD, ed3⟩ ⟨rfl, gx⟩
      obtain ⟨ee, hee, rfl⟩ := vsOf_at gx
      have mem : ee ∈ ts := List.mem_of_getElem? hee
      have eg : ee.1 ≠ g := fun z => by
        have h := ed ee mem
        rw [z, hg] at h
        cases h
      refine ⟨ee.1, _, rfl, SqT.of (k3 _ _ eg (ed ee mem)), rfl, _, _, rfl, _, _, rfl, rfl, rfl, ?_⟩
      refine ⟨_, rfl, _, rfl, (by show 2 ≤ sizeLine; decide), fun t ht => ?_⟩
      have s4 := same_upd (o := .tup [.int ee.2.1, .int ee.2.2]) ht
      have tD : D ≠ t := ne_of_none eD ht
      refine ⟨_, s4 _ _ eD, ?_, us ++ [(t, ee.2)], ?_, ?_, ?_, ?_, ?_⟩
      · have h1 : us.length = (ts.take i).length := by
          have := congrArg List.length hus
          unfold psOf at this
          simpa using this
        rw [vsOf_len, h1, List.length_take]
        exact small1000 (by omega)
      · unfold psOf at hus ⊢
        rw [List.map_append, hus, List.take_add_one, hee, List.map_append]
        rfl
      · exact (k3.new ht).at nD
      · rw [upd_ne nDg.symm]
        exact s4 _ _ g3
      · rw [upd_same]
        unfold vsOf
        rw [List.map_append]
        rfl
      · refine Ed.app (fun x hx => ?_) (.one ?_)
        · have h := s4 _ _ (ed3 x hx)
          rw [upd_ne (fun z => ?_)]
          · exact h
          · rw [z, s4 _ _ eD] at h
            cases h
        · rw [upd_ne (Ne.symm tD), upd_same]
    · rintro H3 ⟨us, hus, k3, g3, eD, ed3⟩
      rw [vsOf_len, List.take_length] at hus
      refine ⟨D, _, rfl, .inl ⟨SqL.of eD, fun t ht => ?_⟩⟩
      have s4 := same_upd (o := .tup (vsOf us)) ht
      have tg : t ≠ g := (ne_of_none g3 ht).symm
      refine ⟨_, rfl, g, C, dx, _, rfl, s4 _ _ g3, G.cl, G.nE, (by show 1 < 1000; decide), ?_⟩
      rw [flds_put2]
      refine q us _ hus ((k3.trans (.of_same s4)).trans .updb) ⟨⟨dx, t, upd_same, by rw [upd_ne tg]; exact upd_same⟩, fun x hx => ?_⟩
      have h := s4 _ _ (ed3 x hx)
      rw [upd_ne (fun z => ?_)]
      · exact h
      · rw [z, s4 _ _ g3] at h
        cases h
/-! ### the small ones -/
theorem scLen : FnScope ["self"] ["self"] (defScope sLen) := ⟨rfl, rfl, rfl, by decide +kernel, rfl, by decide +kernel, by decide +kernel⟩
theorem ok_len {f C : Addr} {mc : Value} {fd : FuncData} {k : Nat} (F : Fun K "__len__" "Graph.__len__" sLen f fd) (T : Bi mg) (G : GTxt K mg C mc) : FnOk P w K mg base CX0 (k + 1) f fd ["self"] (spLen C) := by
  refine F.ok scLen (fun vs H Q E h => ?_) (fun cdv A outer s H vs Q E hr h => ?_)
  · obtain ⟨g, n, us, rfl, _⟩ := h
    rfl
  · obtain ⟨g, n, us, rfl, ⟨⟨dx, t, h1, h2⟩, ed⟩, q⟩ := h
    refine ⟨_, pss_one (ps_ret (pe_callB call_len_seq (by rfl) T.len PySem.boot_len (pa_cons (pe_fld (pv 0) rfl) pa_nil))), ?_⟩
    refine ⟨_, rfl, g, C, dx, _, _, rfl, h1, G.cl, G.nE, look_e _ _, t, _, rfl, .inr (SqT.of h2), ?_⟩
    rw [vsOf_len]
    exact q
theorem scStates : FnScope ["self"] ["self"] (defScope sStates) := ⟨rfl, rfl, rfl, by decide +kernel, rfl, by decide +kernel, by decide +kernel⟩
theorem ok_states {f C : Addr} {mc : Value} {fd : FuncData} {k : Nat} (F : Fun K "states" "Graph.states" sStates f fd) (G : GTxt K mg C mc) : FnOk P w K mg base CX0 (k + 1) f fd ["self"] (spStates C) := by
  refine F.ok scStates (fun vs H Q E h => ?_) (fun cdv A outer s H vs Q E hr h => ?_)
  · obtain ⟨g, n, us, rfl, _⟩ := h
    rfl
  · obtain ⟨g, n, us, rfl, ⟨⟨dx, t, h1, h2⟩, ed⟩, q⟩ := h
    exact ⟨_, pss_one (ps_ret (pe_fld (pv 0) rfl)), _, rfl, g, C, dx, _, _, rfl, h1, G.cl, G.nS, look_s _ _, q⟩
theorem scEdges : FnScope ["self"] ["self"] (defScope sEdges) := ⟨rfl, rfl, rfl, by decide +kernel, rfl, by decide +kernel, by decide +kernel⟩
theorem ok_edges {f C : Addr} {mc : Value} {fd : FuncData} {k : Nat} (F : Fun K "edges" "Graph.edges" sEdges f fd) (T : Bi mg) (G : GTxt K mg C mc) : FnOk P w K mg base CX0 (k + 1) f fd ["self"] (spEdges C) := by
  refine F.ok scEdges (fun vs H Q E h => ?_) (fun cdv A outer s H vs Q E hr h => ?_)
  · obtain ⟨g, n, us, rfl, _⟩ := h
    rfl
  · obtain ⟨g, n, us, rfl, ⟨⟨dx, t, h1, h2⟩, ed⟩, q⟩ := h
    exact ⟨_, pss_one (ps_ret (pe_callTy call_list_of (by rfl) T.list (by decide +kernel) (pa_cons (pe_fld (pv 0) rfl) pa_nil))), _, rfl, g, C, dx, _, _, rfl, h1, G.cl, G.nE, look_e _ _, t, _, rfl, .inr (SqT.of h2), q⟩
theorem scRepr : FnScope ["self"] ["self"] (defScope sRepr) := ⟨rfl, rfl, rfl, by decide +kernel, rfl, by decide +kernel, by decide +kernel⟩
theorem log_small {n : Int} (h0 : 0 ≤ n) (h1 : n < 1000) : n.natAbs.log2 < 1920 := by
  have h : n.natAbs < 2 ^ 10 := by omega
  by_cases hz : n.natAbs = 0
  · rw [hz]
    decide
  · have := (Nat.log2_lt hz).mpr h
    omega
theorem len_small {n : Int} (h0 : 0 ≤ n) (h1 : n < 1000) : (Str.ofString (toString n)).length ≤ 3 := PyProof.Rows.toString_length_le h0 (by decide) (by omega)
theorem len_app (x y : Str) : (x ++ y).length = x.length + y.length := by
  show (x.cps ++ y.cps).size = x.cps.size + y.cps.size
  exact Array.size_append
theorem ok_repr {f C : Addr} {mc : Value} {fd : FuncData} {k : Nat} (F : Fun K "__repr__" "Graph.__repr__" sRepr f fd) (T : Bi mg) (G : GTxt K mg C mc) : FnOk P w K mg base CX0 (k + 1) f fd ["self"] (spRepr C) := by
  refine F.ok scRepr (fun vs H Q E h => ?_) (fun cdv A outer s H vs Q E hr h => ?_)
  · obtain ⟨g, n, us, rfl, _⟩ := h
    rfl
  · obtain ⟨g, n, us, rfl, ⟨⟨dx, t, h1, h2⟩, ed⟩, n0, n1, hl, q⟩ := h
    refine ⟨_, pss_one (ps_ret (pe_joined (.cons pe_str (.cons (pe_fmt (pe_fld (pv 0) rfl)) (.cons pe_str (.cons (pe_fmt (pe_callB call_len_seq (by rfl) T.len PySem.boot_len (pa_cons (pe_fld (pv 0) rfl) pa_nil))) (.cons pe_str .nil))))))), ?_⟩
    have hsz : ∀ m : Nat, m ≤ 1000 → m ≤ sizeLine := fun m h => Nat.le_of_lt (small1000 h)
    have l0 : (0 : Int) ≤ (us.length : Int) := by omega
    have l1 : (us.length : Int) < 1000 := by omega
    have a1 := len_small n0 n1
    have a2 := len_small l0 l1
    have z1 : (Str.ofString "Graph(").length = 6 := by decide +kernel
    have z2 : (Str.ofString " states, ").length = 9 := by decide +kernel
    have z3 : (Str.ofString " edges)").length = 7 := by decide +kernel
    have z0 : Str.empty ++ Str.ofString "Graph(" = Str.ofString "Graph(" := by decide +kernel
    refine ⟨_, rfl, hsz _ (by rw [z0]; omega), _, rfl, g, C, dx, _, _, rfl, h1, G.cl, G.nS, look_s _ _, .inr ⟨n, rfl, log_small n0 n1, _, rfl, hsz _ ?_, ?_⟩⟩
    · rw [z0, len_app]; omega
    refine ⟨_, rfl, hsz _ ?_, ?_⟩
    · rw [z0, len_app, len_app]; omega
    refine ⟨_, rfl, g, C, dx, _, _, rfl, h1, G.cl, G.nE, look_e _ _, t, _, rfl, .inr (SqT.of h2), .inr ⟨_, rfl, ?_, _, rfl, hsz _ ?_, ?_⟩⟩
    · rw [vsOf_len]; exact log_small l0 l1
    · rw [vsOf_len, z0, len_app, len_app, len_app]; omega
    refine ⟨_, rfl, hsz _ ?_, ?_⟩
    · rw [vsOf_len, z0, len_app, len_app, len_app, len_app]; omega
    rw [vsOf_len, z0]
    exact q
end
end Lw
set_option Elab.async false
set_option linter.all false
set_option maxRecDepth 100000
namespace Lw
open PySem L2
/-- what isinstance asks of the class, and that the built-in kinds are not of it -/
structure GIs (K : PySem.W.Frag) (C : Addr) : Prop where
  ins : C8.InsC K C
  non : PySem.W.kitOne K (.type "NoneType") (.ref C) = some false
  int : PySem.W.kitOne K (.type "int") (.ref C) = some false
  lst : PySem.W.kitOne K (.type "list") (.ref C) = some false
  tup : PySem.W.kitOne K (.type "tuple") (.ref C) = some false
def spGEq (K : PySem.W.Frag) (C : Addr) : Sp := fun vs H Q _ => ∃ (g : Addr) (n : Int) (us : Es) (y : V), vs = [.ref g, y] ∧ GraphAt C H g n us ∧
  ((∃ (g2 : Addr) (n2 : Int) (us2 : Es), y = .ref g2 ∧ GraphAt C H g2 n2 us2 ∧ Q (.bl (decide (n = n2) && decide (psOf us = psOf us2))) H) ∨ ((∃ t, TyX K H y t ∧ PySem.W.kitOne K t (.ref C) = some false) ∧ Q (.bl false) H))
theorem spGEq_mono {K : PySem.W.Frag} {C : Addr} (vs : List V) (H : Hp) (Q Q' : VK) (E : XK) (h : ∀ v H', Q v H' → Q' v H') (s : spGEq K C vs H Q E) : spGEq K C vs H Q' E := by
  obtain ⟨g, n, us, y, e, G, s⟩ := s
  rcases s with ⟨g2, n2, us2, e2, G2, q⟩ | ⟨t, q⟩
  · exact ⟨g, n, us, y, e, G, .inl ⟨g2, n2, us2, e2, G2, h _ _ q⟩⟩
  · exact ⟨g, n, us, y, e, G, .inr ⟨t, h _ _ q⟩⟩
theorem GraphAt.same {C : Addr} {H H' : Hp} {g : Addr} {n : Int} {us : Es} (h : GraphAt C H g n us) (s : Same H H') : GraphAt C H' g n us := by
  obtain ⟨⟨dx, t, h1, h2⟩, ed⟩ := h
  exact ⟨⟨dx, t, s _ _ h1, s _ _ h2⟩, ed.same s⟩
theorem PlanAt.same {H H' : Hp} {p q : Addr} {n : Int} {ts : Es} (h : PlanAt H p q n ts) (s : Same H H') : PlanAt H' p q n ts := ⟨s _ _ h.tp, s _ _ h.ls, h.ed.same s, h.va, h.n1⟩
section
variable {P : Program} {w : World} {K : PySem.W.Frag} {mg : Str → Option Value} {base : Heap}
theorem scEq : FnScope ["self", "other"] ["self", "other"] (defScope sEq) := ⟨rfl, rfl, rfl, by decide +kernel, rfl, by decide +kernel, by decide +kernel⟩
set_option maxHeartbeats 4000000 in
theorem ok_eq {f C : Addr} {mc : Value} {fd : FuncData} {k : Nat} (F : Fun K "__eq__" "Graph.__eq__" sEq f fd) (T : Bi mg) (G : GTxt K mg C mc) (S : GIs K C) : FnOk P w K mg base CX0 (k + 1) f fd ["self", "other"] (spGEq K C) := by
  refine F.ok scEq (fun vs H Q E h => ?_) (fun cdv A outer s H vs Q E hr h => ?_)
  · obtain ⟨g, n, us, y, rfl, _⟩ := h
    rfl
  · obtain ⟨g, n, us, y, rfl, ⟨⟨dx, t, h1, h2⟩, ed⟩, hh⟩ := h
    refine ⟨_, pss_one (ps_ret (pe_and (pe_callB call_isi (by rfl) T.isi (by decide +kernel) (pa_cons (pv 1) (pa_cons (pe_glob (v := .ref C) (by rfl) G.mgG rfl) pa_nil)))
      (pe_and (pe_cmpR op_eq (pe_fld (pv 0) rfl) (pe_fld (pv 1) rfl) (nomark _)) (pe_one (pe_cmpR (op_eqD hr.units) (pe_fld (pv 0) rfl) (pe_fld (pv 1) rfl) (nomark _)))))), ?_⟩
    rcases hh with ⟨g2, n2, us2, rfl, ⟨⟨dx2, t2, h12, h22⟩, ed2⟩, q⟩ | ⟨⟨ty, hty, hk⟩, q⟩
    · refine ⟨_, rfl, _, _, _, _, true, rfl, .own _, .base (.ins h12 S.ins.cl S.ins.ha S.ins.hn S.ins.htk S.ins.hm), S.ins.me, true, rfl, iteT ?_⟩
      refine ⟨_, rfl, g, C, dx, _, _, rfl, h1, G.cl, G.nS, look_s _ _, _, rfl, g2, C, dx2, _, _, rfl, h12, G.cl, G.nS, look_s _ _, rfl, _, rfl, ?_⟩
      by_cases hn : n = n2
      · refine if_t (decide_eq_true (by rw [hn])) ?_
        refine ⟨_, rfl, g, C, dx, _, _, rfl, h1, G.cl, G.nE, look_e _ _, _, rfl, g2, C, dx2, _, _, rfl, h12, G.cl, G.nE, look_e _ _, _, _, .tup (SqT.of h2) (dEs_at ed), .tup (SqT.of h22) (dEs_at ed2), shT _, shT _, ?_⟩
        rw [decide_eq_true hn, Bool.true_and, ← eqv_es] at q
        exact q
      · refine if_f (decide_eq_false (fun z => hn (by injection z))) ?_
        rw [decide_eq_false hn, Bool.false_and] at q
        exact q
    · exact ⟨_, rfl, _, _, _, _, false, rfl, .own _, hty, hk, false, rfl, iteF q⟩
end
end Lw
set_option Elab.async false
set_option linter.all false
set_option maxRecDepth 100000
namespace Lw
open PySem L2
abbrev sGraph : Stmt := top 32
def spGraph (C : Addr) : Sp := fun vs H Q _ => ∃ (p q : Addr) (n : Int) (ts : Es), vs = [.ref p] ∧ PlanAt H p q n ts ∧ n ≤ 8 ∧ ts.length ≤ 24 ∧ ∀ (g : Addr) (us : Es) (H' : Hp), psOf us = psOf ts → Same H H' → H g = none → GraphAt C H' g n us → Q (.ref g) H'
section
variable {P : Program} {w : World} {K : PySem.W.Frag} {mg : Str → Option Value} {base : Heap}
theorem scGraph : FnScope ["_law_plan_here"] ["_law_plan_here"] (defScope sGraph) := ⟨rfl, rfl, rfl, by decide +kernel, rfl, by decide +kernel, by decide +kernel⟩
theorem at0t {x y : V} : atI [x, y] 0 = some x := at0
set_option maxHeartbeats 4000000 in
theorem ok_graph {f C : Addr} {fd : FuncData} {k : Nat} (F : Fun K "_law_graph" "_law_graph" sGraph f fd) (T : Bi mg) (cG : C8.Mak P w K mg base 2 "Graph" C (spInit C) []) : FnOk P w K mg base CX0 (k + 4) f fd ["_law_plan_here"] (spGraph C) := by
  refine F.ok scGraph (fun vs H Q E h => ?_) (fun cdv A outer s H vs Q E hr h => ?_)
  · obtain ⟨p, q, n, ts, rfl, _⟩ := h
    rfl
  · obtain ⟨p, q0, n, ts, rfl, PA, n8, l24, q⟩ := h
    refine ⟨_, pss_one (ps_ret (C8.pe_mk cG hr (by omega) (by rfl) (pa_cons (pe_ix ix_tup (pv 0) pe_int (fun _ _ => rfl)) (pa_cons (pe_callTy call_list_of (by rfl) T.list (by decide +kernel) (pa_cons (pe_ix ix_tup (pv 0) pe_int (fun _ _ => rfl)) pa_nil)) pa_nil)))), ?_⟩
    refine ⟨_, rfl, p, _, _, _, rfl, rfl, SqT.of PA.tp, at0, _, rfl, p, _, _, _, rfl, rfl, SqT.of PA.tp, at1, q0, _, rfl, .inl (SqL.of PA.ls), fun e he => ?_⟩
    have s1 := same_upd (o := .lst (vsOf ts)) he
    intro g dx hg hdx nex
    have s2 := s1.trans ((same_upd (o := .own g) hdx))
    have hg2 : upd (upd H e (.lst (vsOf ts))) dx (.own g) g = none := by
      rw [upd_ne (Ne.symm nex)]
      exact hg
    have s3 := s2.trans (same_upd (o := .ins C dx []) hg2)
    have ng : H g = none := s1.free hg
    have e3 : upd (upd (upd H e (.lst (vsOf ts))) dx (.own g)) g (.ins C dx []) e = some (.lst (vsOf ts)) := same_upd hg2 _ _ (same_upd hdx _ _ upd_same)
    refine ⟨g, dx, e, n, ts, HO.lst, rfl, upd_same, .inl rfl, e3, PA.ed.same s3, PA.va, PA.n1, n8, l24, fun us H' hus kp G => ⟨rfl, ?_⟩⟩
    exact q g us H' hus (fun c o ec => kp c o (ne_of_none ec ng) (s3 c o ec)) ng G
end
end Lw
set_option Elab.async false
set_option linter.all false
set_option maxRecDepth 100000
namespace Lw
open PySem L2
theorem psOf_at {us : Es} {i : Nat} {e : Addr × Int × Int} (h : us[i]? = some e) : (psOf us)[i]? = some e.2 := by
  unfold psOf
  rw [List.getElem?_map, h]
  rfl
abbrev sCounts : Stmt := inClass (top 9) 13
/-! ### xs[i] read for xs[i] += e -/
theorem get_list {X : Cx} : PGet X (fun o y H Q => ∃ (p : Addr) (xs : List V) (i : Int) (v : V), o = .ref p ∧ y = .int i ∧ SqL X.K H p xs ∧ 0 ≤ i ∧ xs[i.toNat]? = some v ∧ Q v H) := by
  intro pins s σ H o y ov iv Q I ro ri h
  obtain ⟨p, xs, i, v, rfl, rfl, hq, h0, hv, q⟩ := h
  cases ro
  obtain ⟨t, rfl⟩ := ri
  obtain ⟨its, r, pl, hz⟩ := I.list hq
  obtain ⟨u, hu, ru⟩ := r.get hv
  have hl := r.length
  have hn := line63
  have hi : i.toNat < xs.length := (List.getElem?_eq_some_iff.mp hv).1
  refine wpAny_getItem_list pl.isList h0 (by omega) (by simpa using hu) ⟨v, H, I, ru, q⟩
/-! ### numbers of equal pairs -/
def cnt (ps : List (Int × Int)) (a b : Nat) : Int := ((ps.filter fun p => decide (p = ((a : Int), (b : Int)))).length : Int)
theorem cnt_snoc (ps : List (Int × Int)) (p : Int × Int) (a b : Nat) : cnt (ps ++ [p]) a b = cnt ps a b + (if p = ((a : Int), (b : Int)) then 1 else 0) := by
  unfold cnt
  rw [List.filter_append, List.length_append]
  by_cases h : p = ((a : Int), (b : Int))
  · rw [if_pos h, List.filter_cons_of_pos (by rw [decide_eq_true h])]
    rfl
  · rw [if_neg h, List.filter_cons_of_neg (by rw [decide_eq_false h]; exact Bool.false_ne_true)]
    simp
def cntRow (ps : List (Int × Int)) (m a : Nat) : List V := (List.range m).map fun b => V.int (cnt ps a b)
theorem cntRow_len (ps : List (Int × Int)) (m a : Nat) : (cntRow ps m a).length = m := by
  unfold cntRow
  simp
theorem cntRow_at (ps : List (Int × Int)) {m a b : Nat} (h : b < m) : (cntRow ps m a)[b]? = some (V.int (cnt ps a b)) := by
  unfold cntRow
  rw [List.getElem?_map, List.getElem?_range h]
  rfl
theorem cntRow_set (ps : List (Int × Int)) {m a t : Nat} (h : t < m) : (cntRow ps m a).set t (V.int (cnt ps a t + 1)) = cntRow (ps ++ [((a : Int), (t : Int))]) m a := by
  apply List.ext_getElem?
  intro b
  by_cases hb : b < m
  · rw [cntRow_at _ hb, cnt_snoc]
    by_cases e : t = b
    · subst e
      rw [List.getElem?_set_self (by rw [cntRow_len]; exact h), if_pos rfl]
    · rw [List.getElem?_set_ne e, cntRow_at _ hb, if_neg (fun z => e (by have h2 : (t : Int) = (b : Int) := congrArg Prod.snd z; omega)), Int.add_zero]
  · rw [List.getElem?_eq_none (by rw [List.length_set, cntRow_len]; omega), List.getElem?_eq_none (by rw [cntRow_len]; omega)]
theorem cntRow_other (ps : List (Int × Int)) {m a s t : Nat} (h : a ≠ s) : cntRow (ps ++ [((s : Int), (t : Int))]) m a = cntRow ps m a := by
  unfold cntRow
  refine List.map_congr_left fun b _ => ?_
  rw [cnt_snoc, if_neg (fun z => h (by have h2 : (s : Int) = (a : Int) := congrArg Prod.fst z; omega)), Int.add_zero]
theorem cntRow_nil (m a : Nat) : cntRow [] m a = List.replicate m (V.int 0) := by
  unfold cntRow
  rw [show (fun b => V.int (cnt [] a b)) = fun _ => V.int 0 from rfl, List.map_const', List.length_range]
theorem nodup_at {rs : List Addr} (nd : rs.Nodup) {a b : Nat} {r : Addr} (h1 : rs[a]? = some r) (h2 : rs[b]? = some r) : a = b := by
  obtain ⟨l1, e1⟩ := List.getElem?_eq_some_iff.mp h1
  obtain ⟨l2, e2⟩ := List.getElem?_eq_some_iff.mp h2
  rcases Nat.lt_trichotomy a b with h | h | h
  · exact absurd (e1.trans e2.symm) (List.pairwise_iff_getElem.mp nd a b l1 l2 h)
  · exact h
  · exact absurd (e2.trans e1.symm) (List.pairwise_iff_getElem.mp nd b a l2 l1 h)
theorem ixN_of {n : Nat} {i : Int} (h0 : 0 ≤ i) (h : i.toNat < n) : ixN n i = some i.toNat := by
  unfold ixN
  rw [if_pos h0, if_pos (by omega)]
structure CntAt (H : Hp) (p : Addr) (rs : List Addr) (m : Nat) (ps : List (Int × Int)) : Prop where
  ls : H p = some (.lst (rs.map V.ref))
  len : rs.length = m
  row : ∀ (a : Nat) (r : Addr), rs[a]? = some r → H r = some (.lst (cntRow ps m a))
theorem CntAt.same {H H' : Hp} {p : Addr} {rs : List Addr} {m : Nat} {ps : List (Int × Int)} (h : CntAt H p rs m ps) (s : Same H H') : CntAt H' p rs m ps := ⟨s _ _ h.ls, h.len, fun a r e => s _ _ (h.row a r e)⟩
def spCounts (C : Addr) : Sp := fun vs H Q _ => ∃ (g : Addr) (n : Int) (us : Es), vs = [.ref g] ∧ GraphAt C H g n us ∧ 0 ≤ n ∧ n ≤ 100 ∧ us.length ≤ 1000 ∧ (∀ e ∈ us, 0 ≤ e.2.1 ∧ e.2.1 < n ∧ 0 ≤ e.2.2 ∧ e.2.2 < n) ∧
  ∀ p rs H', Same H H' → H p = none → (∀ r ∈ rs, H r = none) → CntAt H' p rs n.toNat (psOf us) → Q (.ref p) H'
section
variable {P : Program} {w : World} {K : PySem.W.Frag} {mg : Str → Option Value} {base : Heap}
theorem scCounts : FnScope ["self", "table", "source", "target"] ["self"] (defScope sCounts) := ⟨rfl, rfl, rfl, by decide +kernel, rfl, by decide +kernel, by decide +kernel⟩
set_option maxHeartbeats 8000000 in
theorem ok_counts {f C : Addr} {mc : Value} {fd : FuncData} {k : Nat} (F : Fun K "counts" "Graph.counts" sCounts f fd) (T : Bi mg) (G : GTxt K mg C mc) : FnOk P w K mg base CX0 (k + 1) f fd ["self"] (spCounts C) := by
  refine F.ok scCounts (fun vs H Q E h => ?_) (fun cdv A outer s H vs Q E hr h => ?_)
  · obtain ⟨g, n, us, rfl, _⟩ := h
    rfl
  · obtain ⟨g, n, us, rfl, ⟨⟨dx, t, h1, h2⟩, ed⟩, n0, n1, hl, rg, q⟩ := h
    refine ⟨_, pss_cons (ps_setLc (i := 1) (own := [("source", 2)]) (g := gName 2) (tt := tYes) (te := tOp rRep (tLst (tCons (tC (.int 0)) tNil)) (tFld K (tVar 0) "state_count")) rfl scCounts.nd rfl rfl (sw_true rfl rfl rfl (by decide +kernel))
          (pi_range1 (by rfl) T.range (pa_cons (pe_fld (pv 0) rfl) pa_nil))
          (blkOk_by (N := ["self", "table", "source", "target"]) (sc := defScope sCounts) (by decide +kernel))
          (fun _ _ _ _ _ => by exact pg_name (i := 2) scCounts.nd rfl (Or.inl rfl))
          (fun _ _ _ _ _ => pts_nil)
          (fun _ _ _ _ _ => by exact pe_op op_rep (pe_lst (pa_cons pe_int pa_nil)) (pe_fld (pv 0) rfl)))
      (pss_cons (ps_for PassesOwn.never rfl (pi_seqA (pe_fld (pv 0) rfl)) (pg_tup rfl (pgs_cons (pg_name (i := 2) scCounts.nd rfl (.inl rfl)) (pgs_cons (pg_name (i := 3) scCounts.nd rfl (.inl rfl)) pgs_nil)))
        (pss_one (ps_augS (pe_ix ix_list (pv 1) (pv 2) (fun _ _ => rfl)) (pv 3) get_list pe_int ip_add set_list)))
      (pss_one (ps_ret (pv 1)))), ?_⟩
    refine ⟨_, rfl, g, C, dx, _, _, rfl, h1, G.cl, G.nS, look_s _ _, n, rfl, by omega, by omega, fun D hD => ?_⟩
    refine lc_it (walk_range (lo := 0) (n := n.toNat)) (fun i H' => ∃ rs : List Addr, rs.length = i ∧ rs.Nodup ∧ Same H H' ∧ H' D = some (.lst (rs.map V.ref)) ∧ ∀ r ∈ rs, H r = none ∧ r ≠ D ∧ H' r = some (.lst (List.replicate n.toNat (V.int 0))))
      ⟨[], rfl, List.nodup_nil, same_upd hD, upd_same, fun r hr => by cases hr⟩ (fun _ _ _ _ => True.intro) ?_ ?_
    · rintro i x H1 H' hi ⟨rs, hrs, nd, sm, eD, hh⟩ ⟨rfl, rfl⟩
      refine ⟨rfl, ?_⟩
      refine ⟨(by show 1 ≤ sizeLine; decide), fun l hl => ?_⟩
      have s1 := same_upd (o := .lst [.int 0]) hl
      refine ⟨_, rfl, g, C, dx, _, _, rfl, s1 _ _ (sm _ _ h1), G.cl, G.nS, look_s _ _, l, n, _, rfl, rfl, upd_same, by omega, by omega, ?_, fun p hp => ?_⟩
      · show 1 * n.toNat ≤ sizeLine
        exact Nat.le_of_lt (small1000 (by omega))
      have s2 := s1.trans (same_upd (o := .lst (List.replicate n.toNat [V.int 0]).flatten) hp)
      have e0 : (List.replicate n.toNat [V.int 0]).flatten = List.replicate n.toNat (V.int 0) := by
        rw [List.flatten_replicate_singleton]
      have eD2 := s2 _ _ eD
      have pD : p ≠ D := fun z => by
        rw [z, s1 _ _ eD] at hp
        cases hp
      refine ⟨_, eD2, ?_, rs ++ [p], by simp [hrs], ?_, ?_, ?_, ?_⟩
      · rw [List.length_map]
        exact small1000 (by omega)
      · rw [List.nodup_append]
        refine ⟨nd, (by simp), fun a ha b hb => ?_⟩
        rw [List.mem_singleton.mp hb]
        intro z
        have := s1 _ _ (hh a ha).2.2
        rw [z, hp] at this
        cases this
      · intro c o ec
        rw [upd_ne (ne_of_none ec hD)]
        exact s2 _ _ (sm _ _ ec)
      · rw [upd_same, List.map_append]
        rfl
      · intro r hr
        rcases List.mem_append.mp hr with hr | hr
        · obtain ⟨a1, a2, a3⟩ := hh r hr
          exact ⟨a1, a2, by rw [upd_ne a2]; exact s2 _ _ a3⟩
        · rw [List.mem_singleton.mp hr]
          refine ⟨(sm.trans s1).free hp, pD, ?_⟩
          rw [upd_ne pD, upd_same, e0]
    · rintro H1 ⟨rs, hrs, nd, sm, eD, hh⟩
      refine ⟨_, rfl, g, C, dx, _, _, rfl, sm _ _ h1, G.cl, G.nE, look_e _ _, t, vsOf us, SqT, rfl, .inr rfl, SqT.of (sm _ _ h2), fun J w => ?_⟩
      have start : CntAt H1 D rs n.toNat ((psOf us).take 0) := ⟨eD, hrs, fun a r e => by
        rw [List.take_zero, cntRow_nil]
        exact (hh r (List.mem_of_getElem? e)).2.2⟩
      refine for_it w (fun i σ H' => ∃ v2 v3 : Option V, σ = [some (.ref g), some (.ref D), v2, v3] ∧ Same H H' ∧ CntAt H' D rs n.toNat ((psOf us).take i)) ⟨_, _, rfl, sm, start⟩ (fun i σ H' _ p => by obtain ⟨_, _, _, s, _⟩ := p; exact SqT.of (s _ _ h2)) ?_ ?_
      · rintro i x σ H2 H' hi ⟨v2, v3, rfl, sm2, ct⟩ ⟨rfl, gx⟩
        obtain ⟨e, he, rfl⟩ := vsOf_at gx
        have mem : e ∈ us := List.mem_of_getElem? he
        obtain ⟨r1, r2, r3, r4⟩ := rg e mem
        have ha : e.2.1.toNat < rs.length := by rw [ct.len]; omega
        obtain ⟨ra, hrr⟩ : ∃ ra, rs[e.2.1.toNat]? = some ra := ⟨_, List.getElem?_eq_getElem ha⟩
        have hmem : ra ∈ rs := List.mem_of_getElem? hrr
        have ea : e.2.1 = ((e.2.1.toNat : Nat) : Int) := (Int.toNat_of_nonneg r1).symm
        have eb : e.2.2 = ((e.2.2.toNat : Nat) : Int) := (Int.toNat_of_nonneg r3).symm
        have hb : e.2.2.toNat < n.toNat := by omega
        have ro := ct.row _ _ hrr
        refine ⟨e.1, _, rfl, SqT.of (sm2 _ _ (ed e mem)), rfl, _, _, rfl, _, _, rfl, rfl, ?_⟩
        refine ⟨_, rfl, _, rfl, D, _, _, .ref ra, rfl, rfl, SqL.of ct.ls, ?_, ?_⟩
        · rw [ea]
          refine atI_nat ?_
          rw [List.getElem?_map, hrr]
          rfl
        refine ⟨_, rfl, _, _, _, _, rfl, rfl, SqL.of ro, r3, cntRow_at _ hb, _, _, rfl, rfl, _, _, _, e.2.2.toNat, rfl, rfl, ro, ?_, ?_⟩
        · rw [cntRow_len]
          exact ixN_of r3 hb
        refine ⟨_, _, rfl, ?_, ?_⟩
        · intro c o ec
          rw [upd_ne (fun z => ?_)]
          · exact sm2 _ _ ec
          · rw [z, (hh _ hmem).1] at ec
            cases ec
        · have et : (psOf us).take (i + 1) = (psOf us).take i ++ [((e.2.1.toNat : Int), (e.2.2.toNat : Int))] := by
            rw [List.take_add_one, psOf_at he, ← ea, ← eb]
            rfl
          have nD : ra ≠ D := (hh _ hmem).2.1
          refine ⟨by rw [upd_ne nD.symm]; exact ct.ls, ct.len, fun a r hr => ?_⟩
          rw [et]
          by_cases hs : a = e.2.1.toNat
          · subst hs
            have : r = ra := by
              rw [hrr] at hr
              exact (Option.some.inj hr).symm
            subst this
            rw [upd_same, cntRow_set _ hb]
          · have hne : r ≠ ra := fun z => by
              rw [z] at hr
              exact hs (nodup_at nd hr hrr)
            rw [upd_ne hne, cntRow_other _ hs]
            exact ct.row a r hr
      · rintro σ H2 ⟨v2, v3, rfl, sm2, ct⟩
        rw [vsOf_len, show us.length = (psOf us).length by unfold psOf; rw [List.length_map], List.take_length] at ct
        exact ⟨_, rfl, q D rs H2 sm2 hD (fun r hr => (hh r hr).1) ct⟩
end
end Lw
set_option Elab.async false
set_option linter.all false
set_option maxRecDepth 100000
/-! plans as pairs: which states can be merged, merges, splits, renamings, the least plan -/
namespace Lw
abbrev Ps := List (Int × Int)
theorem psL_len (us : Es) : (psOf us).length = us.length := by
  unfold psOf
  rw [List.length_map]
theorem cnt_pos {ps : Ps} {a b : Nat} : 0 < cnt ps a b ↔ ((a : Int), (b : Int)) ∈ ps := by
  unfold cnt
  constructor
  · intro h
    have h2 : 0 < (ps.filter fun p => decide (p = ((a : Int), (b : Int)))).length := by omega
    obtain ⟨p, hp⟩ := List.exists_mem_of_length_pos h2
    rw [List.mem_filter] at hp
    rw [← of_decide_eq_true hp.2]
    exact hp.1
  · intro h
    have h2 : 0 < (ps.filter fun p => decide (p = ((a : Int), (b : Int)))).length := List.length_pos_of_mem (List.mem_filter.mpr ⟨h, decide_eq_true rfl⟩)
    omega
/-- every pair within n states, every state a source -/
structure VaP (n : Int) (ps : Ps) : Prop where
  rg : ∀ p ∈ ps, 0 ≤ p.1 ∧ p.1 < n ∧ 0 ≤ p.2 ∧ p.2 < n
  sr : ∀ k : Int, 0 ≤ k → k < n → ∃ p ∈ ps, p.1 = k
theorem Valid.ps {n : Int} {ts : Es} (h : Valid n ts) : VaP n (psOf ts) := by
  refine ⟨fun p hp => ?_, fun k k0 k1 => ?_⟩
  · obtain ⟨e, he, rfl⟩ := List.mem_map.mp hp
    exact h.rg e he
  · obtain ⟨e, he, ek⟩ := h.sr k k0 k1
    exact ⟨e.2, List.mem_map.mpr ⟨e, he, rfl⟩, ek⟩
theorem VaP.es {n : Int} {ts : Es} (h : VaP n (psOf ts)) : Valid n ts := by
  refine ⟨fun e he => h.rg e.2 (List.mem_map.mpr ⟨e, he, rfl⟩), fun k k0 k1 => ?_⟩
  obtain ⟨p, hp, ek⟩ := h.sr k k0 k1
  obtain ⟨e, he, rfl⟩ := List.mem_map.mp hp
  exact ⟨e, he, ek⟩
/-! ### states that can be merged -/
def colL (n : Nat) (ps : Ps) (i : Nat) : List Int := (List.range n).map fun r => cnt ps r i
theorem colL_len (n : Nat) (ps : Ps) (i : Nat) : (colL n ps i).length = n := by
  unfold colL
  simp
theorem colL_at {n : Nat} (ps : Ps) (i : Nat) {r : Nat} (h : r < n) : (colL n ps i)[r]? = some (cnt ps r i) := by
  unfold colL
  rw [List.getElem?_map, List.getElem?_range h]
  rfl
theorem colL_take {n : Nat} (ps : Ps) (i : Nat) {r : Nat} (h : r < n) : (colL n ps i).take (r + 1) = (colL n ps i).take r ++ [cnt ps r i] := by
  rw [List.take_add_one, colL_at ps i h]
  rfl
theorem colL_eq {n : Nat} {ps : Ps} {i j r : Nat} (h : colL n ps i = colL n ps j) (hr : r < n) : cnt ps r i = cnt ps r j := by
  have := colL_at ps i hr
  rw [h, colL_at ps j hr] at this
  exact (Option.some.inj this).symm
def pickd (n : Nat) (ps : Ps) (i d : Nat) : List (Int × Int) := if colL n ps i = colL n ps (i + 1 + d) then [((i : Int), ((i + 1 + d : Nat) : Int))] else []
def mrow (n : Nat) (ps : Ps) (i m : Nat) : Ps := (List.range m).flatMap (pickd n ps i)
theorem mrow_succ (n : Nat) (ps : Ps) (i m : Nat) : mrow n ps i (m + 1) = mrow n ps i m ++ pickd n ps i m := by
  unfold mrow
  rw [List.range_succ, List.flatMap_append]
  simp
def mrgsTo (n : Nat) (ps : Ps) (m : Nat) : Ps := (List.range m).flatMap fun i => mrow n ps i (n - (i + 1))
theorem mrgsTo_succ (n : Nat) (ps : Ps) (m : Nat) : mrgsTo n ps (m + 1) = mrgsTo n ps m ++ mrow n ps m (n - (m + 1)) := by
  unfold mrgsTo
  rw [List.range_succ, List.flatMap_append]
  simp
def mrgs (n : Nat) (ps : Ps) : Ps := mrgsTo n ps n
theorem pickd_len (n : Nat) (ps : Ps) (i d : Nat) : (pickd n ps i d).length ≤ 1 := by
  unfold pickd
  split <;> simp
theorem mrow_len (n : Nat) (ps : Ps) (i m : Nat) : (mrow n ps i m).length ≤ m := by
  induction m with
  | zero => exact Nat.le_refl _
  | succ m ih =>
    rw [mrow_succ, List.length_append]
    have := pickd_len n ps i m
    omega
theorem mrgsTo_len (n : Nat) (ps : Ps) (m : Nat) : (mrgsTo n ps m).length ≤ m * n := by
  induction m with
  | zero => exact Nat.zero_le _
  | succ m ih =>
    rw [mrgsTo_succ, List.length_append, Nat.succ_mul]
    have := mrow_len n ps m (n - (m + 1))
    omega
theorem mrgs_mem {n : Nat} {ps : Ps} {p : Int × Int} (h : p ∈ mrgs n ps) : ∃ i j : Nat, p = ((i : Int), (j : Int)) ∧ i < j ∧ j < n ∧ colL n ps i = colL n ps j := by
  unfold mrgs mrgsTo mrow at h
  rw [List.mem_flatMap] at h
  obtain ⟨i, hi, h⟩ := h
  rw [List.mem_flatMap] at h
  obtain ⟨d, hd, h⟩ := h
  have hd := List.mem_range.mp hd
  unfold pickd at h
  split at h
  · rename_i e
    rw [List.mem_singleton] at h
    exact ⟨i, i + 1 + d, h, by omega, by omega, e⟩
  · cases h
/-! ### a merge -/
def nmS (a b s : Int) : Int := if s = b then a else if b < s then s - 1 else s
def mrgP (a b : Int) (ps : Ps) : Ps := (ps.filter fun p => decide (p.2 ≠ b)).map fun p => (nmS a b p.1, nmS a b p.2)
theorem nmS_rg {a b s n : Int} (h0 : 0 ≤ a) (h1 : a < b) (h2 : b < n) (s0 : 0 ≤ s) (s1 : s < n) : 0 ≤ nmS a b s ∧ nmS a b s < n - 1 := by
  unfold nmS
  by_cases e : s = b
  · rw [if_pos e]
    omega
  · rw [if_neg e]
    by_cases e2 : b < s
    · rw [if_pos e2]
      omega
    · rw [if_neg e2]
      omega
theorem mrg_valid {n : Nat} {ps : Ps} {i j : Nat} (h : VaP n ps) (h1 : i < j) (h2 : j < n) (e : colL n ps i = colL n ps j) : VaP ((n : Int) - 1) (mrgP i j ps) := by
  refine ⟨fun p hp => ?_, fun k k0 k1 => ?_⟩
  · obtain ⟨q, hq, rfl⟩ := List.mem_map.mp hp
    obtain ⟨a1, a2, a3, a4⟩ := h.rg q (List.mem_filter.mp hq).1
    have x := nmS_rg (a := i) (b := j) (n := n) (by omega) (by omega) (by omega) a1 a2
    have y := nmS_rg (a := i) (b := j) (n := n) (by omega) (by omega) (by omega) a3 a4
    exact ⟨x.1, x.2, y.1, y.2⟩
  · obtain ⟨s, s0, s1, sj, sk⟩ : ∃ s : Int, 0 ≤ s ∧ s < n ∧ s ≠ j ∧ nmS i j s = k := by
      by_cases c : k < j
      · refine ⟨k, k0, by omega, by omega, ?_⟩
        unfold nmS
        rw [if_neg (by omega), if_neg (by omega)]
      · refine ⟨k + 1, by omega, by omega, by omega, ?_⟩
        unfold nmS
        rw [if_neg (by omega), if_pos (by omega)]
        omega
    obtain ⟨p, hp, es⟩ := h.sr s s0 s1
    by_cases c : p.2 = j
    · have es' : s = ((s.toNat : Nat) : Int) := (Int.toNat_of_nonneg s0).symm
      have m1 : (((s.toNat : Nat) : Int), ((j : Nat) : Int)) ∈ ps := by
        rw [← es', ← c, ← es]
        exact hp
      have m2 := cnt_pos.mpr m1
      rw [← colL_eq e (by omega)] at m2
      have m3 := cnt_pos.mp m2
      refine ⟨_, List.mem_map.mpr ⟨_, List.mem_filter.mpr ⟨m3, decide_eq_true (by show ((i : Nat) : Int) ≠ _; omega)⟩, rfl⟩, ?_⟩
      show nmS i j ((s.toNat : Nat) : Int) = k
      rw [← es']
      exact sk
    · refine ⟨_, List.mem_map.mpr ⟨p, List.mem_filter.mpr ⟨hp, decide_eq_true c⟩, rfl⟩, ?_⟩
      show nmS i j p.1 = k
      rw [es]
      exact sk
theorem mrgP_len (a b : Int) (ps : Ps) : (mrgP a b ps).length ≤ ps.length := by
  unfold mrgP
  rw [List.length_map]
  exact List.length_filter_le _ _
/-! ### the least plan -/
def lst : Nat → Ps → Ps × Nat × Ps
  | 0, ps => ([], 0, ps)
  | n + 1, ps => match mrgs (n + 1) ps with
    | [] => ([], n + 1, ps)
    | p :: _ => (p :: (lst n (mrgP p.1 p.2 ps)).1, (lst n (mrgP p.1 p.2 ps)).2)
theorem lst_done {n : Nat} {ps : Ps} (h : mrgs n ps = []) : lst n ps = ([], n, ps) := by
  cases n with
  | zero => rfl
  | succ n =>
    show (match mrgs (n + 1) ps with | [] => ([], n + 1, ps) | p :: _ => _) = _
    rw [h]
theorem lst_step {n : Nat} {ps : Ps} {p : Int × Int} {r : Ps} (h : mrgs n ps = p :: r) : lst n ps = (p :: (lst (n - 1) (mrgP p.1 p.2 ps)).1, (lst (n - 1) (mrgP p.1 p.2 ps)).2) := by
  cases n with
  | zero => cases h
  | succ n =>
    show (match mrgs (n + 1) ps with | [] => ([], n + 1, ps) | p :: _ => (p :: (lst n (mrgP p.1 p.2 ps)).1, (lst n (mrgP p.1 p.2 ps)).2)) = _
    rw [h]
    rfl
theorem lst_end (n : Nat) : ∀ ps, mrgs (lst n ps).2.1 (lst n ps).2.2 = [] := by
  induction n with
  | zero => intro ps; rfl
  | succ n ih =>
    intro ps
    cases h : mrgs (n + 1) ps with
    | nil =>
      rw [lst_done h]
      exact h
    | cons p r =>
      rw [lst_step h]
      exact ih _
theorem lst_len (n : Nat) : ∀ ps, (lst n ps).1.length ≤ n := by
  induction n with
  | zero => intro ps; exact Nat.le_refl _
  | succ n ih =>
    intro ps
    cases h : mrgs (n + 1) ps with
    | nil =>
      rw [lst_done h]
      exact Nat.zero_le _
    | cons p r =>
      rw [lst_step h]
      have := ih (mrgP p.1 p.2 ps)
      show (lst n (mrgP p.1 p.2 ps)).1.length + 1 ≤ n + 1
      omega
/-- merges one after another, each allowed -/
inductive Chn : Nat → Ps → Ps → Nat → Ps → Prop
  | nil {n : Nat} {ps : Ps} : Chn n ps [] n ps
  | cons {n : Nat} {ps st qs : Ps} {i j m : Nat} : i < j → j < n → colL n ps i = colL n ps j → Chn (n - 1) (mrgP i j ps) st m qs → Chn n ps (((i : Int), (j : Int)) :: st) m qs
theorem lst_chn (n : Nat) : ∀ ps, Chn n ps (lst n ps).1 (lst n ps).2.1 (lst n ps).2.2 := by
  induction n with
  | zero => intro ps; exact .nil
  | succ n ih =>
    intro ps
    cases h : mrgs (n + 1) ps with
    | nil =>
      rw [lst_done h]
      exact .nil
    | cons p r =>
      rw [lst_step h]
      obtain ⟨i, j, rfl, h1, h2, h3⟩ := mrgs_mem (show p ∈ mrgs (n + 1) ps by rw [h]; exact List.mem_cons_self)
      exact .cons h1 h2 h3 (ih _)
theorem lst_valid (n : Nat) : ∀ ps, VaP (n : Int) ps → 1 ≤ n → VaP ((lst n ps).2.1 : Int) (lst n ps).2.2 ∧ 1 ≤ (lst n ps).2.1 ∧ (lst n ps).2.1 ≤ n ∧ (lst n ps).2.2.length ≤ ps.length := by
  induction n with
  | zero => intro ps h h1; omega
  | succ n ih =>
    intro ps h h1
    cases e : mrgs (n + 1) ps with
    | nil =>
      rw [lst_done e]
      exact ⟨h, h1, Nat.le_refl _, Nat.le_refl _⟩
    | cons p r =>
      obtain ⟨i, j, rfl, h1, h2, h3⟩ := mrgs_mem (show p ∈ mrgs (n + 1) ps by rw [e]; exact List.mem_cons_self)
      rw [lst_step e]
      have v := mrg_valid h h1 h2 h3
      have v : VaP (n : Int) (mrgP i j ps) := by
        have : ((n + 1 : Nat) : Int) - 1 = (n : Int) := by omega
        rw [this] at v
        exact v
      obtain ⟨a1, a2, a3, a4⟩ := ih _ v (by omega)
      have := mrgP_len i j ps
      exact ⟨a1, a2, Nat.le_succ_of_le a3, Nat.le_trans a4 this⟩
end Lw
set_option Elab.async false
set_option linter.all false
/-! rows as sequences, and their normal form -/
namespace Lw
/-- the edge at a place -/
def sq (xs ys : List Int) (i : Nat) : Int := if i < xs.length then xs.getD i 0 else ys.getD ((i - xs.length) % ys.length) 0
def Per (s : Nat → Int) (m p : Nat) : Prop := ∀ i, m ≤ i → s i = s (i + p)
structure IsNF (s : Nat → Int) (m p : Nat) : Prop where
  p1 : 1 ≤ p
  per : Per s m p
  minp : ∀ m' p', 1 ≤ p' → Per s m' p' → p ≤ p'
  minm : ∀ m', Per s m' p → m ≤ m'
theorem IsNF.uniq {s : Nat → Int} {m p m' p' : Nat} (h : IsNF s m p) (h' : IsNF s m' p') : m = m' ∧ p = p' := by
  have e : p = p' := Nat.le_antisymm (h.minp m' p' h'.p1 h'.per) (h'.minp m p h.p1 h.per)
  subst e
  exact ⟨Nat.le_antisymm (h.minm m' h'.per) (h'.minm m h.per), rfl⟩
/-- the first n from m on -/
def seg (s : Nat → Int) (m n : Nat) : List Int := (List.range n).map fun k => s (m + k)
theorem seg_len (s : Nat → Int) (m n : Nat) : (seg s m n).length = n := by
  unfold seg
  simp
theorem seg_get (s : Nat → Int) (m n k : Nat) (h : k < n) : (seg s m n).getD k 0 = s (m + k) := by
  unfold seg
  simp [List.getD, h]
theorem seg_get? (s : Nat → Int) (m n k : Nat) (h : k < n) : (seg s m n)[k]? = some (s (m + k)) := by
  unfold seg
  simp [h]
theorem Per.mono {s : Nat → Int} {m m' p : Nat} (h : Per s m p) (hm : m ≤ m') : Per s m' p := fun i hi => h i (Nat.le_trans hm hi)
theorem Per.mul {s : Nat → Int} {m p : Nat} (h : Per s m p) : ∀ (k i : Nat), m ≤ i → s i = s (i + k * p)
  | 0, i, _ => by simp
  | k + 1, i, hi => by
    rw [h.mul k i hi, h (i + k * p) (by omega)]
    congr 1
    rw [Nat.succ_mul]
    omega
/-- the tail of a row is periodic -/
theorem sq_per (xs ys : List Int) (hy : ys ≠ []) : Per (sq xs ys) xs.length ys.length := fun i hi => by
  have h0 : 0 < ys.length := List.length_pos_iff.mpr hy
  unfold sq
  rw [if_neg (by omega), if_neg (by omega), show i + ys.length - xs.length = (i - xs.length) + ys.length by omega, Nat.add_mod_right]
/-- two places behind m that differ by a multiple of p -/
theorem Per.cong {s : Nat → Int} {m p : Nat} (h : Per s m p) (hp : 0 < p) {i j : Nat} (hi : m ≤ i) (hj : m ≤ j) (e : i % p = j % p) : s i = s j := by
  rcases Nat.le_total i j with hij | hij
  · have : j = i + ((j - i) / p) * p := by
      have h1 : (j - i) % p = 0 := Nat.sub_mod_eq_zero_of_mod_eq e.symm
      have h2 := Nat.div_add_mod (j - i) p
      rw [h1, Nat.mul_comm] at h2
      omega
    rw [this]
    exact h.mul _ i hi
  · have : i = j + ((i - j) / p) * p := by
      have h1 : (i - j) % p = 0 := Nat.sub_mod_eq_zero_of_mod_eq e
      have h2 := Nat.div_add_mod (i - j) p
      rw [h1, Nat.mul_comm] at h2
      omega
    rw [this]
    exact (h.mul _ j hj).symm
/-- a period that holds somewhere holds from where the row repeats -/
theorem Per.back {s : Nat → Int} {h n m p : Nat} (t : Per s h n) (hn : 0 < n) (q : Per s m p) : Per s h p := fun i hi => by
  have e1 := t.mul m i hi
  have e2 := t.mul m (i + p) (by omega)
  have hm : m ≤ i + m * n := by
    have : m ≤ m * n := Nat.le_mul_of_pos_right m hn
    omega
  rw [e1, e2, q (i + m * n) hm]
  congr 1
  omega
/-- the least period divides every period of the tail -/
theorem least_dvd {s : Nat → Int} {h n p : Nat} (t : Per s h n) (q : Per s h p) (hp : 0 < p) (hmin : ∀ p', 1 ≤ p' → Per s h p' → p ≤ p') : n % p = 0 := by
  by_cases hz : n % p = 0
  · exact hz
  · exfalso
    have hr : Per s h (n % p) := fun i hi => by
      have e1 := q.mul (n / p) (i + n % p) (by omega)
      have e2 := Nat.div_add_mod n p
      rw [e1, t i hi]
      congr 1
      rw [Nat.mul_comm] at e2
      omega
    have := hmin (n % p) (by omega) hr
    have := Nat.mod_lt n hp
    omega
/-- a least period and a least beginning give the normal form -/
theorem nf_of {s : Nat → Int} {h n m p : Nat} (t : Per s h n) (hn : 0 < n) (hp : 1 ≤ p) (hmin : ∀ p', 1 ≤ p' → Per s h p' → p ≤ p') (q : Per s m p) (hm : ∀ m', Per s m' p → m ≤ m') : IsNF s m p :=
  ⟨hp, q, fun m' p' h1 q' => hmin p' h1 (t.back hn q'), hm⟩
/-- the row of a normal form is the same row -/
theorem sq_seg {s : Nat → Int} {m p : Nat} (hp : 0 < p) (q : Per s m p) : sq (seg s 0 m) (seg s m p) = s := by
  funext i
  unfold sq
  rw [seg_len, seg_len]
  by_cases hi : i < m
  · rw [if_pos hi, seg_get s 0 m i hi, Nat.zero_add]
  · rw [if_neg hi, seg_get s m p _ (Nat.mod_lt _ hp)]
    refine q.cong hp (Nat.le_add_right _ _) (by omega) ?_
    rw [Nat.add_mod, Nat.mod_mod, ← Nat.add_mod, show m + (i - m) = i by omega]
/-- the tail's period, seen in a window of one turn -/
theorem per_window {s : Nat → Int} {h n p a b : Nat} (t : Per s h n) (hn : 0 < n) (ha : a ≤ h) (hb : h + n ≤ b) (w : ∀ i, a ≤ i → i < b → s i = s (i + p)) : Per s a p := fun i hi => by
  by_cases hlt : i < b
  · exact w i hi hlt
  · have hlo : h + (i - h) % n < b := by
      have := Nat.mod_lt (i - h) hn
      omega
    have e1 : s i = s (h + (i - h) % n) := t.cong hn (by omega) (by omega) (by
      rw [Nat.add_mod h ((i - h) % n), Nat.mod_mod, ← Nat.add_mod, show h + (i - h) = i by omega])
    have e2 : s (i + p) = s (h + (i - h) % n + p) := t.cong hn (by omega) (by omega) (by
      have e : (h + (i - h) % n) % n = i % n := by
        rw [Nat.add_mod h ((i - h) % n), Nat.mod_mod, ← Nat.add_mod, show h + (i - h) = i by omega]
      rw [Nat.add_mod i p, Nat.add_mod (h + (i - h) % n) p, e])
    rw [e1, e2]
    exact w _ (by omega) hlo
end Lw
set_option Elab.async false
set_option linter.all false
set_option maxRecDepth 100000
/-! tuples of ints, rows -/
namespace Lw
open PySem L2
/-! ### tuples of ints -/
def TI (H : Hp) (a : Addr) (xs : List Int) : Prop := H a = some (.tup (xs.map V.int))
theorem TI.same {H H' : Hp} {a : Addr} {xs : List Int} (h : TI H a xs) (s : Same H H') : TI H' a xs := s _ _ h
section
variable {K : PySem.W.Frag}
theorem slA {H : Hp} {a : Addr} {xs : List V} {lo hi : Option Int} {Q : VK} (h : H a = some (.tup xs)) (q : ∀ r H', Same H H' → H' r = some (.tup (cutV xs lo hi)) → Q (.ref r) H') : rSlA K (.ref a) lo hi H Q := by
  refine ⟨a, xs, rfl, SqT.of h, fun z => q a H (fun _ _ e => e) ?_, fun _ p hp => q p _ (same_upd hp) upd_same⟩
  rw [h]
  unfold cutV
  rw [z.1, z.2]
  simp
theorem catA {H : Hp} {a b : Addr} {xs ys : List V} {Q : VK} (h : H a = some (.tup xs)) (h2 : H b = some (.tup ys)) (hl : xs.length + ys.length ≤ 1000) (q : ∀ r H', Same H H' → H' r = some (.tup (xs ++ ys)) → Q (.ref r) H') : rCatA K (.ref a) (.ref b) H Q := by
  refine ⟨a, b, xs, ys, rfl, rfl, SqT.of h, SqT.of h2, Nat.le_of_lt (small1000 hl), fun z => q b H (fun _ _ e => e) ?_, fun _ z => q a H (fun _ _ e => e) ?_, fun _ _ p hp => q p _ (same_upd hp) upd_same⟩
  · rw [h2, z]
    rfl
  · rw [h, z, List.append_nil]
theorem cut_lo' {xs : List V} {k : Nat} (h : k ≤ xs.length) : cutV xs none (some (k : Int)) = xs.take k := by
  unfold cutV
  rw [HT.sIx_none, HT.sIx_nat, Nat.min_eq_left h]
  simp
theorem cut_hi' {xs : List V} {k : Nat} (h : k ≤ xs.length) : cutV xs (some (k : Int)) none = xs.drop k := by
  unfold cutV
  rw [HT.sIx_none, HT.sIx_nat, Nat.min_eq_left h]
  rw [List.take_of_length_le]
  rw [List.length_drop]
  exact Nat.le_refl _
end
def rot (ys : List Int) (j : Nat) : List Int := ys.drop j ++ ys.take j
theorem dp_ints {K : PySem.W.Frag} {H : Hp} : ∀ xs : List Int, DpAll K H (xs.map V.int) (xs.map PyData.int)
  | [] => .nil
  | x :: xs => .cons (.int x) (dp_ints xs)
theorem eqv_ints : ∀ xs ys : List Int, PyData.eqvAll (xs.map PyData.int) (ys.map PyData.int) = decide (xs = ys)
  | [], [] => rfl
  | [], _ :: _ => rfl
  | _ :: _, [] => rfl
  | x :: xs, y :: ys => by
    show ((x == y) && PyData.eqvAll (xs.map PyData.int) (ys.map PyData.int)) = decide (x :: xs = y :: ys)
    rw [eqv_ints xs ys]
    by_cases h : x = y <;> by_cases h2 : xs = ys <;> simp [h, h2]
theorem lay_ints : ∀ xs : List Int, PyData.canLayAll0 (xs.map PyData.int) = true
  | [] => rfl
  | x :: xs => by
    show (true && PyData.canLayAll0 (xs.map PyData.int)) = true
    rw [lay_ints xs]
    rfl
theorem dep_ints : ∀ xs : List Int, PyData.depthAll (xs.map PyData.int) = 0
  | [] => rfl
  | x :: xs => by
    show max 0 (PyData.depthAll (xs.map PyData.int)) = 0
    rw [dep_ints xs]
    rfl
theorem sh_ints (xs : List Int) : SeqAt.shaped (.tuple (xs.map PyData.int)) = true := by
  show (PyData.canLayAll0 (xs.map PyData.int) && decide (PyData.depthAll (xs.map PyData.int) + 1 ≤ 64)) = true
  rw [lay_ints, dep_ints]
  rfl
/-! ### rows -/
def RowAt (H : Hp) (r : Addr) (xs ys : List Int) : Prop := ∃ h c, H r = some (.tup [.ref h, .ref c]) ∧ TI H h xs ∧ TI H c ys
theorem RowAt.same {H H' : Hp} {r : Addr} {xs ys : List Int} (h : RowAt H r xs ys) (s : Same H H') : RowAt H' r xs ys := by
  obtain ⟨a, c, h1, h2, h3⟩ := h
  exact ⟨a, c, s _ _ h1, h2.same s, h3.same s⟩
theorem int_at {xs : List Int} {j : Nat} (h : j < xs.length) : atI (xs.map V.int) (j : Int) = some (.int (xs.getD j 0)) := by
  refine atI_nat ?_
  rw [List.getElem?_map, List.getElem?_eq_getElem h]
  simp [List.getD, h]
theorem TI.keep {H H' : Hp} {b l a : Addr} {ns xs : List Int} (h : TI H a xs) (B : BagAt H b l ns) (k : KeepB b H H') : TI H' a xs := k _ _ (B.ne_tup h) h
theorem RowAt.keep {H H' : Hp} {b l r : Addr} {ns xs ys : List Int} (h : RowAt H r xs ys) (B : BagAt H b l ns) (k : KeepB b H H') : RowAt H' r xs ys := by
  obtain ⟨a, c, h1, h2, h3⟩ := h
  exact ⟨a, c, k _ _ (B.ne_tup h1) h1, h2.keep B k, h3.keep B k⟩
end Lw
set_option Elab.async false
set_option linter.all false
set_option maxRecDepth 100000
/-! t.index(n), t a tuple of ints that holds n -/
namespace Lw
open PySem PySem.Spec PyProof.Rows L2
def rTix (K : PySem.W.Frag) : V → List V → Hp → VK → Prop := fun x xs H Q => ∃ (p : Addr) (ys : List Int) (z : Int) (j : Nat), x = .ref p ∧ xs = [.int z] ∧ SqT K H p (ys.map V.int) ∧ ys[j]? = some z ∧ (∀ m, m < j → ys[m]? ≠ some z) ∧ Q (.int (j : Nat)) H
theorem mt_tIx {X : Cx} : MtR X "tuple.index" (rTix X.K) := by
  rintro pins t σ H _ _ v us Q I rx rs ⟨p, ys, z, j, rfl, rfl, hq, hy, first, q⟩
  cases rx
  cases rs with
  | cons r1 r2 =>
    cases r2
    obtain ⟨tk, rfl⟩ := r1
    obtain ⟨its, r, ⟨⟨c, dd, dat, sl⟩, get, hc, m, hd⟩, _⟩ := I.tuple hq
    simp only at hc hd
    subst hc hd
    have len : its.toArray.size = ys.length := by rw [List.size_toArray, ← r.length, List.length_map]
    have item : ∀ (i : Nat) (hi : i < its.toArray.size), ∃ k, its.toArray[i] = Value.int (ys.getD i 0) k := fun i hi => by
      have hi' : i < ys.length := len ▸ hi
      obtain ⟨u, hu, k, ek⟩ := r.get (i := i) (x := .int (ys.getD i 0)) (by simp [hi'])
      refine ⟨k, ?_⟩
      rw [← ek, ← (List.getElem?_eq_some_iff.mp hu).2]
      simp
    have flat : (ys.map V.int).all flatV = true := by
      rw [List.all_map]
      exact List.all_eq_true.mpr fun _ _ => rfl
    have yj : ys.getD j 0 = z := by simp [List.getD, hy]
    have jl : j < its.toArray.size := by
      rw [len]
      exact (List.getElem?_eq_some_iff.mp hy).1
    refine call_meets PySem.F.slot_tuple_index ⟨_, get, rfl⟩ PySem.F.entry_tuple_index (PySem.F.args_tuple_index_2 _ _) (_root_.TI.tuple_indexAt p its.toArray m dd sl (.int z tk) (eqU (.int z)) j jl ?_ ?_)
      ⟨get, fun u hu => mem_eqAt (x := .int z) ⟨tk, rfl⟩ rfl r flat u (by simpa using hu), ⟨.int (j : Nat), H, I.tok _, ⟨_, rfl⟩, q⟩⟩
    · obtain ⟨k, e⟩ := item j jl
      rw [e, yj]
      show (z == z) = true
      simp
    · intro i hi ij
      obtain ⟨k, e⟩ := item i hi
      rw [e]
      have hi' : i < ys.length := len ▸ hi
      have ne : ys.getD i 0 ≠ z := fun w => first i ij (by simp [List.getD, hi'] at w ⊢; exact w)
      show (ys.getD i 0 == z) = false
      simpa using ne
end Lw
set_option Elab.async false
set_option linter.all false
set_option maxRecDepth 100000
/-! a tuple made by tuple(xs), of which it is known that it has no attributes of its own; its method index -/
namespace Lw
open PySem PySem.Spec PyProof.Rows L2
def FT (H : Hp) (a : Addr) (xs : List Int) : Prop := ∃ ob : Obj, ob.dict = none ∧ H a = some (.frz ob (.tup (xs.map V.int)))
theorem FT.sq {K : PySem.W.Frag} {H : Hp} {a : Addr} {xs : List Int} (h : FT H a xs) : SqT K H a (xs.map V.int) := by
  obtain ⟨ob, _, e⟩ := h
  exact .inl (.inr ⟨ob, e⟩)
theorem FT.same {H H' : Hp} {a : Addr} {xs : List Int} (h : FT H a xs) (s : Same H H') : FT H' a xs := by
  obtain ⟨ob, d, e⟩ := h
  exact ⟨ob, d, s _ _ e⟩
section
variable {X : Cx}
theorem call_tupleF : CallR X (.type "tuple") (fun xs H Q => ∃ (p : Addr) (ys : List V), xs = [.ref p] ∧ SqL X.K H p ys ∧ ∀ (l : Addr) (ob : Obj), H l = none → ob.dict = none → Q (.ref l) (upd H l (.frz ob (.tup ys)))) := by
  rintro pins t σ H _ us Q I r ⟨p, ys, rfl, hq, q⟩
  rw [Vals.ref1 r]
  obtain ⟨its, vs, pl, sz⟩ := I.list hq
  have len := vs.length
  refine call_tuple_list pl.isList (fun h' up => ?_) (by simp only [List.size_toArray] <;> omega)
  have J : Inv X pins σ H { t with heap := h' } := I.kept (t' := t.toks) up
  refine ⟨.ref h'.objs.size, _, J.laid (t' := t.toks) (o := .frz { cls := .type "tuple", data := .seq its.toArray } (.tup ys)) (fun b o e => Heap.get?_push_of_some _ e) (Nat.le_refl _) ⟨Heap.get?_push_size _ rfl, sz, its, vs, IsTup.new _ _⟩, rfl, q _ _ (J.hok.fresh (Nat.le_refl _)) rfl⟩
def tTix (K : PySem.W.Frag) (to : TE) (ta : TA) : TE := fun σ H Q => to σ H fun x H1 => (∃ (p : Addr) (ys : List Int), x = .ref p ∧ FT H1 p ys) ∧ ta σ H1 fun xs H2 => rTix K x xs H2 Q
theorem pe_tIx {o e : Expr} {to : TE} {ta : TA} {apos cpos : Pos} (ho : PE X o to) (ha : PA X [e] ta) (hbase : attributeBase o "index" X.env (eval o X.env) = eval o X.env := by rfl)
    (hfew : ((backTo cpos (starEach [e] X.env)).all (fun x => !x.1) && (backToKw cpos (keywordEach [] X.env)).all (fun x => x.1.isSome) && decide ([e].length + ([] : List Keyword).length + (if ([] : List Keyword).isEmpty then 0 else 1) < 30)) = true := by rfl)
    (hline : (apos.endLine == cpos.line) = true := by rfl) (hst : starEach [e] X.env = (false, eval e X.env) :: starEach [] X.env := by rfl) (hpl : (backTo cpos (starEach [] X.env)).any (·.1) = false := by rfl) :
    PE X (.Call (.Attribute o "index" apos) [e] [] cpos) (tTix X.K to ta) := by
  constructor
  intro pins t σ H Q I h
  refine wpAny_Call_method_late hbase hfew hline rfl (wpAny_mono (ho.run pins t σ H _ I h) ?_ fun _ _ z => z)
  rintro v t1 ⟨_, H1, I1, rv, ⟨p, ys, rfl, ft⟩, q1⟩
  cases rv
  obtain ⟨ob, nd, hp⟩ := id ft
  obtain ⟨get, _⟩ := I1.hok p _ hp
  obtain ⟨its, vs, ⟨o2, g2, c2, _⟩, _⟩ := I1.tuple ft.sq
  refine ⟨"tuple", "tuple.index", PySem.F.plainAttrs_tuple, PySem.F.slot_tuple_index, PySem.F.type_tuple_index, ⟨o2, g2, c2⟩, fun b eb => ?_, ?_⟩
  · cases eb
    exact ⟨ob, get, nd⟩
  have go := ha.run cpos pins t1 σ H1 _ I1 q1
  rw [hst] at go ⊢
  refine Calls.callWith_builtin (by show (false || (backTo cpos (starEach [] X.env)).any (·.1)) = false; rw [hpl] <;> rfl) (Calls.evalArgs_plain (wpAny_mono go ?_ fun _ _ z => z))
  rintro us t2 ⟨xs, H2, I2, r2, q2⟩
  exact mt_tIx pins t2 σ H2 (.ref p) xs (.ref p) us Q I2 rfl r2 q2
end
end Lw
set_option Elab.async false
set_option linter.all false
set_option maxRecDepth 100000
/-! shuffled numbers: all numbers below m, in some order -/
namespace Lw
open PySem L2
abbrev sShuf : Stmt := top 39
def nums (m : Nat) : List Int := (List.range m).map fun k => ((k : Nat) : Int)
def PmN (m : Nat) (xs : List Int) : Prop := xs.Perm (nums m)
theorem nums_succ (m : Nat) : nums (m + 1) = nums m ++ [(m : Int)] := by
  unfold nums
  rw [List.range_succ, List.map_append]
  rfl
theorem PmN.len {m : Nat} {xs : List Int} (h : PmN m xs) : xs.length = m := by
  have := h.length_eq
  unfold nums at this
  simpa using this
theorem PmN.mem {m : Nat} {xs : List Int} (h : PmN m xs) {z : Int} : z ∈ xs ↔ 0 ≤ z ∧ z < m := by
  rw [h.mem_iff]
  unfold nums
  rw [List.mem_map]
  constructor
  · rintro ⟨k, hk, rfl⟩
    have := List.mem_range.mp hk
    omega
  · intro hz
    exact ⟨z.toNat, List.mem_range.mpr (by omega), Int.toNat_of_nonneg hz.1⟩
theorem PmN.snoc {m : Nat} {xs : List Int} (h : PmN m xs) (v : Nat) : PmN (m + 1) (xs.take v ++ [(m : Int)] ++ xs.drop v) := by
  unfold PmN
  rw [nums_succ]
  have h1 : (xs.take v ++ [(m : Int)] ++ xs.drop v).Perm ((m : Int) :: xs) := by
    rw [List.append_assoc]
    refine List.perm_append_comm.trans ?_
    show ((m : Int) :: xs.drop v ++ xs.take v).Perm ((m : Int) :: xs)
    rw [List.cons_append]
    refine .cons _ (List.perm_append_comm.trans ?_)
    rw [List.take_append_drop]
  exact h1.trans ((List.Perm.cons _ h).trans (List.perm_append_comm (l₁ := [(m : Int)]) (l₂ := nums m)))
def spShuf : Sp := fun vs H Q _ => ∃ (b l : Addr) (ns : List Int) (m : Nat), vs = [.ref b, .int (m : Int)] ∧ BagAt H b l ns ∧ m ≤ 40 ∧
  ∀ (t : Addr) (H' : Hp) (xs : List Int), KeepB b H H' → BagAt H' b l ns → FT H' t xs → PmN m xs → Q (.ref t) H'
theorem BagAt.ne_frz {H : Hp} {a b l : Addr} {ns : List Int} {ob : Obj} {u : HO} (B : BagAt H b l ns) (h : H a = some (.frz ob u)) : a ≠ b := fun z => by
  obtain ⟨o, ho, i, r, s, rfl, _⟩ := B.ob
  rw [z, ho] at h
  cases h
theorem FT.keep {H H' : Hp} {a b l : Addr} {ns xs : List Int} (h : FT H a xs) (B : BagAt H b l ns) (k : KeepB b H H') : FT H' a xs := by
  obtain ⟨ob, d, e⟩ := h
  exact ⟨ob, d, k _ _ (B.ne_frz e) e⟩
section
variable {P : Program} {w : World} {K : PySem.W.Frag} {mg : Str → Option Value} {base : Heap} {f : Addr} {fd : FuncData} {k : Nat}
theorem scShuf : FnScope ["_law_bag_here", "_law_many", "_law_found", "_law_k"] ["_law_bag_here", "_law_many"] (defScope sShuf) := ⟨rfl, rfl, rfl, by decide +kernel, rfl, by decide +kernel, by decide +kernel⟩
set_option maxHeartbeats 4000000 in
theorem ok_shuf (F : Fun K "_law_shuffled" "_law_shuffled" sShuf f fd) (T : Bi mg) (cP : C8.Cal P w K mg base 1 "_law_pull" spPull []) : FnOk P w K mg base CX0 (k + 2) f fd ["_law_bag_here", "_law_many"] spShuf := by
  refine F.ok scShuf (fun vs H Q E h => ?_) (fun cdv A outer s H vs Q E hr h => ?_)
  · obtain ⟨b, l, ns, m, rfl, _⟩ := h
    rfl
  · obtain ⟨b, l, ns, m, rfl, B, hm, q⟩ := h
    refine ⟨_, pss_cons (ps_set (i := 2) scShuf.nd rfl (Or.inl rfl) (pe_lst pa_nil))
      (pss_cons (ps_for PassesOwn.never rfl (pi_range1 (by rfl) T.range (pa_cons (pv 1) pa_nil)) (pg_name (i := 3) scShuf.nd rfl (Or.inl rfl))
        (pss_one (ps_expr (pe_bm PySem.F.plainAttrs_list PySem.F.slot_list_insert PySem.F.type_list_insert mt_insert (pv 2) (pa_cons (C8.pe_c cP hr (by omega) (by rfl) (pa_cons (pv 0) (pa_cons (pe_op op_add (pe_callB call_len_seq (by rfl) T.len PySem.boot_len (pa_cons (pv 2) pa_nil)) pe_int) pa_nil))) (pa_cons (pv 3) pa_nil))))))
      (pss_one (ps_ret (pe_callTy call_tupleF (by rfl) T.tuple (by decide +kernel) (pa_cons (pv 2) pa_nil))))), ?_⟩
    refine ⟨(by show 0 ≤ sizeLine; exact Nat.zero_le _), fun L hL => ?_⟩
    have nb := B.ne_new hL
    have nl := (ne_of_none B.sc hL).symm
    refine ⟨_, rfl, (m : Int), rfl, by omega, by omega, ?_⟩
    refine for_it (walk_range (lo := 0) (n := ((m : Int)).toNat)) (fun i σ H' => ∃ (v3 : Option V) (xs : List Int), σ = [some (.ref b), some (.int (m : Int)), some (.ref L), v3] ∧ KeepB b H H' ∧ BagAt H' b l ns ∧ H' L = some (.lst (xs.map V.int)) ∧ PmN i xs)
      ⟨none, [], rfl, .of_same (same_upd hL), B.new hL, upd_same, .refl _⟩ (fun _ _ _ _ _ => True.intro) ?_ ?_
    · rintro i x σ H1 H2 hi ⟨v3, xs, rfl, k1, B1, e1, pm⟩ ⟨rfl, rfl⟩
      have hl := pm.len
      have hi : i < m := by omega
      refine ⟨_, rfl, .inl ⟨rfl, _, SqL.of e1⟩, _, rfl, _, rfl, L, _, rfl, .inl (SqL.of e1), _, _, rfl, rfl, b, l, ns, _, rfl, B1, by rw [List.length_map]; omega, ?_, fun v o v0 v1 BO => ?_⟩
      · rw [List.length_map, hl]
        have : (i : Int) + 1 ≤ 41 := by omega
        exact Int.lt_of_le_of_lt this (by decide)
      have e2 : upd H2 b o L = some (.lst (xs.map V.int)) := (upd_ne nb).trans e1
      have B2 := B1.upd BO
      have k2 := k1.trans (KeepB.updb (o := o))
      generalize upd H2 b o = H3 at *
      rw [List.length_map] at v1
      refine ⟨_, rfl, L, _, v, .int (0 + (i : Int)), rfl, rfl, e2, by rw [List.length_map]; exact small1000 (by omega), v0, Int.lt_of_lt_of_le v1 (by have : (2 : Int) ^ 63 = 9223372036854775808 := rfl; omega), ?_⟩
      refine ⟨_, xs.take v.toNat ++ [(i : Int)] ++ xs.drop v.toNat, rfl, k2.at hL, B2.off nb nl, ?_, pm.snoc _⟩
      rw [upd_same, List.map_append, List.map_append, List.map_take, List.map_drop, Int.zero_add]
      rfl
    · rintro σ H1 ⟨v3, xs, rfl, k1, B1, e1, pm⟩
      rw [Int.toNat_natCast] at pm
      refine ⟨_, rfl, L, _, rfl, SqL.of e1, fun t ob ht nd => ?_⟩
      exact q t _ xs (k1.new ht) (B1.new ht) ⟨ob, nd, upd_same⟩ pm
end
end Lw
set_option Elab.async false
set_option linter.all false
set_option maxRecDepth 100000
/-! the law's table of counts -/
namespace Lw
open PySem L2
abbrev sCnts : Stmt := top 35
def spCnts : Sp := fun vs H Q _ => ∃ (p q : Addr) (n : Int) (ts : Es), vs = [.ref p] ∧ PlanAt H p q n ts ∧ n ≤ 40 ∧ ∀ (D : Addr) (H' : Hp) (rs : List Addr), Same H H' → CntAt H' D rs n.toNat (psOf ts) → Q (.ref D) H'
section
variable {P : Program} {w : World} {K : PySem.W.Frag} {mg : Str → Option Value} {base : Heap} {f : Addr} {fd : FuncData} {k : Nat}
abbrev NCn : List Str := ["_law_plan_here", "_law_table", "_law_state", "_law_source", "_law_target", "_law_row"]
theorem scCnts : FnScope NCn ["_law_plan_here"] (defScope sCnts) := ⟨rfl, rfl, rfl, by decide +kernel, rfl, by decide +kernel, by decide +kernel⟩
set_option maxHeartbeats 4000000 in
theorem ok_cnts (F : Fun K "_law_counts" "_law_counts" sCnts f fd) (T : Bi mg) : FnOk P w K mg base CX0 (k + 1) f fd ["_law_plan_here"] spCnts := by
  refine F.ok scCnts (fun vs H Q E h => ?_) (fun cdv A outer s H vs Q E hr h => ?_)
  · obtain ⟨p, q, n, ts, rfl, _⟩ := h
    rfl
  · obtain ⟨p, q0, n, ts, rfl, PA, hn, q⟩ := h
    have n1 := PA.n1
    refine ⟨_, pss_cons (ps_setLc (i := 1) (own := [("_law_state", 2)]) (g := gName 2) (tt := tYes) (te := tOp rRep (tLst (tCons (tC (.int 0)) tNil)) (tOp (rIxT K) (tVar 0) (tC (.int 0)))) rfl scCnts.nd rfl rfl (sw_true rfl rfl rfl (by decide +kernel))
          (pi_range1 (by rfl) T.range (pa_cons (pe_ix ix_tup (pv 0) pe_int (fun _ _ => rfl)) pa_nil))
          (blkOk_by (N := NCn) (sc := defScope sCnts) (by decide +kernel))
          (fun _ _ _ _ _ => by exact pg_name (i := 2) scCnts.nd rfl (Or.inl rfl))
          (fun _ _ _ _ _ => pts_nil)
          (fun _ _ _ _ _ => by exact pe_op op_rep (pe_lst (pa_cons pe_int pa_nil)) (pe_ix ix_tup (pv 0) pe_int (fun _ _ => rfl))))
      (pss_cons (ps_for PassesOwn.never rfl (pi_seqA (pe_ix ix_tup (pv 0) pe_int (fun _ _ => rfl))) (pg_tup rfl (pgs_cons (pg_name (i := 3) scCnts.nd rfl (.inl rfl)) (pgs_cons (pg_name (i := 4) scCnts.nd rfl (.inl rfl)) pgs_nil)))
        (pss_cons (ps_set (i := 5) scCnts.nd rfl (.inl rfl) (pe_ix ix_list (pv 1) (pv 3) (fun _ _ => rfl)))
        (pss_one (ps_asg (pe_op op_add (pe_ix ix_list (pv 5) (pv 4) (fun _ _ => rfl)) pe_int) (pg_sub (pv 5) (pv 4) set_list)))))
      (pss_one (ps_ret (pv 1)))), ?_⟩
    refine ⟨_, rfl, p, _, _, _, rfl, rfl, SqT.of PA.tp, rfl, n, rfl, by omega, by omega, fun D hD => ?_⟩
    refine lc_it (walk_range (lo := 0) (n := n.toNat)) (fun i H' => ∃ rs : List Addr, rs.length = i ∧ rs.Nodup ∧ Same H H' ∧ H' D = some (.lst (rs.map V.ref)) ∧ ∀ r ∈ rs, H r = none ∧ r ≠ D ∧ H' r = some (.lst (List.replicate n.toNat (V.int 0))))
      ⟨[], rfl, List.nodup_nil, same_upd hD, upd_same, fun r hr => by cases hr⟩ (fun _ _ _ _ => True.intro) ?_ ?_
    · rintro i x H0 H1 hi ⟨rs, hrs, nd, sm, eD, hh⟩ ⟨rfl, rfl⟩
      refine ⟨rfl, ?_⟩
      refine ⟨(by show 1 ≤ sizeLine; decide), fun l hl => ?_⟩
      have s1 := same_upd (o := .lst [.int 0]) hl
      refine ⟨_, rfl, p, _, _, _, rfl, rfl, SqT.of (s1 _ _ (sm _ _ PA.tp)), rfl, l, n, _, rfl, rfl, upd_same, by omega, by omega, ?_, fun p2 hp => ?_⟩
      · show 1 * n.toNat ≤ sizeLine
        exact Nat.le_of_lt (small1000 (by omega))
      have s2 := s1.trans (same_upd (o := .lst (List.replicate n.toNat [V.int 0]).flatten) hp)
      have e0 : (List.replicate n.toNat [V.int 0]).flatten = List.replicate n.toNat (V.int 0) := by
        rw [List.flatten_replicate_singleton]
      have eD2 := s2 _ _ eD
      have pD : p2 ≠ D := fun z => by
        rw [z, s1 _ _ eD] at hp
        cases hp
      refine ⟨_, eD2, ?_, rs ++ [p2], by simp [hrs], ?_, ?_, ?_, ?_⟩
      · rw [List.length_map]
        exact small1000 (by omega)
      · rw [List.nodup_append]
        refine ⟨nd, (by simp), fun a ha b hb => ?_⟩
        rw [List.mem_singleton.mp hb]
        intro z
        have := s1 _ _ (hh a ha).2.2
        rw [z, hp] at this
        cases this
      · intro c o ec
        rw [upd_ne (ne_of_none ec hD)]
        exact s2 _ _ (sm _ _ ec)
      · rw [upd_same, List.map_append]
        rfl
      · intro r hr
        rcases List.mem_append.mp hr with hr | hr
        · obtain ⟨a1, a2, a3⟩ := hh r hr
          exact ⟨a1, a2, by rw [upd_ne a2]; exact s2 _ _ a3⟩
        · rw [List.mem_singleton.mp hr]
          refine ⟨(sm.trans s1).free hp, pD, ?_⟩
          rw [upd_ne pD, upd_same, e0]
    · rintro H1 ⟨rs, hrs, nd, sm, eD, hh⟩
      refine ⟨_, rfl, p, _, _, _, rfl, rfl, SqT.of (sm _ _ PA.tp), rfl, q0, vsOf ts, SqL, rfl, .inl rfl, SqL.of (sm _ _ PA.ls), fun J w => ?_⟩
      have start : CntAt H1 D rs n.toNat ((psOf ts).take 0) := ⟨eD, hrs, fun a r e => by
        rw [List.take_zero, cntRow_nil]
        exact (hh r (List.mem_of_getElem? e)).2.2⟩
      refine for_it w (fun i σ H' => ∃ v3 v4 v5 : Option V, σ = [some (.ref p), some (.ref D), none, v3, v4, v5] ∧ Same H H' ∧ CntAt H' D rs n.toNat ((psOf ts).take i)) ⟨_, _, _, rfl, sm, start⟩ (fun i σ H' _ p => by obtain ⟨_, _, _, _, s, _⟩ := p; exact SqL.of (s _ _ PA.ls)) ?_ ?_
      · rintro i x σ H2 H3 hi ⟨v3, v4, v5, rfl, sm2, ct⟩ ⟨rfl, gx⟩
        obtain ⟨e, he, rfl⟩ := vsOf_at gx
        have mem : e ∈ ts := List.mem_of_getElem? he
        obtain ⟨r1, r2, r3, r4⟩ := PA.va.rg e mem
        have ha : e.2.1.toNat < rs.length := by rw [ct.len]; omega
        obtain ⟨ra, hrr⟩ : ∃ ra, rs[e.2.1.toNat]? = some ra := ⟨_, List.getElem?_eq_getElem ha⟩
        have hmem : ra ∈ rs := List.mem_of_getElem? hrr
        have ea : e.2.1 = ((e.2.1.toNat : Nat) : Int) := (Int.toNat_of_nonneg r1).symm
        have eb : e.2.2 = ((e.2.2.toNat : Nat) : Int) := (Int.toNat_of_nonneg r3).symm
        have hb : e.2.2.toNat < n.toNat := by omega
        have ro := ct.row _ _ hrr
        refine ⟨e.1, _, rfl, SqT.of (sm2 _ _ (PA.ed e mem)), rfl, _, _, rfl, _, _, rfl, rfl, ?_⟩
        refine ⟨_, rfl, _, rfl, D, _, _, .ref ra, rfl, rfl, SqL.of ct.ls, ?_, ?_⟩
        · rw [ea]
          refine atI_nat ?_
          rw [List.getElem?_map, hrr]
          rfl
        refine ⟨_, rfl, _, rfl, ra, _, _, .int (cnt ((psOf ts).take i) e.2.1.toNat e.2.2.toNat), rfl, rfl, SqL.of ro, ?_, _, _, rfl, rfl, _, rfl, _, rfl, ra, _, _, e.2.2.toNat, rfl, rfl, ro, ?_, ?_⟩
        · rw [eb]
          exact atI_nat (cntRow_at _ hb)
        · rw [cntRow_len]
          exact ixN_of r3 hb
        refine ⟨_, _, _, rfl, ?_, ?_⟩
        · intro c o ec
          rw [upd_ne (fun z => ?_)]
          · exact sm2 _ _ ec
          · rw [z, (hh _ hmem).1] at ec
            cases ec
        · have et : (psOf ts).take (i + 1) = (psOf ts).take i ++ [((e.2.1.toNat : Int), (e.2.2.toNat : Int))] := by
            rw [List.take_add_one, psOf_at he, ← ea, ← eb]
            rfl
          have nD : ra ≠ D := (hh _ hmem).2.1
          refine ⟨by rw [upd_ne nD.symm]; exact ct.ls, ct.len, fun a r hr => ?_⟩
          rw [et]
          by_cases hs : a = e.2.1.toNat
          · subst hs
            have : r = ra := by
              rw [hrr] at hr
              exact (Option.some.inj hr).symm
            subst this
            rw [upd_same, ← cntRow_set _ hb]
          · have hne : r ≠ ra := fun z => by
              rw [z] at hr
              exact hs (nodup_at nd hr hrr)
            rw [upd_ne hne, cntRow_other _ hs]
            exact ct.row a r hr
      · rintro σ H2 ⟨v3, v4, v5, rfl, sm2, ct⟩
        rw [vsOf_len, show ts.length = (psOf ts).length by unfold psOf; rw [List.length_map], List.take_length] at ct
        exact ⟨_, rfl, q D H2 rs sm2 ct⟩
end
end Lw
set_option Elab.async false
set_option linter.all false
set_option maxRecDepth 100000
/-! the law's pairs of states that can be merged -/
namespace Lw
open PySem L2
abbrev sMgrs : Stmt := top 36
/-- a list of pairs -/
structure LsAt (H : Hp) (D : Addr) (us : Es) : Prop where
  ls : H D = some (.lst (vsOf us))
  ed : Ed H us
theorem LsAt.same {H H' : Hp} {D : Addr} {us : Es} (h : LsAt H D us) (s : Same H H') : LsAt H' D us := ⟨s _ _ h.ls, h.ed.same s⟩
theorem LsAt.keep {H H' : Hp} {D b l : Addr} {ns : List Int} {us : Es} (h : LsAt H D us) (B : BagAt H b l ns) (k : KeepB b H H') : LsAt H' D us := ⟨k _ _ (B.ne_vs h.ls) h.ls, h.ed.keep B k⟩
def spMgrs : Sp := fun vs H Q _ => ∃ (p q : Addr) (n : Int) (ts : Es), vs = [.ref p] ∧ PlanAt H p q n ts ∧ n ≤ 20 ∧ ∀ (D : Addr) (H' : Hp) (us : Es), Same H H' → H D = none → LsAt H' D us → psOf us = mrgs n.toNat (psOf ts) → Q (.ref D) H'
theorem shl_ints (xs : List Int) : SeqAt.shaped (.list (xs.map PyData.int)) = true := by
  show (PyData.canLayAll0 (xs.map PyData.int) && decide (PyData.depthAll (xs.map PyData.int) + 1 ≤ 64)) = true
  rw [lay_ints, dep_ints]
  rfl
theorem eqv_lst (xs ys : List Int) : PyData.eqv (.list (xs.map PyData.int)) (.list (ys.map PyData.int)) = decide (xs = ys) := eqv_ints xs ys
theorem cntRow_col (ps : Ps) {m r a : Nat} (h : a < m) : atI (cntRow ps m r) ((a : Nat) : Int) = some (.int (cnt ps r a)) := atI_nat (cntRow_at ps h)
abbrev NMg : List Str := ["_law_plan_here", "_law_found", "_law_table", "_law_one", "_law_other", "_law_row"]
abbrev scMC : Scope := { kind := .function, names := [(".0", .local), ("_law_other", .cell), ("_law_one", .cell), ("_law_table", .cell)], isGenerator := false, isCoroutine := false }
section
variable {P : Program} {w : World} {K : PySem.W.Frag} {mg : Str → Option Value} {base : Heap} {f : Addr} {fd : FuncData} {k : Nat}
theorem scMgrs : FnScope NMg ["_law_plan_here"] (defScope sMgrs) := ⟨rfl, rfl, rfl, by decide +kernel, rfl, by decide +kernel, by decide +kernel⟩
/-- the row's item at a place, for each row of the table -/
abbrev tCol (K : PySem.W.Frag) (j : Nat) : TE := tLc (iSeqA K (tVar 2)) (gName 5) tYes (tOp (rIxL K) (tVar 5) (tVar j)) [5]
theorem col3 {H : Hp} {T : Addr} {rs : List Addr} {n a : Nat} {v0 v1 v4 v5 : Option V} {Q : VK} {ps : Ps} (tw : CntAt H T rs n ps) (ha : a < n) (hn : n ≤ 40) (q : ∀ (D : Addr) (H' : Hp), Same H H' → H' D = some (.lst ((colL n ps a).map V.int)) → Q (.ref D) H') :
    tCol K 3 [v0, v1, some (.ref T), some (.int (a : Int)), v4, v5] H Q := by
  refine ⟨_, rfl, T, _, SqL, rfl, .inl rfl, SqL.of tw.ls, fun J w D hD => ?_⟩
  refine lc_it w (fun i H' => Same H H' ∧ H' D = some (.lst (((colL n ps a).take i).map V.int))) ⟨same_upd hD, by rw [upd_same]; rfl⟩ (fun i H' _ p => SqL.of (p.1 _ _ tw.ls)) ?_ ?_
  · rintro i x H1 H2 hi ⟨sm, eD⟩ ⟨rfl, gx⟩
    rw [List.getElem?_map] at gx
    obtain ⟨r, hr, rfl⟩ := Option.map_eq_some_iff.mp gx
    rw [List.length_map, tw.len] at hi
    refine ⟨rfl, ?_⟩
    refine ⟨_, rfl, _, rfl, r, _, _, .int (cnt ps i a), rfl, rfl, SqL.of (sm _ _ (tw.row i r hr)), cntRow_col ps ha, _, eD, ?_, ?_, ?_⟩
    · rw [List.length_map, List.length_take, colL_len]
      exact small1000 (by omega)
    · intro b o e
      rw [upd_ne (ne_of_none e hD)]
      exact sm _ _ e
    · rw [upd_same, colL_take ps a hi, List.map_append]
      rfl
  · rintro H1 ⟨sm, eD⟩
    rw [List.length_map, tw.len, List.take_of_length_le (by rw [colL_len]; exact Nat.le_refl _)] at eD
    exact q D H1 sm eD
theorem col4 {H : Hp} {T : Addr} {rs : List Addr} {n a : Nat} {v0 v1 v3 v5 : Option V} {Q : VK} {ps : Ps} (tw : CntAt H T rs n ps) (ha : a < n) (hn : n ≤ 40) (q : ∀ (D : Addr) (H' : Hp), Same H H' → H' D = some (.lst ((colL n ps a).map V.int)) → Q (.ref D) H') :
    tCol K 4 [v0, v1, some (.ref T), v3, some (.int (a : Int)), v5] H Q := by
  refine ⟨_, rfl, T, _, SqL, rfl, .inl rfl, SqL.of tw.ls, fun J w D hD => ?_⟩
  refine lc_it w (fun i H' => Same H H' ∧ H' D = some (.lst (((colL n ps a).take i).map V.int))) ⟨same_upd hD, by rw [upd_same]; rfl⟩ (fun i H' _ p => SqL.of (p.1 _ _ tw.ls)) ?_ ?_
  · rintro i x H1 H2 hi ⟨sm, eD⟩ ⟨rfl, gx⟩
    rw [List.getElem?_map] at gx
    obtain ⟨r, hr, rfl⟩ := Option.map_eq_some_iff.mp gx
    rw [List.length_map, tw.len] at hi
    refine ⟨rfl, ?_⟩
    refine ⟨_, rfl, _, rfl, r, _, _, .int (cnt ps i a), rfl, rfl, SqL.of (sm _ _ (tw.row i r hr)), cntRow_col ps ha, _, eD, ?_, ?_, ?_⟩
    · rw [List.length_map, List.length_take, colL_len]
      exact small1000 (by omega)
    · intro b o e
      rw [upd_ne (ne_of_none e hD)]
      exact sm _ _ e
    · rw [upd_same, colL_take ps a hi, List.map_append]
      rfl
  · rintro H1 ⟨sm, eD⟩
    rw [List.length_map, tw.len, List.take_of_length_le (by rw [colL_len]; exact Nat.le_refl _)] at eD
    exact q D H1 sm eD
theorem cols {H : Hp} {T : Addr} {rs : List Addr} {n a c : Nat} {ps : Ps} {v0 v1 v5 : Option V} {Q : Bool → Hp → Prop} (tw : CntAt H T rs n ps) (ha : a < n) (hc : c < n) (hn : n ≤ 40) (q : ∀ H' : Hp, Same H H' → Q (decide (colL n ps a = colL n ps c)) H') :
    tTest (tOp (rEqD K) (tCol K 3) (tCol K 4)) [v0, v1, some (.ref T), some (.int (a : Int)), some (.int (c : Int)), v5] H Q :=
  col3 (Q := fun x H1 => tCol K 4 [v0, v1, some (.ref T), some (.int (a : Int)), some (.int (c : Int)), v5] H1 fun y H2 => rEqD K x y H2 fun z H3 => ∃ k, z = .bl k ∧ Q k H3) tw ha hn fun D1 H8 s8 d1 => col4 (tw.same s8) hc hn fun D2 H9 s9 d2 =>
    ⟨_, _, .lst (SqL.of (s9 _ _ d1)) (dp_ints _), .lst (SqL.of d2) (dp_ints _), shl_ints _, shl_ints _, _, rfl, by rw [eqv_lst]; exact q _ (s8.trans s9)⟩
theorem psOf_app (us vs : Es) : psOf (us ++ vs) = psOf us ++ psOf vs := by
  unfold psOf
  rw [List.map_append]
set_option maxHeartbeats 8000000 in
theorem ok_mgrs (F : Fun K "_law_mergers" "_law_mergers" sMgrs f fd) (T : Bi mg) (cC : C8.Cal P w K mg base 1 "_law_counts" spCnts []) : FnOk P w K mg base CX0 (k + 2) f fd ["_law_plan_here"] spMgrs := by
  refine F.ok scMgrs (fun vs H Q E h => ?_) (fun cdv A outer s H vs Q E hr h => ?_)
  · obtain ⟨p, q, n, ts, rfl, _⟩ := h
    rfl
  · obtain ⟨p, q0, n, ts, rfl, PA, hn, q⟩ := h
    have n1 := PA.n1
    refine ⟨_, pss_cons (ps_asg (pe_tup (pa_cons (pe_lst pa_nil) (pa_cons (C8.pe_c cC hr (by omega) (by rfl) (pa_cons (pv 0) pa_nil)) pa_nil))) (pg_tup rfl (pgs_cons (pg_name (i := 1) scMgrs.nd rfl (.inl rfl)) (pgs_cons (pg_name (i := 2) scMgrs.nd rfl (.inr rfl)) pgs_nil))))
      (pss_cons (ps_for PassesOwn.never rfl (pi_range1 (by rfl) T.range (pa_cons (pe_ix ix_tup (pv 0) pe_int (fun _ _ => rfl)) pa_nil)) (pg_name (i := 3) scMgrs.nd rfl (.inr rfl))
        (pss_one (ps_set (i := 1) scMgrs.nd rfl (.inl rfl) (pe_op op_cat (pv 1)
          (pe_lc (own := [("_law_other", 4)]) (g := gName 4) (tt := tTest (tOp (rEqD K) (tCol K 3) (tCol K 4))) (te := tTup (tCons (tVar 3) (tCons (tVar 4) tNil))) rfl scMgrs.nd
            (pi_range2 (by rfl) T.range (pa_cons (pe_op op_add (pv 3) pe_int) (pa_cons (pe_ix ix_tup (pv 0) pe_int (fun _ _ => rfl)) pa_nil)))
            (blkOk_by (N := NMg) (sc := defScope sMgrs) (by decide +kernel))
            (fun _ _ _ _ _ => by exact pg_name (i := 4) scMgrs.nd rfl (Or.inr rfl))
            (fun _ _ _ _ _ => by exact pts_one (pt_cmpR (op_eqD hr.units)
              (pe_lc (own := [("_law_row", 5)]) (g := gName 5) (tt := tYes) (te := tOp (rIxL K) (tVar 5) (tVar 3)) rfl scMgrs.nd (pi_seqA (pv 2)) (blkOk_by (N := NMg) (sc := scMC) (by decide +kernel)) (fun _ _ _ _ _ => by exact pg_name (i := 5) scMgrs.nd rfl (Or.inl rfl)) (fun _ _ _ _ _ => pts_nil) (fun _ _ _ _ _ => by exact pe_ix ix_list (pv 5) (pv 3) (fun _ _ => rfl)))
              (pe_lc (own := [("_law_row", 5)]) (g := gName 5) (tt := tYes) (te := tOp (rIxL K) (tVar 5) (tVar 4)) rfl scMgrs.nd (pi_seqA (pv 2)) (blkOk_by (N := NMg) (sc := scMC) (by decide +kernel)) (fun _ _ _ _ _ => by exact pg_name (i := 5) scMgrs.nd rfl (Or.inl rfl)) (fun _ _ _ _ _ => pts_nil) (fun _ _ _ _ _ => by exact pe_ix ix_list (pv 5) (pv 4) (fun _ _ => rfl)))
              (nomark _)))
            (fun _ _ _ _ _ => by exact pe_tup (pa_cons (pv 3) (pa_cons (pv 4) pa_nil))))))))
      (pss_one (ps_ret (pv 1)))), ?_⟩
    refine ⟨(by show 0 ≤ sizeLine; exact Nat.zero_le _), fun L hL => ?_⟩
    have s1 := same_upd (o := .lst []) hL
    have e1 : upd H L (.lst []) L = some (.lst []) := upd_same
    generalize upd H L (.lst []) = H1 at *
    refine ⟨_, rfl, p, q0, n, ts, rfl, PA.same s1, by omega, fun T H2 rs s2 tw => ?_⟩
    refine ⟨(by show 2 ≤ sizeLine; decide), fun tp htp => ?_⟩
    have s3 := same_upd (o := .tup [.ref L, .ref T]) htp
    refine ⟨tp, _, rfl, SqT.of upd_same, rfl, _, _, rfl, _, _, rfl, rfl, ?_⟩
    have tw := tw.same s3
    have sm := (s1.trans s2).trans s3
    have eL := s3 _ _ (s2 _ _ e1)
    generalize upd H2 tp (.tup [.ref L, .ref T]) = H3 at *
    refine ⟨_, rfl, p, _, _, _, rfl, rfl, SqT.of (sm _ _ PA.tp), rfl, n, rfl, by omega, by omega, ?_⟩
    refine for_it (walk_range (lo := 0) (n := n.toNat)) (fun i σ H' => ∃ (v3 : Option V) (D : Addr) (us : Es), σ = [some (.ref p), some (.ref D), some (.ref T), v3, none, none] ∧ Same H H' ∧ H D = none ∧ CntAt H' T rs n.toNat (psOf ts) ∧ LsAt H' D us ∧ psOf us = mrgsTo n.toNat (psOf ts) i)
      ⟨none, L, [], rfl, sm, hL, tw, ⟨eL, Ed.nil⟩, rfl⟩ (fun _ _ _ _ _ => True.intro) ?_ ?_
    · rintro i x σ H4 H5 hi ⟨v3, D, us, rfl, sm4, nD, tw4, ls4, ln⟩ ⟨rfl, hx⟩
      have hx : x = .int (i : Int) := by
        rw [hx]
        show V.int (0 + (i : Int)) = _
        rw [Int.zero_add]
      subst hx
      have lu : us.length ≤ 400 := by
        have h1 := congrArg List.length ln
        have h2 := mrgsTo_len n.toNat (psOf ts) i
        rw [psL_len] at h1
        have h3 : i * n.toNat ≤ 20 * 20 := Nat.mul_le_mul (by omega) (by omega)
        omega
      refine ⟨_, rfl, _, rfl, _, _, rfl, rfl, _, rfl, p, _, _, _, rfl, rfl, SqT.of (sm4 _ _ PA.tp), rfl, _, _, rfl, ⟨by omega, by omega, by omega, by omega⟩, fun M hM => ?_⟩
      refine lc_it (walk_range (lo := (i : Int) + 1) (n := (n - ((i : Int) + 1)).toNat)) (fun j H' => ∃ vs : Es, psOf vs = mrow n.toNat (psOf ts) i j ∧ Same H5 H' ∧ LsAt H' M vs)
        ⟨[], rfl, same_upd hM, upd_same, Ed.nil⟩ (fun _ _ _ _ => True.intro) ?_ ?_
      · rintro j x H6 H7 hj ⟨vs, hvs, sm6, eM⟩ ⟨rfl, hx⟩
        have hx : x = .int ((i + 1 + j : Nat) : Int) := by
          rw [hx]
          show V.int ((i : Int) + 1 + (j : Int)) = _
          congr 1
        subst hx
        have lv : vs.length ≤ 40 := by
          have h1 := congrArg List.length hvs
          have h2 := mrow_len n.toNat (psOf ts) i j
          rw [psL_len] at h1
          omega
        refine ⟨rfl, ?_⟩
        have tw6 := tw4.same sm6
        show tTest (tOp (rEqD K) (tCol K 3) (tCol K 4)) [some (.ref p), some (.ref D), some (.ref T), some (.int (i : Int)), some (.int ((i + 1 + j : Nat) : Int)), none] H7 _
        refine cols tw6 (by omega) (by omega) (by omega) fun H9 s69 => ?_
        refine ite2 (fun hc => ?_) (fun hc => ?_)
        · have hc := of_decide_eq_true hc
          refine ⟨_, rfl, _, rfl, (by show 2 ≤ sizeLine; decide), fun t ht => ?_⟩
          have s10 := s69.trans (same_upd (o := .tup [.int (i : Int), .int ((i + 1 + j : Nat) : Int)]) ht)
          have e10 : upd H9 t (.tup [.int (i : Int), .int ((i + 1 + j : Nat) : Int)]) t = some (.tup [.int (i : Int), .int ((i + 1 + j : Nat) : Int)]) := upd_same
          generalize upd H9 t (.tup [.int (i : Int), .int ((i + 1 + j : Nat) : Int)]) = H10 at *
          have nM : t ≠ M := fun z => by
            rw [z, s69 _ _ eM.ls] at ht
            cases ht
          refine ⟨_, s10 _ _ eM.ls, ?_, vs ++ [(t, (i : Int), ((i + 1 + j : Nat) : Int))], ?_, ?_, ?_, ?_⟩
          · rw [vsOf_len]
            exact small1000 (by omega)
          · rw [psOf_app, hvs, mrow_succ]
            unfold pickd
            rw [if_pos hc]
            rfl
          · intro b o e
            rw [upd_ne (ne_of_none e hM)]
            exact s10 _ _ (sm6 _ _ e)
          · rw [upd_same]
            unfold vsOf
            rw [List.map_append]
            rfl
          · intro e he
            rcases List.mem_append.mp he with he | he
            · have := s10 _ _ (eM.ed e he)
              rw [upd_ne fun z => ?_]
              · exact this
              · rw [z, s10 _ _ eM.ls] at this
                cases this
            · rw [List.mem_singleton.mp he, upd_ne nM]
              exact e10
        · refine ⟨vs, ?_, sm6.trans s69, eM.same s69⟩
          rw [hvs, mrow_succ]
          unfold pickd
          rw [if_neg (fun z => hc (decide_eq_true z)), List.append_nil]
      · rintro H6 ⟨vs, hvs, sm6, eM⟩
        have lv : vs.length ≤ 40 := by
          have h1 := congrArg List.length hvs
          have h2 := mrow_len n.toNat (psOf ts) i (n - ((i : Int) + 1)).toNat
          rw [psL_len] at h1
          omega
        refine ⟨D, M, _, _, rfl, rfl, (ls4.same sm6).ls, eM.ls, ?_, fun R hR => ?_⟩
        · rw [vsOf_len, vsOf_len]
          exact Nat.le_of_lt (small1000 (by omega))
        have s7 := sm6.trans (same_upd (o := .lst (vsOf us ++ vsOf vs)) hR)
        refine ⟨_, R, us ++ vs, rfl, sm4.trans s7, (sm4.trans sm6).free hR, tw4.same s7, ⟨?_, (ls4.ed.same s7).app (eM.ed.same (same_upd hR))⟩, ?_⟩
        · rw [upd_same]
          unfold vsOf
          rw [List.map_append]
        · rw [psOf_app, ln, hvs, mrgsTo_succ, show (n - ((i : Int) + 1)).toNat = n.toNat - (i + 1) by omega]
    · rintro σ H4 ⟨v3, D, us, rfl, sm4, nD, tw4, ls4, ln⟩
      exact ⟨_, rfl, q D H4 us sm4 nD ls4 ln⟩
end
end Lw
set_option Elab.async false
set_option linter.all false
set_option maxRecDepth 100000
/-! the law's merge -/
namespace Lw
open PySem L2
abbrev sMrg : Stmt := top 37
abbrev NMe : List Str := ["_law_plan_here", "_law_one", "_law_other", "_law_state", "_law_names", "_law_pair", "_law_kept", "_law_source", "_law_target"]
def nmL (n : Nat) (a b : Int) : List Int := (nums n).map (nmS a b)
theorem nmL_len (n : Nat) (a b : Int) : (nmL n a b).length = n := by
  unfold nmL nums
  simp
theorem nmL_at {n : Nat} (a b : Int) {s : Nat} (h : s < n) : (nmL n a b)[s]? = some (nmS a b (s : Int)) := by
  unfold nmL nums
  rw [List.map_map, List.getElem?_map, List.getElem?_range h]
  rfl
theorem nmL_take {n : Nat} (a b : Int) {s : Nat} (h : s < n) : (nmL n a b).take (s + 1) = (nmL n a b).take s ++ [nmS a b (s : Int)] := by
  rw [List.take_add_one, nmL_at a b h]
  rfl
theorem nmL_ix {n : Nat} {a b z : Int} (h0 : 0 ≤ z) (h : z < n) : atI ((nmL n a b).map V.int) z = some (.int (nmS a b z)) := by
  have e : z = ((z.toNat : Nat) : Int) := (Int.toNat_of_nonneg h0).symm
  rw [e]
  refine atI_nat ?_
  rw [List.getElem?_map, nmL_at a b (by omega)]
  rfl
/-- the edges that stay -/
def kpt (b : Int) (ts : Es) : Es := ts.filter fun e => decide (e.2.2 ≠ b)
theorem kpt_ps (a b : Int) (ts : Es) : (psOf (kpt b ts)).map (fun p => (nmS a b p.1, nmS a b p.2)) = mrgP a b (psOf ts) := by
  unfold mrgP kpt psOf
  rw [List.filter_map]
  rfl
theorem kpt_snoc (b : Int) (ts : Es) (e : Addr × Int × Int) : kpt b (ts ++ [e]) = kpt b ts ++ (if e.2.2 ≠ b then [e] else []) := by
  unfold kpt
  rw [List.filter_append]
  by_cases h : e.2.2 ≠ b
  · rw [if_pos h, List.filter_cons_of_pos (by exact decide_eq_true h)]
    rfl
  · rw [if_neg h, List.filter_cons_of_neg (by rw [decide_eq_false h]; exact Bool.false_ne_true)]
    rfl
theorem kpt_len (b : Int) (ts : Es) : (kpt b ts).length ≤ ts.length := List.length_filter_le _ _
theorem take_snoc {α : Type} {xs : List α} {i : Nat} {x : α} (h : xs[i]? = some x) : xs.take (i + 1) = xs.take i ++ [x] := by
  rw [List.take_add_one, h]
  rfl
def spMrg : Sp := fun vs H Q _ => ∃ (p q : Addr) (n i j : Nat) (ts : Es), vs = [.ref p, .int (i : Int), .int (j : Int)] ∧ PlanAt H p q (n : Int) ts ∧ n ≤ 20 ∧ ts.length ≤ 60 ∧ i < j ∧ j < n ∧ colL n (psOf ts) i = colL n (psOf ts) j ∧
  ∀ (p' q' : Addr) (us : Es) (H' : Hp), Same H H' → H p' = none → H q' = none → PlanAt H' p' q' ((n - 1 : Nat) : Int) us → psOf us = mrgP i j (psOf ts) → Q (.ref p') H'
abbrev rInt1 : List V → Hp → VK → Prop := fun xs H Q => (∃ i, xs = [.int i] ∧ Q (.int i) H) ∨ ∃ k, xs = [.bl k] ∧ Q (.int (if k then 1 else 0)) H
abbrev tNm : TE := tIf (tTest (tOp rEq (tVar 3) (tVar 2))) (tVar 1) (tOp (rI0 fun i j => .int (i - j)) (tVar 3) (tCB rInt1 (tCons (tOp (rI0 fun i j => .bl (decide (j < i))) (tVar 3) (tVar 2)) tNil)))
section
variable {P : Program} {w : World} {K : PySem.W.Frag} {mg : Str → Option Value} {base : Heap} {f : Addr} {fd : FuncData} {k : Nat}
theorem scMrg : FnScope NMe ["_law_plan_here", "_law_one", "_law_other"] (defScope sMrg) := ⟨rfl, rfl, rfl, by decide +kernel, rfl, by decide +kernel, by decide +kernel⟩
set_option maxHeartbeats 8000000 in
theorem ok_mrg (F : Fun K "_law_merge" "_law_merge" sMrg f fd) (T : Bi mg) : FnOk P w K mg base CX0 (k + 1) f fd ["_law_plan_here", "_law_one", "_law_other"] spMrg := by
  refine F.ok scMrg (fun vs H Q E h => ?_) (fun cdv A outer s H vs Q E hr h => ?_)
  · obtain ⟨p, q, n, i, j, ts, rfl, _⟩ := h
    rfl
  · obtain ⟨p, q0, n, i, j, ts, rfl, PA, hn, hl, ij, jn, ec, q⟩ := h
    refine ⟨_, pss_cons (ps_set (i := 4) scMrg.nd rfl (.inr rfl)
        (pe_lc (own := [("_law_state", 3)]) (g := gName 3) (tt := tYes) (te := tNm) rfl scMrg.nd (pi_range1 (by rfl) T.range (pa_cons (pe_ix ix_tup (pv 0) pe_int (fun _ _ => rfl)) pa_nil)) (blkOk_by (N := NMe) (sc := defScope sMrg) (by decide +kernel))
          (fun _ _ _ _ _ => by exact pg_name (i := 3) scMrg.nd rfl (Or.inl rfl)) (fun _ _ _ _ _ => pts_nil)
          (fun _ _ _ _ _ => by exact pe_ifExp (pt_cmpR op_eq (pv 3) (pv 2) (nomark _)) (pv 1) (pe_op op_sub (pv 3) (pe_callTy call_int1 (by rfl) T.int (by decide +kernel) (pa_cons (pe_cmpR op_gt (pv 3) (pv 2) (nomark _)) pa_nil))))))
      (pss_cons (ps_setLc (i := 6) (own := [("_law_pair", 5)]) (g := gName 5) (tt := tTest (tOp rNe (tOp (rIxT K) (tVar 5) (tC (.int 1))) (tVar 2))) (te := tVar 5) rfl scMrg.nd rfl rfl (sw_true rfl rfl rfl (by decide +kernel)) (pi_seqA (pe_ix ix_tup (pv 0) pe_int (fun _ _ => rfl))) (blkOk_by (N := NMe) (sc := defScope sMrg) (by decide +kernel))
          (fun _ _ _ _ _ => by exact pg_name (i := 5) scMrg.nd rfl (Or.inl rfl))
          (fun _ _ _ _ _ => by exact pts_one (pt_cmpR op_ne (pe_ix ix_tup (pv 5) pe_int (fun _ _ => rfl)) (pv 2) (nomark _)))
          (fun _ _ _ _ _ => by exact pv 5))
      (pss_one (ps_ret (pe_tup (pa_cons (pe_op op_sub (pe_ix ix_tup (pv 0) pe_int (fun _ _ => rfl)) pe_int) (pa_cons
        (pe_lc (own := [("_law_source", 7), ("_law_target", 8)]) (g := gTup K 2 (gCons (gName 7) (gCons (gName 8) gNil))) (tt := tYes) (te := tTup (tCons (tOp (rIxL K) (tVar 4) (tVar 7)) (tCons (tOp (rIxL K) (tVar 4) (tVar 8)) tNil))) rfl scMrg.nd (pi_seqA (pv 6)) (blkOk_by (N := NMe) (sc := defScope sMrg) (by decide +kernel))
          (fun _ _ _ _ _ => by exact pg_tup rfl (pgs_cons (pg_name (i := 7) scMrg.nd rfl (Or.inl rfl)) (pgs_cons (pg_name (i := 8) scMrg.nd rfl (Or.inl rfl)) pgs_nil))) (fun _ _ _ _ _ => pts_nil)
          (fun _ _ _ _ _ => by exact pe_tup (pa_cons (pe_ix ix_list (pv 4) (pv 7) (fun _ _ => rfl)) (pa_cons (pe_ix ix_list (pv 4) (pv 8) (fun _ _ => rfl)) pa_nil)))) pa_nil)))))), ?_⟩
    -- the names
    refine ⟨_, rfl, p, _, _, _, rfl, rfl, SqT.of PA.tp, rfl, (n : Int), rfl, by omega, by omega, fun D hD => ?_⟩
    refine lc_it (walk_range (lo := 0) (n := ((n : Int)).toNat)) (fun m H' => Same H H' ∧ H' D = some (.lst (((nmL n i j).take m).map V.int))) ⟨same_upd hD, by rw [upd_same]; rfl⟩ (fun _ _ _ _ => True.intro) ?_ ?_
    · rintro m x H1 H2 hm ⟨s1, eD⟩ ⟨rfl, hx⟩
      have hx : x = .int (m : Int) := by
        rw [hx]
        show V.int (0 + (m : Int)) = _
        rw [Int.zero_add]
      subst hx
      have hm : m < n := by omega
      have fin : ∀ z : Int, z = nmS i j (m : Int) → ∃ acc, H2 D = some (.lst acc) ∧ acc.length < sizeLine ∧ Same H (upd H2 D (.lst (acc ++ [.int z]))) ∧ upd H2 D (.lst (acc ++ [.int z])) D = some (.lst (((nmL n i j).take (m + 1)).map V.int)) := fun z hz => by
        refine ⟨_, eD, ?_, ?_, ?_⟩
        · rw [List.length_map, List.length_take, nmL_len]
          exact small1000 (by omega)
        · intro b o e
          rw [upd_ne (ne_of_none e hD)]
          exact s1 _ _ e
        · rw [upd_same, nmL_take _ _ hm, List.map_append, hz]
          rfl
      refine ⟨rfl, ?_⟩
      refine ⟨_, rfl, _, rfl, rfl, _, rfl, ite2 (fun hc => ?_) (fun hc => ?_)⟩
      · have hc : (m : Int) = (j : Int) := by
          have := of_decide_eq_true hc
          injection this
        refine ⟨_, rfl, fin _ ?_⟩
        unfold nmS
        rw [if_pos hc]
      · have hc : ¬ (m : Int) = (j : Int) := fun z => hc (decide_eq_true (congrArg V.int z))
        refine ⟨_, rfl, _, rfl, _, rfl, _, _, rfl, rfl, .inr ⟨_, rfl, _, _, rfl, rfl, fin _ ?_⟩⟩
        unfold nmS
        rw [if_neg hc]
        by_cases h2 : (j : Int) < (m : Int)
        · rw [if_pos h2, decide_eq_true h2]
          rfl
        · rw [if_neg h2, decide_eq_false h2]
          exact Int.sub_zero _
    · rintro H1 ⟨s1, eD⟩
      rw [Int.toNat_natCast, List.take_of_length_le (by rw [nmL_len]; exact Nat.le_refl _)] at eD
      -- what is kept
      refine ⟨_, rfl, p, _, _, _, rfl, rfl, SqT.of (s1 _ _ PA.tp), rfl, q0, vsOf ts, SqL, rfl, .inl rfl, SqL.of (s1 _ _ PA.ls), fun J w D2 hD2 => ?_⟩
      refine lc_it w (fun m H' => Same H1 H' ∧ H' D2 = some (.lst (vsOf (kpt j (ts.take m))))) ⟨same_upd hD2, by rw [upd_same]; rfl⟩ (fun m H' _ p => SqL.of (p.1 _ _ (s1 _ _ PA.ls))) ?_ ?_
      · rintro m x H2 H3 hm ⟨s2, e2⟩ ⟨rfl, gx⟩
        obtain ⟨ed, he, rfl⟩ := vsOf_at gx
        have mem := List.mem_of_getElem? he
        rw [vsOf_len] at hm
        refine ⟨rfl, ?_⟩
        refine ⟨_, rfl, ed.1, _, _, .int ed.2.2, rfl, rfl, SqT.of (s2 _ _ (s1 _ _ (PA.ed ed mem))), rfl, _, rfl, rfl, _, rfl, ite2 (fun hc => ?_) (fun hc => ?_)⟩
        · have hc : ed.2.2 ≠ (j : Int) := fun z => by
            rw [z, decide_eq_true rfl] at hc
            cases hc
          refine ⟨_, rfl, _, e2, ?_, ?_, ?_⟩
          · rw [vsOf_len]
            have := kpt_len j (ts.take m)
            rw [List.length_take] at this
            exact small1000 (by omega)
          · intro b o e
            rw [upd_ne (ne_of_none e hD2)]
            exact s2 _ _ e
          · rw [upd_same, take_snoc he, kpt_snoc, if_pos hc]
            unfold vsOf
            rw [List.map_append]
            rfl
        · have hc : ¬ ed.2.2 ≠ (j : Int) := fun z => hc (by rw [decide_eq_false (fun e => z (V.int.inj e))]; rfl)
          refine ⟨s2, ?_⟩
          rw [e2, take_snoc he, kpt_snoc, if_neg hc, List.append_nil]
      · rintro H2 ⟨s2, e2⟩
        rw [vsOf_len, List.take_length] at e2
        have lk := kpt_len j ts
        have eD := s2 _ _ eD
        have s12 := s1.trans s2
        -- the new pairs
        refine ⟨_, rfl, p, _, _, _, rfl, rfl, SqT.of (s12 _ _ PA.tp), rfl, _, _, rfl, rfl, ?_⟩
        refine ⟨_, rfl, D2, _, SqL, rfl, .inl rfl, SqL.of e2, fun J2 w2 D3 hD3 => ?_⟩
        refine lc_it w2 (fun m H' => ∃ us : Es, Same H2 H' ∧ LsAt H' D3 us ∧ psOf us = (psOf ((kpt j ts).take m)).map fun p => (nmS i j p.1, nmS i j p.2)) ⟨[], same_upd hD3, ⟨upd_same, Ed.nil⟩, rfl⟩ (fun m H' _ p => by obtain ⟨us, s, _⟩ := p; exact SqL.of (s _ _ e2)) ?_ ?_
        · rintro m x H3 H4 hm ⟨us, s3, L3, hus⟩ ⟨rfl, gx⟩
          obtain ⟨ed, he, rfl⟩ := vsOf_at gx
          have mem : ed ∈ ts := (List.mem_filter.mp (List.mem_of_getElem? he)).1
          rw [vsOf_len] at hm
          obtain ⟨r1, r2, r3, r4⟩ := PA.va.rg ed mem
          have lu : us.length ≤ 60 := by
            have := congrArg List.length hus
            rw [psL_len, List.length_map, psL_len, List.length_take] at this
            omega
          refine ⟨ed.1, _, rfl, SqT.of (s3 _ _ (s12 _ _ (PA.ed ed mem))), rfl, _, _, rfl, _, _, rfl, rfl, rfl, ?_⟩
          refine ⟨_, rfl, _, rfl, D, _, _, _, rfl, rfl, SqL.of (s3 _ _ eD), nmL_ix r1 r2, _, rfl, _, rfl, D, _, _, _, rfl, rfl, SqL.of (s3 _ _ eD), nmL_ix r3 r4, (by show 2 ≤ sizeLine; decide), fun t ht => ?_⟩
          have s5 := same_upd (o := .tup [.int (nmS i j ed.2.1), .int (nmS i j ed.2.2)]) ht
          have e5 : upd H4 t (.tup [.int (nmS i j ed.2.1), .int (nmS i j ed.2.2)]) t = some (.tup [.int (nmS i j ed.2.1), .int (nmS i j ed.2.2)]) := upd_same
          have nt : t ≠ D3 := fun z => by
            rw [z, L3.ls] at ht
            cases ht
          generalize upd H4 t (.tup [.int (nmS i j ed.2.1), .int (nmS i j ed.2.2)]) = H5 at *
          have L5 := L3.same s5
          refine ⟨_, L5.ls, ?_, us ++ [(t, nmS i j ed.2.1, nmS i j ed.2.2)], ?_, ⟨?_, ?_⟩, ?_⟩
          · rw [vsOf_len]
            exact small1000 (by omega)
          · intro b o e
            rw [upd_ne (ne_of_none e hD3)]
            exact s5 _ _ (s3 _ _ e)
          · rw [upd_same]
            unfold vsOf
            rw [List.map_append]
            rfl
          · intro e he2
            rcases List.mem_append.mp he2 with he2 | he2
            · have := L5.ed e he2
              rw [upd_ne fun z => ?_]
              · exact this
              · rw [z, L5.ls] at this
                cases this
            · rw [List.mem_singleton.mp he2, upd_ne nt]
              exact e5
          · rw [psOf_app, hus, take_snoc he, psOf_app, List.map_append]
            rfl
        · rintro H3 ⟨us, s3, L3, hus⟩
          rw [vsOf_len, List.take_length, kpt_ps] at hus
          refine ⟨(by show 2 ≤ sizeLine; decide), fun p' hp' => ?_⟩
          have s4 := same_upd (o := .tup [(fun i j : Int => V.int (i - j)) (n : Int) 1, .ref D3]) hp'
          have sA := (s12.trans s3).trans s4
          have va := mrg_valid PA.va.ps ij jn ec
          have en : ((n - 1 : Nat) : Int) = (n : Int) - 1 := by omega
          refine q p' D3 us _ sA ((s12.trans s3).free hp') (s12.free hD3) ⟨?_, s4 _ _ L3.ls, L3.ed.same s4, ?_, by omega⟩ hus
          · rw [en]
            exact upd_same
          · rw [en]
            refine VaP.es ?_
            rw [hus]
            exact va
end
end Lw
set_option Elab.async false
set_option linter.all false
set_option maxRecDepth 100000
/-! the law's least plan -/
namespace Lw
open PySem L2
abbrev sLLe : Stmt := top 43
/-- merges as descriptors -/
def StL (H : Hp) (S : Addr) (st : Ps) : Prop := ∃ ds : List Addr, H S = some (.lst (ds.map V.ref)) ∧ ds.length = st.length ∧ ∀ (k : Nat) (d : Addr) (p : Int × Int), ds[k]? = some d → st[k]? = some p → H d = some (.tup [.str "merge", .int p.1, .int p.2])
theorem StL.same {H H' : Hp} {S : Addr} {st : Ps} (h : StL H S st) (s : Same H H') : StL H' S st := by
  obtain ⟨ds, h1, h2, h3⟩ := h
  exact ⟨ds, s _ _ h1, h2, fun k d p a b => s _ _ (h3 k d p a b)⟩
def spLLe : Sp := fun vs H Q _ => ∃ (p q : Addr) (n : Nat) (ts : Es), vs = [.ref p] ∧ PlanAt H p q (n : Int) ts ∧ n ≤ 20 ∧ ts.length ≤ 60 ∧
  ∀ (t S p' q' : Addr) (us : Es) (H' : Hp), Same H H' → H' t = some (.tup [.ref S, .ref p']) → StL H' S (lst n (psOf ts)).1 → PlanAt H' p' q' ((lst n (psOf ts)).2.1 : Int) us → psOf us = (lst n (psOf ts)).2.2 → Q (.ref t) H'
section
variable {P : Program} {w : World} {K : PySem.W.Frag} {mg : Str → Option Value} {base : Heap} {f : Addr} {fd : FuncData} {k : Nat}
theorem scLLe : FnScope ["_law_plan_here", "_law_steps", "_law_here", "_law_one", "_law_other"] ["_law_plan_here"] (defScope sLLe) := ⟨rfl, rfl, rfl, by decide +kernel, rfl, by decide +kernel, by decide +kernel⟩
theorem ne_es (us : Es) : (!PyData.eqv (.list (dEs us)) (.list [])) = !us.isEmpty := by
  cases us <;> rfl
theorem sh0 : SeqAt.shaped (.list []) = true := by decide +kernel
set_option maxHeartbeats 8000000 in
theorem ok_lle (F : Fun K "_law_least" "_law_least" sLLe f fd) (T : Bi mg) (cM : C8.Cal P w K mg base 2 "_law_mergers" spMgrs []) (cG : C8.Cal P w K mg base 1 "_law_merge" spMrg []) : FnOk P w K mg base CX0 (k + 3) f fd ["_law_plan_here"] spLLe := by
  refine F.ok scLLe (fun vs H Q E h => ?_) (fun cdv A outer s H vs Q E hr h => ?_)
  · obtain ⟨p, q, n, ts, rfl, _⟩ := h
    rfl
  · obtain ⟨p, q0, n, ts, rfl, PA, hn, hl, q⟩ := h
    refine ⟨_, pss_cons (ps_par (i := 1) (j := 2) (by rfl) scLLe.nd rfl rfl (by decide) rfl rfl (pa_cons (pe_lst pa_nil) (pa_cons (pv 0) pa_nil)) (by rfl))
      (pss_cons (ps_while PassesOwn.never (pt_cmpR (op_neD hr.units) (C8.pe_c cM hr (by omega) (by rfl) (pa_cons (pv 2) pa_nil)) (pe_lst pa_nil) (nomark _))
        (pss_cons (ps_asg (pe_ix ix_list (C8.pe_c cM hr (by omega) (by rfl) (pa_cons (pv 2) pa_nil)) pe_int (fun _ _ => rfl)) (pg_tup rfl (pgs_cons (pg_name (i := 3) scLLe.nd rfl (.inl rfl)) (pgs_cons (pg_name (i := 4) scLLe.nd rfl (.inl rfl)) pgs_nil))))
        (pss_cons (ps_expr (pe_bm PySem.F.plainAttrs_list PySem.F.slot_list_append PySem.F.type_list_append mt_append (pv 1) (pa_cons (pe_tup (pa_cons pe_str (pa_cons (pv 3) (pa_cons (pv 4) pa_nil)))) pa_nil)))
        (pss_one (ps_set (i := 2) scLLe.nd rfl (.inl rfl) (C8.pe_c cG hr (by omega) (by rfl) (pa_cons (pv 2) (pa_cons (pv 3) (pa_cons (pv 4) pa_nil)))))))))
      (pss_one (ps_ret (pe_tup (pa_cons (pv 1) (pa_cons (pv 2) pa_nil)))))), ?_⟩
    refine ⟨(by show 0 ≤ sizeLine; exact Nat.zero_le _), fun S hS => ?_⟩
    have s1 := same_upd (o := .lst []) hS
    have e1 : upd H S (.lst []) S = some (.lst []) := upd_same
    generalize upd H S (.lst []) = H1 at *
    refine ⟨_, rfl, _, _, rfl, ?_⟩
    have nq : q0 ≠ S := ne_of_none PA.ls hS
    refine ⟨fun m σ H' => ∃ (v3 v4 : Option V) (p' q' : Addr) (us : Es) (st : Ps), σ = [some (.ref p), some (.ref S), some (.ref p'), v3, v4] ∧ Same H H' ∧ StL H' S st ∧ PlanAt H' p' q' (m : Int) us ∧ q' ≠ S ∧ us.length ≤ 60 ∧ st.length + m = n ∧ lst n (psOf ts) = (st ++ (lst m (psOf us)).1, (lst m (psOf us)).2),
      ⟨n, none, none, p, q0, ts, [], rfl, s1, ⟨[], e1, rfl, fun k d p h => by cases h⟩, PA.same s1, nq, hl, by simp, rfl⟩, ?_⟩
    rintro m σ H3 ⟨v3, v4, p', q', us, st, rfl, s3, SL, PA3, nq3, lu, lm, eq⟩
    refine ⟨_, rfl, p', q', (m : Int), us, rfl, PA3, by omega, fun D H4 ms s4 nD L4 eM => ?_⟩
    refine ⟨(by show 0 ≤ sizeLine; exact Nat.zero_le _), fun Z hZ => ?_⟩
    have s5 := s4.trans (same_upd (o := .lst []) hZ)
    refine ⟨.list (dEs ms), .list [], .lst (SqL.of ((same_upd hZ) _ _ L4.ls)) (dEs_at (L4.ed.same (same_upd hZ))), .lst (SqL.of upd_same) .nil, shL ms, sh0, _, rfl, ?_⟩
    have SL := SL.same s5
    have PA5 := PA3.same s5
    have s35 := s3.trans s5
    rw [ne_es]
    generalize upd H4 Z (.lst []) = H5 at *
    rw [Int.toNat_natCast] at eM
    refine ite2 (fun hc => ?_) (fun hc => ?_)
    · -- one more
      clear L4 s4 s5 nD
      have n1 := PA5.n1
      refine ⟨_, fun _ _ z => z, ?_⟩
      refine ⟨_, rfl, p', q', (m : Int), us, rfl, PA5, by omega, fun D H6 ms2 s6 nD L6 eM2 => ?_⟩
      rw [Int.toNat_natCast] at eM2
      cases ms2 with
      | nil =>
        have : psOf ms = [] := eM.trans eM2.symm
        cases ms with
        | nil => cases hc
        | cons a b => cases this
      | cons e r =>
        have hd : mrgs m (psOf us) = e.2 :: psOf r := eM2.symm
        obtain ⟨i, j, eij, ij, jm, ec⟩ := mrgs_mem (show e.2 ∈ mrgs m (psOf us) by rw [hd]; exact List.mem_cons_self)
        have e1 : e.2.1 = (i : Int) := congrArg Prod.fst eij
        have e2' : e.2.2 = (j : Int) := congrArg Prod.snd eij
        have he := L6.ed e List.mem_cons_self
        rw [e1, e2'] at he
        refine ⟨D, _, _, .ref e.1, rfl, rfl, SqL.of L6.ls, at0 (x := V.ref e.1) (r := vsOf r), e.1, _, rfl, SqT.of he, rfl, _, _, rfl, _, _, rfl, rfl, ?_⟩
        have SL6 := SL.same s6
        have PA6 := PA5.same s6
        obtain ⟨ds, d1, d2, d3⟩ := SL6
        have ls : st.length ≤ 20 := by omega
        refine ⟨_, rfl, .inl ⟨rfl, _, SqL.of d1⟩, _, rfl, _, rfl, (by show 3 ≤ sizeLine; decide), fun t ht => ?_⟩
        have s7 := same_upd (o := .tup [.str "merge", .int (i : Int), .int (j : Int)]) ht
        have e7 : upd H6 t (.tup [.str "merge", .int (i : Int), .int (j : Int)]) t = some (.tup [.str "merge", .int (i : Int), .int (j : Int)]) := upd_same
        have nt : t ≠ S := (ne_of_none d1 ht).symm
        generalize upd H6 t (.tup [.str "merge", .int (i : Int), .int (j : Int)]) = H7 at *
        have PA7 := PA6.same s7
        have d1 := s7 _ _ d1
        refine ⟨S, _, _, rfl, rfl, d1, by rw [List.length_map]; exact small1000 (by omega), ?_⟩
        have off : ∀ {c : Addr} {xs : List V} {o : HO}, H7 c = some (.tup xs) → upd H7 S o c = some (.tup xs) := fun {c xs o} hc => by
          rw [upd_ne (fun z => by rw [z, d1] at hc; cases hc)]
          exact hc
        have PA8 : PlanAt (upd H7 S (.lst (ds.map V.ref ++ [.ref t]))) p' q' (m : Int) us := ⟨off PA7.tp, by rw [upd_ne nq3]; exact PA7.ls, fun x hx => off (PA7.ed x hx), PA7.va, PA7.n1⟩
        have SL8 : StL (upd H7 S (.lst (ds.map V.ref ++ [.ref t]))) S (st ++ [((i : Int), (j : Int))]) := by
          refine ⟨ds ++ [t], by rw [upd_same, List.map_append]; rfl, by simp [d2], fun k d pr h1 h2 => ?_⟩
          by_cases hk : k < ds.length
          · rw [List.getElem?_append_left hk] at h1
            rw [List.getElem?_append_left (by omega)] at h2
            exact off (s7 _ _ (d3 k d pr h1 h2))
          · have hk1 : k < ds.length + 1 := by
              have := (List.getElem?_eq_some_iff.mp h1).1
              simpa using this
            have hk2 : k = ds.length := by omega
            rw [hk2, List.getElem?_concat_length] at h1
            rw [hk2, d2, List.getElem?_concat_length] at h2
            cases h1
            cases h2
            exact off e7
        have sm8 : Same H (upd H7 S (.lst (ds.map V.ref ++ [.ref t]))) := fun c o ec => by
          rw [upd_ne (ne_of_none ec hS)]
          exact s7 _ _ (s6 _ _ (s35 _ _ ec))
        have eS8 : upd H7 S (.lst (ds.map V.ref ++ [.ref t])) S = some (.lst (ds.map V.ref ++ [.ref t])) := upd_same
        generalize upd H7 S (.lst (ds.map V.ref ++ [.ref t])) = H8 at *
        refine ⟨_, rfl, _, rfl, _, rfl, p', q', m, i, j, us, rfl, PA8, by omega, lu, ij, jm, ec, fun p2 q2 us2 H9 s9 np nq2 PA9 eus => ?_⟩
        have l2 : us2.length ≤ 60 := by
          have h1 := congrArg List.length eus
          have h2 := mrgP_len i j (psOf us)
          rw [psL_len] at h1 h2
          omega
        refine ⟨m - 1, by omega, _, _, p2, q2, us2, st ++ [((i : Int), (j : Int))], rfl, sm8.trans s9, SL8.same s9, PA9, (ne_of_none eS8 nq2).symm, l2, ?_, ?_⟩
        · rw [List.length_append, List.length_singleton]
          omega
        · have q3 := lst_step hd
          rw [eij] at q3
          rw [eq, q3, eus, List.append_assoc]
          rfl
    · -- the end
      have : ms = [] := by
        cases ms with
        | nil => rfl
        | cons a b => exact absurd rfl hc
      rw [this] at eM
      have q3 := lst_done (n := m) (ps := psOf us) eM.symm
      rw [q3, List.append_nil] at eq
      refine ⟨_, rfl, _, rfl, (by show 2 ≤ sizeLine; decide), fun t ht => ?_⟩
      have s6 := same_upd (o := .tup [.ref S, .ref p']) ht
      have q := q t S p' q' us _ (s35.trans s6) upd_same
      rw [eq] at q
      exact q (SL.same s6) (PA5.same s6) rfl
end
end Lw
set_option Elab.async false
set_option linter.all false
set_option maxRecDepth 100000
/-! a plan with other names -/
namespace Lw
open PySem L2
abbrev sLRn : Stmt := top 38
abbrev NRn : List Str := ["_law_plan_here", "_law_states", "_law_edges", "_law_k", "_law_old"]
/-- qs is ps with the names ss of its states, es of its edges -/
structure RenP (ss es : List Int) (ps qs : Ps) : Prop where
  len : qs.length = ps.length
  at_ : ∀ (k j : Nat) (p : Int × Int), es[j]? = some (k : Int) → ps[j]? = some p → qs[k]? = some (ss.getD p.1.toNat 0, ss.getD p.2.toNat 0)
theorem first_at {ys : List Int} {z : Int} (h : z ∈ ys) : ∃ j : Nat, ys[j]? = some z ∧ ∀ m : Nat, m < j → ys[m]? ≠ some z := by
  induction ys with
  | nil => cases h
  | cons y ys ih =>
    by_cases e : y = z
    · exact ⟨0, by rw [e]; rfl, fun m hm => by omega⟩
    · have h : z ∈ ys := (List.mem_cons.mp h).resolve_left (Ne.symm e)
      obtain ⟨j, h1, h2⟩ := ih h
      refine ⟨j + 1, h1, fun m hm => ?_⟩
      cases m with
      | zero =>
        intro w
        exact e (Option.some.inj w)
      | succ m => exact h2 m (by omega)
theorem PmN.at_mem {m : Nat} {xs : List Int} (h : PmN m xs) {j : Nat} (hj : j < m) : 0 ≤ xs.getD j 0 ∧ xs.getD j 0 < m := by
  have hl := h.len
  have : xs.getD j 0 ∈ xs := by
    simp [List.getD, show j < xs.length by omega]
  exact h.mem.mp this
theorem ren_valid {n : Nat} {ss es : List Int} {ps qs : Ps} (h : VaP n ps) (hs : PmN n ss) (he : PmN ps.length es) (r : RenP ss es ps qs) : VaP n qs := by
  refine ⟨fun q hq => ?_, fun k k0 k1 => ?_⟩
  · obtain ⟨k, hk, eq⟩ := List.getElem_of_mem hq
    have hk' : k < ps.length := by rw [← r.len]; exact hk
    have hm : (k : Int) ∈ es := he.mem.mpr ⟨by omega, by omega⟩
    obtain ⟨j, hj, _⟩ := first_at hm
    have jl : j < ps.length := by
      have := (List.getElem?_eq_some_iff.mp hj).1
      rw [he.len] at this
      exact this
    have e := r.at_ k j _ hj (List.getElem?_eq_getElem jl)
    rw [List.getElem?_eq_getElem hk, eq] at e
    have e := Option.some.inj e
    obtain ⟨a1, a2, a3, a4⟩ := h.rg _ (List.getElem_mem jl)
    have x := hs.at_mem (j := (ps[j]).1.toNat) (by omega)
    have y := hs.at_mem (j := (ps[j]).2.toNat) (by omega)
    rw [e]
    exact ⟨x.1, x.2, y.1, y.2⟩
  · have hm : k ∈ ss := hs.mem.mpr ⟨k0, k1⟩
    obtain ⟨s, hsk, _⟩ := first_at hm
    have sl : s < n := by
      have := (List.getElem?_eq_some_iff.mp hsk).1
      rw [hs.len] at this
      exact this
    obtain ⟨p, hp, ep⟩ := h.sr (s : Int) (by omega) (by omega)
    obtain ⟨j, jl, ej⟩ := List.getElem_of_mem hp
    have e1 := he.at_mem jl
    have je : j < es.length := by rw [he.len]; exact jl
    have e2 : es[j]? = some ((es.getD j 0).toNat : Int) := by
      rw [Int.toNat_of_nonneg e1.1]
      simp [List.getD, je]
    have e3 := r.at_ _ j _ e2 (List.getElem?_eq_getElem jl)
    refine ⟨_, List.mem_of_getElem? e3, ?_⟩
    show ss.getD (ps[j]).1.toNat 0 = k
    rw [ej, ep, Int.toNat_natCast]
    simp [List.getD, hsk]
def spLRn : Sp := fun vs H Q _ => ∃ (p q t u : Addr) (n : Nat) (ts : Es) (ss es : List Int), vs = [.ref p, .ref t, .ref u] ∧ PlanAt H p q (n : Int) ts ∧ n ≤ 20 ∧ ts.length ≤ 60 ∧ FT H t ss ∧ FT H u es ∧ PmN n ss ∧ PmN ts.length es ∧
  ∀ (p' q' : Addr) (us : Es) (H' : Hp), Same H H' → H p' = none → H q' = none → PlanAt H' p' q' (n : Int) us → RenP ss es (psOf ts) (psOf us) → Q (.ref p') H'
abbrev tPr (K : PySem.W.Frag) (z : Int) : TE := tOp (rIxT K) (tVar 1) (tOp (rIxT K) (tOp (rIxL K) (tOp (rIxT K) (tVar 0) (tC (.int 1))) (tVar 3)) (tC (.int z)))
section
variable {P : Program} {w : World} {K : PySem.W.Frag} {mg : Str → Option Value} {base : Heap} {f : Addr} {fd : FuncData} {k : Nat}
theorem scLRn : FnScope NRn ["_law_plan_here", "_law_states", "_law_edges"] (defScope sLRn) := ⟨rfl, rfl, rfl, by decide +kernel, rfl, by decide +kernel, by decide +kernel⟩
theorem ix_ints {xs : List Int} {z : Int} (h0 : 0 ≤ z) (h : z.toNat < xs.length) : atI (xs.map V.int) z = some (.int (xs.getD z.toNat 0)) := by
  have := int_at (xs := xs) (j := z.toNat) h
  rw [Int.toNat_of_nonneg h0] at this
  exact this
theorem es_at {ts : Es} {e : Addr × Int × Int} {j : Nat} (h : ts[j]? = some e) : atI (vsOf ts) (j : Int) = some (.ref e.1) := by
  refine atI_nat ?_
  unfold vsOf
  rw [List.getElem?_map, h]
  rfl
set_option maxHeartbeats 8000000 in
theorem ok_lrn (F : Fun K "_law_renamed" "_law_renamed" sLRn f fd) (T : Bi mg) : FnOk P w K mg base CX0 (k + 1) f fd ["_law_plan_here", "_law_states", "_law_edges"] spLRn := by
  refine F.ok scLRn (fun vs H Q E h => ?_) (fun cdv A outer s H vs Q E hr h => ?_)
  · obtain ⟨p, q, t, u, n, ts, ss, es, rfl, _⟩ := h
    rfl
  · obtain ⟨p, q0, t, u, n, ts, ss, es, rfl, PA, hn, hl, ft, fu, ps, pe, q⟩ := h
    refine ⟨_, pss_cons (ps_setLc (i := 4) (own := [("_law_k", 3)]) (g := gName 3) (tt := tYes) (te := tTix K (tVar 2) (tCons (tVar 3) tNil)) rfl scLRn.nd rfl rfl (sw_true rfl rfl rfl (by decide +kernel)) (pi_range1 (by rfl) T.range (pa_cons (pe_callB call_len_seq (by rfl) T.len PySem.boot_len (pa_cons (pv 2) pa_nil)) pa_nil)) (blkOk_by (N := NRn) (sc := defScope sLRn) (by decide +kernel))
          (fun _ _ _ _ _ => by exact pg_name (i := 3) scLRn.nd rfl (Or.inl rfl)) (fun _ _ _ _ _ => pts_nil)
          (fun _ _ _ _ _ => by exact pe_tIx (pv 2) (pa_cons (pv 3) pa_nil)))
      (pss_one (ps_ret (pe_tup (pa_cons (pe_ix ix_tup (pv 0) pe_int (fun _ _ => rfl)) (pa_cons
        (pe_lc (own := [("_law_k", 3)]) (g := gName 3) (tt := tYes) (te := tTup (tCons (tPr K 0) (tCons (tPr K 1) tNil))) rfl scLRn.nd (pi_seqA (pv 4)) (blkOk_by (N := NRn) (sc := defScope sLRn) (by decide +kernel))
          (fun _ _ _ _ _ => by exact pg_name (i := 3) scLRn.nd rfl (Or.inl rfl)) (fun _ _ _ _ _ => pts_nil)
          (fun _ _ _ _ _ => by exact pe_tup (pa_cons (pe_ix ix_tup (pv 1) (pe_ix ix_tup (pe_ix ix_list (pe_ix ix_tup (pv 0) pe_int (fun _ _ => rfl)) (pv 3) (fun _ _ => rfl)) pe_int (fun _ _ => rfl)) (fun _ _ => rfl)) (pa_cons (pe_ix ix_tup (pv 1) (pe_ix ix_tup (pe_ix ix_list (pe_ix ix_tup (pv 0) pe_int (fun _ _ => rfl)) (pv 3) (fun _ _ => rfl)) pe_int (fun _ _ => rfl)) (fun _ _ => rfl)) pa_nil)))) pa_nil))))), ?_⟩
    have le := pe.len
    have lv : (es.map V.int).length = ts.length := by rw [List.length_map, le]
    refine ⟨_, rfl, u, _, rfl, .inr fu.sq, _, rfl, by omega, by omega, fun D hD => ?_⟩
    refine lc_it (walk_range (lo := 0) (n := (((es.map V.int).length : Nat) : Int).toNat)) (fun m H' => Same H H' ∧ ∃ os : List Nat, os.length = m ∧ (∀ (k j : Nat), os[k]? = some j → es[j]? = some (k : Int)) ∧ H' D = some (.lst (os.map fun j : Nat => V.int ((j : Nat) : Int)))) ⟨same_upd hD, [], rfl, fun k j h => by simp at h, upd_same⟩ (fun _ _ _ _ => True.intro) ?_ ?_
    · rintro m x H1 H2 hm ⟨s1, os, lo, ho, eD⟩ ⟨rfl, hx⟩
      have hx : x = .int (m : Int) := by
        rw [hx]
        show V.int (0 + (m : Int)) = _
        rw [Int.zero_add]
      subst hx
      have hm : m < ts.length := by omega
      obtain ⟨j, h1, h2⟩ := first_at (pe.mem.mpr ⟨Int.natCast_nonneg m, by omega⟩)
      refine ⟨rfl, ?_⟩
      refine ⟨_, rfl, ⟨u, es, rfl, fu.same s1⟩, _, rfl, u, es, (m : Int), j, rfl, rfl, (fu.same s1).sq, h1, h2, _, eD, ?_, ?_, os ++ [j], by simp [lo], ?_, ?_⟩
      · rw [List.length_map]
        exact small1000 (by omega)
      · intro b o e
        rw [upd_ne (ne_of_none e hD)]
        exact s1 _ _ e
      · intro k i hk
        by_cases c : k < os.length
        · rw [List.getElem?_append_left c] at hk
          exact ho k i hk
        · have ck : k = os.length := by
            have := (List.getElem?_eq_some_iff.mp hk).1
            rw [List.length_append, List.length_singleton] at this
            omega
          rw [ck, List.getElem?_concat_length] at hk
          cases hk
          rw [ck, lo]
          exact h1
      · rw [upd_same, List.map_append]
        rfl
    · rintro H1 ⟨s1, os, lo, ho, eD⟩
      rw [Int.toNat_natCast, lv] at lo
      refine ⟨_, rfl, p, _, _, _, rfl, rfl, SqT.of (s1 _ _ PA.tp), rfl, ?_⟩
      refine ⟨_, rfl, D, _, SqL, rfl, .inl rfl, SqL.of eD, fun J w D2 hD2 => ?_⟩
      refine lc_it w (fun m H' => ∃ us : Es, Same H1 H' ∧ LsAt H' D2 us ∧ us.length = m ∧ ∀ (k j : Nat) (e : Addr × Int × Int), k < m → os[k]? = some j → ts[j]? = some e → (psOf us)[k]? = some (ss.getD e.2.1.toNat 0, ss.getD e.2.2.toNat 0)) ⟨[], same_upd hD2, ⟨upd_same, Ed.nil⟩, rfl, fun k j e h => by omega⟩ (fun m H' _ p => by obtain ⟨us, s, _⟩ := p; exact SqL.of (s _ _ eD)) ?_ ?_
      · rintro m x H2 H3 hm ⟨us, s2, L2, lu, hu⟩ ⟨rfl, gx⟩
        rw [List.length_map] at hm
        rw [List.getElem?_map] at gx
        obtain ⟨j, hj, rfl⟩ := Option.map_eq_some_iff.mp gx
        have jl : j < ts.length := by
          have := (List.getElem?_eq_some_iff.mp (ho m j hj)).1
          omega
        obtain ⟨ed, he⟩ : ∃ e, ts[j]? = some e := ⟨_, List.getElem?_eq_getElem jl⟩
        have mem := List.mem_of_getElem? he
        obtain ⟨r1, r2, r3, r4⟩ := PA.va.rg ed mem
        have PA3 := (PA.same s1).same s2
        have ft3 := (ft.same s1).same s2
        have ls := ps.len
        refine ⟨rfl, ?_⟩
        refine ⟨_, rfl, _, rfl, p, _, _, _, rfl, rfl, SqT.of PA3.tp, rfl, _, rfl, q0, _, _, _, rfl, rfl, SqL.of PA3.ls, es_at he, ed.1, _, _, _, rfl, rfl, SqT.of (PA3.ed ed mem), rfl, t, _, _, _, rfl, rfl, ft3.sq, ix_ints r1 (by omega), ?_⟩
        refine ⟨_, rfl, _, rfl, p, _, _, _, rfl, rfl, SqT.of PA3.tp, rfl, _, rfl, q0, _, _, _, rfl, rfl, SqL.of PA3.ls, es_at he, ed.1, _, _, _, rfl, rfl, SqT.of (PA3.ed ed mem), rfl, t, _, _, _, rfl, rfl, ft3.sq, ix_ints r3 (by omega), (by show 2 ≤ sizeLine; decide), fun tt ht => ?_⟩
        have s4 := same_upd (o := .tup [.int (ss.getD ed.2.1.toNat 0), .int (ss.getD ed.2.2.toNat 0)]) ht
        have e4 : upd H3 tt (.tup [.int (ss.getD ed.2.1.toNat 0), .int (ss.getD ed.2.2.toNat 0)]) tt = some (.tup [.int (ss.getD ed.2.1.toNat 0), .int (ss.getD ed.2.2.toNat 0)]) := upd_same
        have nt : tt ≠ D2 := fun z => by
          rw [z, L2.ls] at ht
          cases ht
        generalize upd H3 tt (.tup [.int (ss.getD ed.2.1.toNat 0), .int (ss.getD ed.2.2.toNat 0)]) = H4 at *
        have L4 := L2.same s4
        refine ⟨_, L4.ls, ?_, us ++ [(tt, ss.getD ed.2.1.toNat 0, ss.getD ed.2.2.toNat 0)], ?_, ⟨?_, ?_⟩, by simp [lu], ?_⟩
        · rw [vsOf_len]
          exact small1000 (by omega)
        · intro b o e
          rw [upd_ne (ne_of_none e hD2)]
          exact s4 _ _ (s2 _ _ e)
        · rw [upd_same]
          unfold vsOf
          rw [List.map_append]
          rfl
        · intro e he2
          rcases List.mem_append.mp he2 with he2 | he2
          · have := L4.ed e he2
            rw [upd_ne fun z => ?_]
            · exact this
            · rw [z, L4.ls] at this
              cases this
          · rw [List.mem_singleton.mp he2, upd_ne nt]
            exact e4
        · intro k2 j2 e2 hk h1 h2
          rw [psOf_app]
          by_cases c : k2 < us.length
          · rw [List.getElem?_append_left (by rw [psL_len]; exact c)]
            exact hu k2 j2 e2 (by omega) h1 h2
          · have ck : k2 = us.length := by omega
            subst ck
            have hh : (psOf us ++ psOf [(tt, ss.getD ed.2.1.toNat 0, ss.getD ed.2.2.toNat 0)])[us.length]? = some (ss.getD ed.2.1.toNat 0, ss.getD ed.2.2.toNat 0) := by
              rw [← psL_len us]
              exact List.getElem?_concat_length
            rw [lu, hj] at h1
            cases h1
            rw [he] at h2
            cases h2
            exact hh
      · rintro H2 ⟨us, s2, L2, lu, hu⟩
        rw [List.length_map, lo] at lu hu
        refine ⟨(by show 2 ≤ sizeLine; decide), fun p' hp' => ?_⟩
        have s3 := same_upd (o := .tup [.int (n : Int), .ref D2]) hp'
        have sA := (s1.trans s2).trans s3
        have rp : RenP ss es (psOf ts) (psOf us) := by
          refine ⟨by rw [psL_len, psL_len, lu], fun k j p h1 h2 => ?_⟩
          have jl := (List.getElem?_eq_some_iff.mp h2).1
          rw [psL_len] at jl
          have kl : k < ts.length := by
            have := pe.mem.mp (List.mem_of_getElem? h1)
            omega
          obtain ⟨j2, hj2⟩ : ∃ j2, os[k]? = some j2 := ⟨_, List.getElem?_eq_getElem (by omega)⟩
          have e1 := ho k j2 hj2
          have nd : es.Nodup := by
            refine pe.nodup_iff.mpr ?_
            unfold nums
            refine List.Pairwise.map _ (fun a b h z => h (by omega)) List.nodup_range
          have ej : j2 = j := by
            obtain ⟨l1, g1⟩ := List.getElem?_eq_some_iff.mp e1
            obtain ⟨l2, g2⟩ := List.getElem?_eq_some_iff.mp h1
            exact (List.getElem_inj nd).mp (g1.trans g2.symm)
          subst ej
          have h3 : psOf ts = ts.map fun e => e.2 := rfl
          rw [h3, List.getElem?_map] at h2
          obtain ⟨e, he, rfl⟩ := Option.map_eq_some_iff.mp h2
          exact hu k j2 e kl hj2 he
        refine q p' D2 us _ sA ((s1.trans s2).free hp') (s1.free hD2) ⟨upd_same, s3 _ _ L2.ls, L2.ed.same s3, VaP.es (ren_valid PA.va.ps ps (by rw [psL_len]; exact pe) rp), PA.n1⟩ rp
end
end Lw
set_option Elab.async false
set_option linter.all false
set_option maxRecDepth 100000
/-! a split plan -/
namespace Lw
open PySem L2
abbrev sLSp : Stmt := top 34
abbrev NSp : List Str := ["_law_plan_here", "_law_state", "_law_part", "_law_size", "_law_pairs", "_law_k", "_law_edges"]
abbrev pat (ps : Ps) (k : Nat) : Int × Int := ps.getD k (0, 0)
/-- the numbers of the edges that leave a state -/
def lvT (ps : Ps) (s : Int) (m : Nat) : List Int := (List.range m).flatMap fun k => if (pat ps k).1 = s then [((k : Nat) : Int)] else []
abbrev lvL (ps : Ps) (s : Int) : List Int := lvT ps s ps.length
theorem lvT_succ (ps : Ps) (s : Int) (m : Nat) : lvT ps s (m + 1) = lvT ps s m ++ (if (pat ps m).1 = s then [((m : Nat) : Int)] else []) := by
  unfold lvT
  rw [List.range_succ, List.flatMap_append]
  simp
theorem lvT_len (ps : Ps) (s : Int) (m : Nat) : (lvT ps s m).length ≤ m := by
  induction m with
  | zero => exact Nat.le_refl _
  | succ m ih =>
    rw [lvT_succ, List.length_append]
    split <;> simp <;> omega
theorem lvT_mem {ps : Ps} {s z : Int} {m : Nat} : z ∈ lvT ps s m ↔ ∃ k : Nat, z = (k : Int) ∧ k < m ∧ (pat ps k).1 = s := by
  unfold lvT
  rw [List.mem_flatMap]
  constructor
  · rintro ⟨k, hk, h⟩
    split at h
    · rename_i e
      rw [List.mem_singleton] at h
      exact ⟨k, h, List.mem_range.mp hk, e⟩
    · cases h
  · rintro ⟨k, rfl, hk, e⟩
    refine ⟨k, List.mem_range.mpr hk, ?_⟩
    rw [if_pos e]
    exact List.mem_singleton.mpr rfl
theorem lvT_nodup (ps : Ps) (s : Int) (m : Nat) : (lvT ps s m).Nodup := by
  induction m with
  | zero => exact List.nodup_nil
  | succ m ih =>
    rw [lvT_succ, List.nodup_append]
    refine ⟨ih, by split <;> simp, fun a ha b hb => ?_⟩
    obtain ⟨k, rfl, hk, _⟩ := lvT_mem.mp ha
    split at hb
    · rw [List.mem_singleton.mp hb]
      omega
    · cases hb
theorem sub_miss {xs ys : List Int} (h : xs.Sublist ys) (nd : ys.Nodup) (hl : xs.length < ys.length) : ∃ y ∈ ys, y ∉ xs := by
  induction h with
  | slnil => exact absurd hl (Nat.lt_irrefl _)
  | cons a h ih =>
    rename_i l1 l2
    have := List.nodup_cons.mp nd
    exact ⟨a, List.mem_cons_self, fun z => this.1 (h.subset z)⟩
  | cons_cons a h ih =>
    rename_i l1 l2
    have n2 := List.nodup_cons.mp nd
    obtain ⟨y, h1, h2⟩ := ih n2.2 (by simpa using hl)
    refine ⟨y, List.mem_cons_of_mem _ h1, fun z => ?_⟩
    rcases List.mem_cons.mp z with z | z
    · rw [z] at h1
      exact n2.1 h1
    · exact h2 z
structure SplOk (n : Int) (ps : Ps) (s : Int) (part : List Int) : Prop where
  s0 : 0 ≤ s
  s1 : s < n
  sub : part.Sublist (lvL ps s)
  ne : part ≠ []
  lt : part.length < (lvL ps s).length
def splE (n : Int) (part : List Int) (ps : Ps) (k : Nat) : Int × Int := (if (k : Int) ∈ part then n else (pat ps k).1, (pat ps k).2)
def splA (n : Int) (part : List Int) (ps : Ps) (m : Nat) : Ps := (List.range m).map (splE n part ps)
def splB (n s : Int) (part : List Int) (ps : Ps) (m : Nat) : Ps := (List.range m).flatMap fun k => if (pat ps k).2 = s then [((splE n part ps k).1, n)] else []
def splP (n s : Int) (part : List Int) (ps : Ps) : Ps := splA n part ps ps.length ++ splB n s part ps ps.length
theorem splA_succ (n : Int) (part : List Int) (ps : Ps) (m : Nat) : splA n part ps (m + 1) = splA n part ps m ++ [splE n part ps m] := by
  unfold splA
  rw [List.range_succ, List.map_append]
  rfl
theorem splB_succ (n s : Int) (part : List Int) (ps : Ps) (m : Nat) : splB n s part ps (m + 1) = splB n s part ps m ++ (if (pat ps m).2 = s then [((splE n part ps m).1, n)] else []) := by
  unfold splB
  rw [List.range_succ, List.flatMap_append]
  simp
theorem splB_len (n s : Int) (part : List Int) (ps : Ps) (m : Nat) : (splB n s part ps m).length ≤ m := by
  induction m with
  | zero => exact Nat.le_refl _
  | succ m ih =>
    rw [splB_succ, List.length_append]
    split <;> simp <;> omega
theorem pat_at {ps : Ps} {k : Nat} (h : k < ps.length) : ps[k]? = some (pat ps k) := by
  simp [List.getD, h]
theorem pat_mem {ps : Ps} {k : Nat} (h : k < ps.length) : pat ps k ∈ ps := List.mem_of_getElem? (pat_at h)
theorem spl_valid {n : Int} {ps : Ps} {s : Int} {part : List Int} (h : VaP n ps) (o : SplOk n ps s part) : VaP (n + 1) (splP n s part ps) := by
  have s0 := o.s0
  have s1 := o.s1
  have rE : ∀ k, k < ps.length → 0 ≤ (splE n part ps k).1 ∧ (splE n part ps k).1 < n + 1 ∧ 0 ≤ (splE n part ps k).2 ∧ (splE n part ps k).2 < n + 1 := fun k hk => by
    obtain ⟨a1, a2, a3, a4⟩ := h.rg _ (pat_mem hk)
    unfold splE
    refine ⟨?_, ?_, a3, by show (pat ps k).2 < n + 1; omega⟩
    · show 0 ≤ if (k : Int) ∈ part then n else (pat ps k).1
      split <;> omega
    · show (if (k : Int) ∈ part then n else (pat ps k).1) < n + 1
      split <;> omega
  have inA : ∀ k, k < ps.length → splE n part ps k ∈ splP n s part ps := fun k hk => by
    unfold splP splA
    exact List.mem_append_left _ (List.mem_map.mpr ⟨k, List.mem_range.mpr hk, rfl⟩)
  refine ⟨fun p hp => ?_, fun k k0 k1 => ?_⟩
  · unfold splP at hp
    rcases List.mem_append.mp hp with hp | hp
    · unfold splA at hp
      obtain ⟨k, hk, rfl⟩ := List.mem_map.mp hp
      exact rE k (List.mem_range.mp hk)
    · unfold splB at hp
      obtain ⟨k, hk, hp⟩ := List.mem_flatMap.mp hp
      split at hp
      · rw [List.mem_singleton] at hp
        have := rE k (List.mem_range.mp hk)
        rw [hp]
        exact ⟨this.1, this.2.1, by show 0 ≤ n; omega, by show n < n + 1; omega⟩
      · cases hp
  · by_cases c : k = n
    · obtain ⟨z, hz⟩ := List.exists_mem_of_ne_nil _ o.ne
      obtain ⟨i, rfl, il, _⟩ := lvT_mem.mp (o.sub.subset hz)
      refine ⟨_, inA i il, ?_⟩
      unfold splE
      show (if ((i : Nat) : Int) ∈ part then n else (pat ps i).1) = k
      rw [if_pos hz, c]
    · by_cases cs : k = s
      · obtain ⟨y, hy, hn⟩ := sub_miss o.sub (lvT_nodup _ _ _) o.lt
        obtain ⟨i, rfl, il, e⟩ := lvT_mem.mp hy
        refine ⟨_, inA i il, ?_⟩
        unfold splE
        show (if ((i : Nat) : Int) ∈ part then n else (pat ps i).1) = k
        rw [if_neg hn, e, cs]
      · obtain ⟨p, hp, ep⟩ := h.sr k k0 (by omega)
        obtain ⟨i, il, ei⟩ := List.getElem_of_mem hp
        have ei : pat ps i = p := by
          have := pat_at il
          rw [List.getElem?_eq_getElem il, ei] at this
          exact (Option.some.inj this).symm
        refine ⟨_, inA i il, ?_⟩
        unfold splE
        show (if ((i : Nat) : Int) ∈ part then n else (pat ps i).1) = k
        rw [if_neg, ei, ep]
        intro z
        obtain ⟨j, ej, _, e⟩ := lvT_mem.mp (o.sub.subset z)
        have : i = j := by omega
        subst this
        rw [ei, ep] at e
        exact cs e
theorem inV_dec (k : Int) (ks : List Int) : inV (.int k) (ks.map V.int) = decide (k ∈ ks) := by
  unfold inV
  rw [List.any_map]
  induction ks with
  | nil => rfl
  | cons x ks ih =>
    rw [List.any_cons, ih]
    show ((x == k) || decide (k ∈ ks)) = decide (k ∈ x :: ks)
    by_cases e : x = k
    · simp [e]
    · have e' : ¬ k = x := fun z => e z.symm
      simp [e, e']
def spLSp : Sp := fun vs H Q _ => ∃ (p q t : Addr) (n : Nat) (ts : Es) (s : Int) (part : List Int), vs = [.ref p, .int s, .ref t] ∧ PlanAt H p q (n : Int) ts ∧ n ≤ 20 ∧ ts.length ≤ 60 ∧ TI H t part ∧ SplOk n (psOf ts) s part ∧
  ∀ (p' q' : Addr) (us : Es) (H' : Hp), Same H H' → H p' = none → H q' = none → PlanAt H' p' q' ((n + 1 : Nat) : Int) us → psOf us = splP n s part (psOf ts) → Q (.ref p') H'
abbrev tAt (K : PySem.W.Frag) (i z : Nat) : TE := tOp (rIxT K) (tOp (rIxL K) (tVar i) (tVar 5)) (tC (.int z))
abbrev tSpE (K : PySem.W.Frag) : TE := tTup (tCons (tIf (tTest (tOp (rIn K false) (tVar 5) (tVar 2))) (tVar 3) (tAt K 4 0)) (tCons (tAt K 4 1) tNil))
theorem psOf_pat {ts : Es} {e : Addr × Int × Int} {k : Nat} (h : ts[k]? = some e) : pat (psOf ts) k = e.2 := by
  have := psOf_at h
  simp [pat, List.getD, this]
section
variable {P : Program} {w : World} {K : PySem.W.Frag} {mg : Str → Option Value} {base : Heap} {f : Addr} {fd : FuncData} {k : Nat}
theorem scLSp : FnScope NSp ["_law_plan_here", "_law_state", "_law_part"] (defScope sLSp) := ⟨rfl, rfl, rfl, by decide +kernel, rfl, by decide +kernel, by decide +kernel⟩
theorem LsAt.snoc {H H4 : Hp} {D tt : Addr} {us : Es} {x y : Int} (L : LsAt H4 D us) (e : H4 tt = some (.tup [.int x, .int y])) (nt : tt ≠ D) : LsAt (upd H4 D (.lst (vsOf us ++ [.ref tt]))) D (us ++ [(tt, x, y)]) := by
  refine ⟨?_, fun z hz => ?_⟩
  · rw [upd_same]
    unfold vsOf
    rw [List.map_append]
    rfl
  · rcases List.mem_append.mp hz with hz | hz
    · have := L.ed z hz
      rw [upd_ne fun w => ?_]
      · exact this
      · rw [w, L.ls] at this
        cases this
    · rw [List.mem_singleton.mp hz, upd_ne nt]
      exact e
set_option maxHeartbeats 8000000 in
theorem ok_lsp (F : Fun K "_law_split" "_law_split" sLSp f fd) (T : Bi mg) : FnOk P w K mg base CX0 (k + 1) f fd ["_law_plan_here", "_law_state", "_law_part"] spLSp := by
  refine F.ok scLSp (fun vs H Q E h => ?_) (fun cdv A outer s0 H vs Q E hr h => ?_)
  · obtain ⟨p, q, t, n, ts, s, part, rfl, _⟩ := h
    rfl
  · obtain ⟨p, q0, t, n, ts, s, part, rfl, PA, hn, hl, ti, ok, q⟩ := h
    refine ⟨_, pss_cons (ps_asg (pv 0) (pg_tup rfl (pgs_cons (pg_name (i := 3) scLSp.nd rfl (.inr rfl)) (pgs_cons (pg_name (i := 4) scLSp.nd rfl (.inr rfl)) pgs_nil))))
      (pss_cons (ps_set (i := 6) scLSp.nd rfl (.inr rfl)
        (pe_lc (own := [("_law_k", 5)]) (g := gName 5) (tt := tYes) (te := tSpE K) rfl scLSp.nd (pi_range1 (by rfl) T.range (pa_cons (pe_callB call_len_seq (by rfl) T.len PySem.boot_len (pa_cons (pv 4) pa_nil)) pa_nil)) (blkOk_by (N := NSp) (sc := defScope sLSp) (by decide +kernel))
          (fun _ _ _ _ _ => by exact pg_name (i := 5) scLSp.nd rfl (Or.inl rfl)) (fun _ _ _ _ _ => pts_nil)
          (fun _ _ _ _ _ => by exact pe_tup (pa_cons (pe_ifExp (pt_cmpR op_in_seq (pv 5) (pv 2) (by rfl)) (pv 3) (pe_ix ix_tup (pe_ix ix_list (pv 4) (pv 5) (fun _ _ => rfl)) pe_int (fun _ _ => rfl))) (pa_cons (pe_ix ix_tup (pe_ix ix_list (pv 4) (pv 5) (fun _ _ => rfl)) pe_int (fun _ _ => rfl)) pa_nil)))))
      (pss_one (ps_ret (pe_tup (pa_cons (pe_op op_add (pv 3) pe_int) (pa_cons (pe_op op_cat (pv 6)
        (pe_lc (own := [("_law_k", 5)]) (g := gName 5) (tt := tTest (tOp rEq (tAt K 4 1) (tVar 1))) (te := tTup (tCons (tAt K 6 0) (tCons (tVar 3) tNil))) rfl scLSp.nd (pi_range1 (by rfl) T.range (pa_cons (pe_callB call_len_seq (by rfl) T.len PySem.boot_len (pa_cons (pv 4) pa_nil)) pa_nil)) (blkOk_by (N := NSp) (sc := defScope sLSp) (by decide +kernel))
          (fun _ _ _ _ _ => by exact pg_name (i := 5) scLSp.nd rfl (Or.inl rfl))
          (fun _ _ _ _ _ => by exact pts_one (pt_cmpR op_eq (pe_ix ix_tup (pe_ix ix_list (pv 4) (pv 5) (fun _ _ => rfl)) pe_int (fun _ _ => rfl)) (pv 1) (nomark _)))
          (fun _ _ _ _ _ => by exact pe_tup (pa_cons (pe_ix ix_tup (pe_ix ix_list (pv 6) (pv 5) (fun _ _ => rfl)) pe_int (fun _ _ => rfl)) (pa_cons (pv 3) pa_nil))))) pa_nil)))))), ?_⟩
    refine ⟨_, rfl, p, _, rfl, SqT.of PA.tp, rfl, _, _, rfl, _, _, rfl, rfl, ?_⟩
    have lv := vsOf_len ts
    have lps := psL_len ts
    -- the edges
    refine ⟨_, rfl, q0, _, rfl, .inl (SqL.of PA.ls), _, rfl, by omega, by omega, fun D hD => ?_⟩
    refine lc_it (walk_range (lo := 0) (n := (((vsOf ts).length : Nat) : Int).toNat)) (fun m H' => ∃ us : Es, Same H H' ∧ LsAt H' D us ∧ psOf us = splA n part (psOf ts) m) ⟨[], same_upd hD, ⟨upd_same, Ed.nil⟩, rfl⟩ (fun _ _ _ _ => True.intro) ?_ ?_
    · rintro m x H1 H2 hm ⟨us, s1, L1, hu⟩ ⟨rfl, hx⟩
      have hx : x = .int (m : Int) := by
        rw [hx]
        show V.int (0 + (m : Int)) = _
        rw [Int.zero_add]
      subst hx
      have hm : m < ts.length := by omega
      obtain ⟨ed, he⟩ : ∃ e, ts[m]? = some e := ⟨_, List.getElem?_eq_getElem hm⟩
      have PA2 := PA.same s1
      have ee := PA2.ed ed (List.mem_of_getElem? he)
      have lu : us.length = m := by
        have := congrArg List.length hu
        unfold splA at this
        rw [psL_len, List.length_map, List.length_range] at this
        exact this
      have fin : ∀ z : Int, z = (splE n part (psOf ts) m).1 → ∀ tt, H2 tt = none → ∃ acc, upd H2 tt (.tup [.int z, .int ed.2.2]) D = some (.lst acc) ∧ acc.length < sizeLine ∧ ∃ us : Es, Same H (upd (upd H2 tt (.tup [.int z, .int ed.2.2])) D (.lst (acc ++ [.ref tt]))) ∧ LsAt (upd (upd H2 tt (.tup [.int z, .int ed.2.2])) D (.lst (acc ++ [.ref tt]))) D us ∧ psOf us = splA n part (psOf ts) (m + 1) := fun z hz tt ht => by
        have s4 := same_upd (o := .tup [.int z, .int ed.2.2]) ht
        have nt : tt ≠ D := fun w => by
          rw [w, L1.ls] at ht
          cases ht
        have L4 := L1.same s4
        refine ⟨_, L4.ls, ?_, us ++ [(tt, z, ed.2.2)], ?_, L4.snoc (H := H2) upd_same nt, ?_⟩
        · rw [vsOf_len]
          exact small1000 (by omega)
        · intro b o e
          rw [upd_ne (ne_of_none e hD)]
          exact s4 _ _ (s1 _ _ e)
        · rw [psOf_app, hu, splA_succ, hz]
          show _ ++ [((splE n part (psOf ts) m).1, ed.2.2)] = _ ++ [splE n part (psOf ts) m]
          unfold splE
          rw [psOf_pat he]
      refine ⟨rfl, ?_⟩
      refine ⟨_, rfl, _, rfl, t, _, rfl, .inr (SqT.of (s1 _ _ ti)), rfl, flat_ints part, _, rfl, ?_⟩
      have ei : (if (false : Bool) = true then !inV (V.int (m : Int)) (part.map V.int) else inV (V.int (m : Int)) (part.map V.int)) = decide ((m : Int) ∈ part) := by
        rw [if_neg Bool.false_ne_true, inV_dec]
      rw [ei]
      refine ite2 (fun hc => ?_) (fun hc => ?_)
      · have hc := of_decide_eq_true hc
        refine ⟨_, rfl, _, rfl, _, rfl, q0, _, _, _, rfl, rfl, SqL.of PA2.ls, es_at he, ed.1, _, _, _, rfl, rfl, SqT.of ee, rfl, (by show 2 ≤ sizeLine; decide), fun tt ht => fin _ ?_ tt ht⟩
        unfold splE
        show (n : Int) = if ((m : Nat) : Int) ∈ part then (n : Int) else _
        rw [if_pos hc]
      · have hc : ¬ ((m : Nat) : Int) ∈ part := fun z => hc (decide_eq_true z)
        refine ⟨_, rfl, _, rfl, q0, _, _, _, rfl, rfl, SqL.of PA2.ls, es_at he, ed.1, _, _, _, rfl, rfl, SqT.of ee, rfl, _, rfl, _, rfl, q0, _, _, _, rfl, rfl, SqL.of PA2.ls, es_at he, ed.1, _, _, _, rfl, rfl, SqT.of ee, rfl, (by show 2 ≤ sizeLine; decide), fun tt ht => fin _ ?_ tt ht⟩
        unfold splE
        show ed.2.1 = if ((m : Nat) : Int) ∈ part then (n : Int) else (pat (psOf ts) m).1
        rw [if_neg hc, psOf_pat he]
    · rintro H1 ⟨us, s1, L1, hu⟩
      rw [Int.toNat_natCast, lv] at hu
      have lu : us.length = ts.length := by
        have := congrArg List.length hu
        unfold splA at this
        rw [psL_len, List.length_map, List.length_range] at this
        exact this
      -- the copies
      refine ⟨_, rfl, _, _, rfl, rfl, _, rfl, _, rfl, q0, _, rfl, .inl (SqL.of (s1 _ _ PA.ls)), _, rfl, by omega, by omega, fun D2 hD2 => ?_⟩
      refine lc_it (walk_range (lo := 0) (n := (((vsOf ts).length : Nat) : Int).toNat)) (fun m H' => ∃ ws : Es, Same H1 H' ∧ LsAt H' D2 ws ∧ psOf ws = splB n s part (psOf ts) m) ⟨[], same_upd hD2, ⟨upd_same, Ed.nil⟩, rfl⟩ (fun _ _ _ _ => True.intro) ?_ ?_
      · rintro m x H2 H3 hm ⟨ws, s2, L2, hw⟩ ⟨rfl, hx⟩
        have hx : x = .int (m : Int) := by
          rw [hx]
          show V.int (0 + (m : Int)) = _
          rw [Int.zero_add]
        subst hx
        have hm : m < ts.length := by omega
        obtain ⟨ed, he⟩ : ∃ e, ts[m]? = some e := ⟨_, List.getElem?_eq_getElem hm⟩
        obtain ⟨eu, hu2⟩ : ∃ e, us[m]? = some e := ⟨_, List.getElem?_eq_getElem (by omega)⟩
        have PA3 := (PA.same s1).same s2
        have L13 := L1.same s2
        have eu1 : eu.2 = splE n part (psOf ts) m := by
          have h1 := psOf_at hu2
          rw [hu] at h1
          unfold splA at h1
          rw [List.getElem?_map, List.getElem?_range hm] at h1
          exact (Option.some.inj h1).symm
        have lw : ws.length ≤ 60 := by
          have h1 := congrArg List.length hw
          have h2 := splB_len n s part (psOf ts) m
          rw [psL_len] at h1
          omega
        refine ⟨rfl, ?_⟩
        refine ⟨_, rfl, _, rfl, q0, _, _, _, rfl, rfl, SqL.of PA3.ls, es_at he, ed.1, _, _, _, rfl, rfl, SqT.of (PA3.ed ed (List.mem_of_getElem? he)), rfl, _, rfl, rfl, _, rfl, ite2 (fun hc => ?_) (fun hc => ?_)⟩
        · have hc : ed.2.2 = s := by
            have := of_decide_eq_true hc
            injection this
          refine ⟨_, rfl, _, rfl, D, _, _, _, rfl, rfl, SqL.of L13.ls, es_at hu2, eu.1, _, _, _, rfl, rfl, SqT.of (L13.ed eu (List.mem_of_getElem? hu2)), rfl, _, rfl, (by show 2 ≤ sizeLine; decide), fun tt ht => ?_⟩
          have s4 := same_upd (o := .tup [.int eu.2.1, .int (n : Int)]) ht
          have nt : tt ≠ D2 := fun w => by
            rw [w, L2.ls] at ht
            cases ht
          have L4 := L2.same s4
          refine ⟨_, L4.ls, ?_, ws ++ [(tt, eu.2.1, (n : Int))], ?_, L4.snoc (H := H3) upd_same nt, ?_⟩
          · rw [vsOf_len]
            exact small1000 (by omega)
          · intro b o e
            rw [upd_ne (ne_of_none e hD2)]
            exact s4 _ _ (s2 _ _ e)
          · rw [psOf_app, hw, splB_succ, psOf_pat he, if_pos hc]
            show _ ++ [(eu.2.1, (n : Int))] = _
            rw [eu1]
        · have hc : ¬ ed.2.2 = s := fun z => hc (decide_eq_true (congrArg V.int z))
          refine ⟨ws, s2, L2, ?_⟩
          rw [hw, splB_succ, psOf_pat he, if_neg hc, List.append_nil]
      · rintro H2 ⟨ws, s2, L2, hw⟩
        rw [Int.toNat_natCast, lv] at hw
        have lw : ws.length ≤ 60 := by
          have h1 := congrArg List.length hw
          have h2 := splB_len n s part (psOf ts) ts.length
          rw [psL_len] at h1
          omega
        have L12 := L1.same s2
        refine ⟨D, D2, _, _, rfl, rfl, L12.ls, L2.ls, ?_, fun R hR => ?_⟩
        · rw [vsOf_len, vsOf_len]
          exact Nat.le_of_lt (small1000 (by omega))
        have s3 := same_upd (o := .lst (vsOf us ++ vsOf ws)) hR
        have eR : upd H2 R (.lst (vsOf us ++ vsOf ws)) R = some (.lst (vsOf us ++ vsOf ws)) := upd_same
        have L3 := (L12.ed.same s3).app (L2.ed.same s3)
        generalize upd H2 R (.lst (vsOf us ++ vsOf ws)) = H3 at *
        refine ⟨(by show 2 ≤ sizeLine; decide), fun p' hp' => ?_⟩
        have s4 := same_upd (o := .tup [(fun i j : Int => V.int (i + j)) (n : Int) 1, .ref R]) hp'
        have s12 := s1.trans s2
        have sA := (s12.trans s3).trans s4
        have e1 : psOf (us ++ ws) = splP n s part (psOf ts) := by
          rw [psOf_app, hu, hw]
          unfold splP
          rw [lps]
        have en : ((n + 1 : Nat) : Int) = (n : Int) + 1 := by omega
        refine q p' R (us ++ ws) _ sA ((s12.trans s3).free hp') (s12.free hR) ⟨?_, ?_, L3.same s4, ?_, by omega⟩ e1
        · rw [en]
          exact upd_same
        · rw [s4 _ _ eR]
          unfold vsOf
          rw [List.map_append]
        · rw [en]
          refine VaP.es ?_
          rw [e1]
          exact spl_valid PA.va.ps ok
end
end Lw
set_option Elab.async false
set_option linter.all false
set_option maxRecDepth 100000
/-! a step that a plan allows: the rows that leave, the states that can be split -/
namespace Lw
open PySem L2
abbrev sStF : Stmt := top 40
inductive Sd where
  | spl (s : Int) (ps : List Int)
  | mrg (a b : Int)
  | ren (ss es : List Int)
def SdAt (H : Hp) (d : Addr) : Sd → Prop
  | .spl s ps => ∃ t, H d = some (.tup [.str "split", .int s, .ref t]) ∧ TI H t ps
  | .mrg a b => H d = some (.tup [.str "merge", .int a, .int b])
  | .ren ss es => ∃ t u, H d = some (.tup [.str "rename", .ref t, .ref u]) ∧ FT H t ss ∧ FT H u es
theorem SdAt.same {H H' : Hp} {d : Addr} {x : Sd} (h : SdAt H d x) (s : Same H H') : SdAt H' d x := by
  cases x with
  | spl => obtain ⟨t, h1, h2⟩ := h; exact ⟨t, s _ _ h1, h2.same s⟩
  | mrg => exact s _ _ h
  | ren => obtain ⟨t, u, h1, h2, h3⟩ := h; exact ⟨t, u, s _ _ h1, h2.same s, h3.same s⟩
/-- how many edges enter a state -/
def inN (ps : Ps) (s : Int) : Nat := (ps.filter fun p => decide (p.2 = s)).length
theorem inN_snoc (ps : Ps) (p : Int × Int) (s : Int) : inN (ps ++ [p]) s = inN ps s + (if p.2 = s then 1 else 0) := by
  unfold inN
  rw [List.filter_append, List.length_append]
  by_cases h : p.2 = s
  · rw [if_pos h, List.filter_cons_of_pos (by rw [decide_eq_true h])]
    rfl
  · rw [if_neg h, List.filter_cons_of_neg (by rw [decide_eq_false h]; exact Bool.false_ne_true)]
    rfl
/-- a step that a plan allows -/
def SdOk (n : Nat) (ps : Ps) : Sd → Prop
  | .spl s part => SplOk n ps s part ∧ n < 8 ∧ inN ps s + ps.length ≤ 24
  | .mrg a b => (a, b) ∈ mrgs n ps
  | .ren ss es => PmN n ss ∧ PmN ps.length es
/-- the rows of numbers that leave the states, none of them the bag -/
structure LvAt (b : Addr) (H : Hp) (D : Addr) (ws : List (Addr × List Int)) (ps : Ps) : Prop where
  ls : H D = some (.lst (ws.map fun e => V.ref e.1))
  nb : D ≠ b
  row : ∀ e ∈ ws, H e.1 = some (.lst (e.2.map V.int)) ∧ e.1 ≠ b
  val : ∀ (i : Nat) (e : Addr × List Int), ws[i]? = some e → e.2 = lvL ps (i : Int)
theorem LvAt.keep {b : Addr} {H H' : Hp} {D : Addr} {ws : List (Addr × List Int)} {ps : Ps} (h : LvAt b H D ws ps) (k : KeepB b H H') : LvAt b H' D ws ps := ⟨k _ _ h.nb h.ls, h.nb, fun e he => by
  obtain ⟨h1, h2⟩ := h.row e he
  exact ⟨k _ _ h2 h1, h2⟩, h.val⟩
theorem LvAt.same {b : Addr} {H H' : Hp} {D : Addr} {ws : List (Addr × List Int)} {ps : Ps} (h : LvAt b H D ws ps) (s : Same H H') : LvAt b H' D ws ps := h.keep (.of_same s)
/-- states that can be split -/
def Able (n : Int) (ps : Ps) (xs : List Int) : Prop := ∀ z ∈ xs, 0 ≤ z ∧ z < n ∧ 1 < (lvL ps z).length ∧ inN ps z + ps.length ≤ 24
abbrev NSf : List Str := ["_law_bag_here", "_law_plan_here", "_law_size", "_law_pairs", "_law_state", "_law_k", "_law_leaving", "_law_pair", "_law_able", "_law_way", "_law_mergers_here", "_law_one", "_law_other", "_law_part"]
abbrev scF1 : Scope := { kind := .function, names := [(".0", .local), ("_law_state", .cell), ("range", .globalImplicit), ("len", .globalImplicit), ("_law_pairs", .cell)], isGenerator := false, isCoroutine := false }
abbrev scF2 : Scope := { kind := .function, names := [(".0", .local), ("_law_state", .cell), ("len", .globalImplicit), ("_law_leaving", .cell), ("_law_pairs", .cell)], isGenerator := false, isCoroutine := false }
abbrev tLen (K : PySem.W.Frag) (t : TE) : TE := tCB (fun xs H Q => ∃ p ys, xs = [V.ref p] ∧ (SqL K H p ys ∨ SqT K H p ys) ∧ Q (.int ys.length) H) (tCons t tNil)
abbrev tLv1 (K : PySem.W.Frag) : TE := tLc (iRng1 (tCons (tLen K (tVar 3)) tNil)) (gName 5) (tTest (tOp rEq (tOp (rIxT K) (tOp (rIxL K) (tVar 3) (tVar 5)) (tC (.int 0))) (tVar 4))) (tVar 5) [5]
abbrev tIn1 (K : PySem.W.Frag) : TE := tLc (iSeqA K (tVar 3)) (gName 7) (tTest (tOp rEq (tOp (rIxT K) (tVar 7) (tC (.int 1))) (tVar 4))) (tC (.int 1)) [7]
abbrev tAb (K : PySem.W.Frag) : TT := tAnd (tTest (tOp (rI0 fun i j => .bl (decide (j < i))) (tLen K (tOp (rIxL K) (tVar 6) (tVar 4))) (tC (.int 1)))) (tTest (tOp (rI0 fun i j => .bl (decide (i ≤ j))) (tOp (rI0 fun i j => .int (i + j)) (tLen K (tIn1 K)) (tLen K (tVar 3))) (tC (.int 24))))
section
variable {P : Program} {w : World} {K : PySem.W.Frag} {mg : Str → Option Value} {base : Heap} {f : Addr} {fd : FuncData} {k : Nat}
theorem scStF : FnScope NSf ["_law_bag_here", "_law_plan_here"] (defScope sStF) := ⟨rfl, rfl, rfl, by decide +kernel, rfl, by decide +kernel, by decide +kernel⟩
/-- the numbers of the edges that leave a state -/
theorem lv1 {H : Hp} {q : Addr} {ts : Es} {s : Int} {v0 v1 v2 v5 v6 v7 v8 v9 v10 v11 v12 v13 : Option V} {Q : VK} (hq : H q = some (.lst (vsOf ts))) (ed : Ed H ts) (hl : ts.length ≤ 60)
    (h : ∀ (D : Addr) (H' : Hp), Same H H' → H D = none → H' D = some (.lst ((lvL (psOf ts) s).map V.int)) → Q (.ref D) H') :
    tLv1 K [v0, v1, v2, some (.ref q), some (.int s), v5, v6, v7, v8, v9, v10, v11, v12, v13] H Q := by
  have ln := vsOf_len ts
  refine ⟨_, rfl, q, _, rfl, .inl (SqL.of hq), _, rfl, by omega, by omega, fun D hD => ?_⟩
  refine lc_it (walk_range (lo := 0) (n := ((vsOf ts).length : Int).toNat)) (fun i H' => Same H H' ∧ H' D = some (.lst ((lvT (psOf ts) s i).map V.int))) ⟨same_upd hD, upd_same⟩ (fun _ _ _ _ => True.intro) ?_ ?_
  · rintro i x H1 H2 hi ⟨sm, eD⟩ ⟨rfl, hxx⟩
    have hxx : x = .int (i : Int) := by
      rw [hxx]
      show V.int (0 + (i : Int)) = _
      rw [Int.zero_add]
    subst hxx
    have hi : i < ts.length := by omega
    obtain ⟨e, he⟩ : ∃ e, ts[i]? = some e := ⟨_, List.getElem?_eq_getElem hi⟩
    refine ⟨rfl, ?_⟩
    refine ⟨_, rfl, _, rfl, q, _, _, .ref e.1, rfl, rfl, SqL.of (sm _ _ hq), es_at he, e.1, _, _, .int e.2.1, rfl, rfl, SqT.of (sm _ _ (ed e (List.mem_of_getElem? he))), rfl, _, rfl, rfl, _, rfl, ite2 (fun hc => ?_) (fun hc => ?_)⟩
    · have hc : e.2.1 = s := by
        have := of_decide_eq_true hc
        injection this
      refine ⟨_, rfl, _, eD, ?_, ?_, ?_⟩
      · rw [List.length_map]
        have := lvT_len (psOf ts) s i
        exact small1000 (by omega)
      · intro b o e
        rw [upd_ne (ne_of_none e hD)]
        exact sm _ _ e
      · rw [upd_same, lvT_succ, psOf_pat he, if_pos hc, List.map_append]
        rfl
    · have hc : ¬ e.2.1 = s := fun z => hc (decide_eq_true (congrArg V.int z))
      refine ⟨sm, ?_⟩
      rw [eD, lvT_succ, psOf_pat he, if_neg hc, List.append_nil]
  · rintro H1 ⟨sm, eD⟩
    rw [Int.toNat_natCast, ln, ← psL_len ts] at eD
    exact h D H1 sm hD eD
/-- ones for the edges that enter a state -/
theorem in1 {H : Hp} {q : Addr} {ts : Es} {s : Int} {v0 v1 v2 v5 v6 v7 v8 v9 v10 v11 v12 v13 : Option V} {Q : VK} (hq : H q = some (.lst (vsOf ts))) (ed : Ed H ts) (hl : ts.length ≤ 60)
    (h : ∀ (D : Addr) (H' : Hp) (xs : List V), Same H H' → H' D = some (.lst xs) → xs.length = inN (psOf ts) s → Q (.ref D) H') :
    tIn1 K [v0, v1, v2, some (.ref q), some (.int s), v5, v6, v7, v8, v9, v10, v11, v12, v13] H Q := by
  have ln := vsOf_len ts
  refine ⟨_, rfl, q, _, SqL, rfl, .inl rfl, SqL.of hq, fun J w D hD => ?_⟩
  refine lc_it w (fun i H' => Same H H' ∧ ∃ xs : List V, H' D = some (.lst xs) ∧ xs.length = inN ((psOf ts).take i) s) ⟨same_upd hD, [], upd_same, rfl⟩ (fun i H' _ p => SqL.of (p.1 _ _ hq)) ?_ ?_
  · rintro i x H1 H2 hi ⟨sm, xs, eD, hx⟩ ⟨rfl, gx⟩
    obtain ⟨e, he, rfl⟩ := vsOf_at gx
    have lx : xs.length ≤ 60 := by
      have : inN ((psOf ts).take i) s ≤ ((psOf ts).take i).length := List.length_filter_le _ _
      rw [List.length_take, psL_len] at this
      omega
    have tk := take_snoc (psOf_at he)
    refine ⟨rfl, ?_⟩
    refine ⟨_, rfl, e.1, _, _, .int e.2.2, rfl, rfl, SqT.of (sm _ _ (ed e (List.mem_of_getElem? he))), rfl, _, rfl, rfl, _, rfl, ite2 (fun hc => ?_) (fun hc => ?_)⟩
    · have hc : e.2.2 = s := by
        have := of_decide_eq_true hc
        injection this
      refine ⟨_, eD, ?_, ?_, xs ++ [.int 1], upd_same, ?_⟩
      · exact small1000 (by omega)
      · intro b o e
        rw [upd_ne (ne_of_none e hD)]
        exact sm _ _ e
      · rw [List.length_append, List.length_singleton, tk, inN_snoc, if_pos hc, hx]
    · have hc : ¬ e.2.2 = s := fun z => hc (decide_eq_true (congrArg V.int z))
      exact ⟨sm, xs, eD, by rw [tk, inN_snoc, if_neg hc, hx, Nat.add_zero]⟩
  · rintro H1 ⟨sm, xs, eD, hx⟩
    rw [ln, ← psL_len ts, List.take_length] at hx
    exact h D H1 xs sm eD hx
theorem abL {H : Hp} {q : Addr} {ts : Es} {s : Int} {v0 v1 v2 v5 v6 v7 v8 v9 v10 v11 v12 v13 : Option V} {Q : VK} (hq : H q = some (.lst (vsOf ts))) (ed : Ed H ts) (hl : ts.length ≤ 60) (h : ∀ H' : Hp, Same H H' → Q (.bl (decide (((inN (psOf ts) s : Nat) : Int) + ((ts.length : Nat) : Int) ≤ 24))) H') :
    tOp (rI0 fun i j => .bl (decide (i ≤ j))) (tOp (rI0 fun i j => .int (i + j)) (tLen K (tIn1 K)) (tLen K (tVar 3))) (tC (.int 24)) [v0, v1, v2, some (.ref q), some (.int s), v5, v6, v7, v8, v9, v10, v11, v12, v13] H Q := by
  have g := in1 (K := K) (v0 := v0) (v1 := v1) (v2 := v2) (v5 := v5) (v6 := v6) (v7 := v7) (v8 := v8) (v9 := v9) (v10 := v10) (v11 := v11) (v12 := v12) (v13 := v13) (s := s) hq ed hl
    (Q := fun x H1 => ∃ p ys, [x] = [V.ref p] ∧ (SqL K H1 p ys ∨ SqT K H1 p ys) ∧ tLen K (tVar 3) [v0, v1, v2, some (.ref q), some (.int s), v5, v6, v7, v8, v9, v10, v11, v12, v13] H1 fun y H2 => rI0 (fun i j => .int (i + j)) (.int (ys.length : Int)) y H2 fun z H3 => rI0 (fun i j => .bl (decide (i ≤ j))) z (.int 24) H3 Q)
    fun D2 H4 ys s4 e4 ly => ⟨D2, ys, rfl, .inl (SqL.of e4), _, rfl, q, _, rfl, .inl (SqL.of (s4 _ _ hq)), _, _, rfl, rfl, _, _, rfl, rfl, by rw [ly, vsOf_len]; exact h _ s4⟩
  exact g
end
end Lw
set_option Elab.async false
set_option linter.all false
set_option maxRecDepth 100000
namespace Lw
open PySem L2
theorem PlanAt.keep' {H H' : Hp} {p q b l : Addr} {ns : List Int} {n : Int} {ts : Es} (h : PlanAt H p q n ts) (B : BagAt H b l ns) (k : KeepB b H H') : PlanAt H' p q n ts := ⟨k _ _ (B.ne_tup h.tp) h.tp, k _ _ (B.ne_vs h.ls) h.ls, h.ed.keep B k, h.va, h.n1⟩
def spStF : Sp := fun vs H Q _ => ∃ (b l p q : Addr) (ns : List Int) (n : Int) (ts : Es), vs = [.ref b, .ref p] ∧ BagAt H b l ns ∧ PlanAt H p q n ts ∧ n ≤ 8 ∧ ts.length ≤ 40 ∧
  ∀ (d : Addr) (H' : Hp) (x : Sd), KeepB b H H' → BagAt H' b l ns → SdAt H' d x → SdOk n.toNat (psOf ts) x → Q (.ref d) H'
theorem ne_is (xs : List Int) : (!PyData.eqv (.list (xs.map PyData.int)) (.list [])) = !xs.isEmpty := by
  cases xs <;> rfl
theorem three : 3 ≤ sizeLine := by decide
theorem yes_if {σ : St} {H : Hp} {A B : Hp → Prop} (h : A H) : tYes σ H (fun b H => if b = true then A H else B H) := by
  show (if true = true then A H else B H)
  exact if_t rfl h
/-- what is known at the choice -/
structure Ch (b l : Addr) (ns : List Int) (H : Hp) (p q : Addr) (n : Int) (ts : Es) (Lv : Addr) (ws : List (Addr × List Int)) (A : Addr) (zs : List Int) (M : Addr) (us : Es) : Prop where
  bag : BagAt H b l ns
  pl : PlanAt H p q n ts
  lv : LvAt b H Lv ws (psOf ts)
  ab : H A = some (.lst (zs.map V.int))
  na : A ≠ b
  al : Able n (psOf ts) zs
  mg : LsAt H M us
  me : psOf us = mrgs n.toNat (psOf ts)
  nm : M ≠ b
  lw : ws.length = n.toNat
  lz : zs.length ≤ 8
theorem Ch.keep {b l : Addr} {ns : List Int} {H H' : Hp} {p q : Addr} {n : Int} {ts : Es} {Lv : Addr} {ws : List (Addr × List Int)} {A : Addr} {zs : List Int} {M : Addr} {us : Es} (c : Ch b l ns H p q n ts Lv ws A zs M us) (k : KeepB b H H') (B : BagAt H' b l ns) : Ch b l ns H' p q n ts Lv ws A zs M us :=
  { c with bag := B, pl := c.pl.keep' c.bag k, lv := c.lv.keep k, ab := k _ _ c.na c.ab, mg := c.mg.keep c.bag k }
theorem Ch.same {b l : Addr} {ns : List Int} {H H' : Hp} {p q : Addr} {n : Int} {ts : Es} {Lv : Addr} {ws : List (Addr × List Int)} {A : Addr} {zs : List Int} {M : Addr} {us : Es} (c : Ch b l ns H p q n ts Lv ws A zs M us) (s : Same H H') : Ch b l ns H' p q n ts Lv ws A zs M us := c.keep (.of_same s) (c.bag.same s)
abbrev tPu (m : Int) : TE := tCall spPull [] E0 (tCons (tVar 0) (tCons (tC (.int m)) tNil))
section
variable {P : Program} {w : World} {K : PySem.W.Frag} {mg : Str → Option Value} {base : Heap} {f : Addr} {fd : FuncData} {k : Nat}
set_option maxHeartbeats 16000000 in
theorem ok_stf (F : Fun K "_law_step_for" "_law_step_for" sStF f fd) (T : Bi mg) (cP : C8.Cal P w K mg base 1 "_law_pull" spPull []) (cO : C8.Cal P w K mg base 2 "_law_of" (spOf K) []) (cM : C8.Cal P w K mg base 2 "_law_mergers" spMgrs []) (cS : C8.Cal P w K mg base 2 "_law_shuffled" spShuf []) :
    FnOk P w K mg base CX0 (k + 3) f fd ["_law_bag_here", "_law_plan_here"] spStF := by
  refine F.ok scStF (fun vs H Q E h => ?_) (fun cdv A outer s H vs Q E hr h => ?_)
  · obtain ⟨b, l, p, q, ns, n, ts, rfl, _⟩ := h
    rfl
  · obtain ⟨b, l, p, q, ns, n, ts, rfl, B, PA, hn, ht9, qq⟩ := h
    have n1 := PA.n1
    have lvs : (vsOf ts).length = ts.length := by
      unfold vsOf
      rw [List.length_map]
    have t1 : 1 ≤ ts.length := by
      obtain ⟨e, he, _⟩ := PA.va.sr 0 (Int.le_refl 0) (by omega)
      exact List.length_pos_of_mem he
    refine ⟨_, pss_cons (ps_asg (pv 1) (pg_tup rfl (pgs_cons (pg_name (i := 2) scStF.nd rfl (.inl rfl)) (pgs_cons (pg_name (i := 3) scStF.nd rfl (.inr rfl)) pgs_nil))))
      (pss_cons (ps_set (i := 6) scStF.nd rfl (.inr rfl)
        (pe_lc (own := [("_law_state", 4)]) (g := gName 4) (tt := tYes) (te := tLv1 K) rfl scStF.nd (pi_range1 (by rfl) T.range (pa_cons (pv 2) pa_nil)) (blkOk_by (N := NSf) (sc := defScope sStF) (by decide +kernel))
          (fun _ _ _ _ _ => by exact pg_name (i := 4) scStF.nd rfl (Or.inr rfl)) (fun _ _ _ _ _ => pts_nil)
          (fun _ _ _ _ _ => by exact (pe_lc (own := [("_law_k", 5)]) (g := gName 5) (tt := tTest (tOp rEq (tOp (rIxT K) (tOp (rIxL K) (tVar 3) (tVar 5)) (tC (.int 0))) (tVar 4))) (te := tVar 5) rfl scStF.nd (pi_range1 (by rfl) T.range (pa_cons (pe_callB call_len_seq (by rfl) T.len PySem.boot_len (pa_cons (pv 3) pa_nil)) pa_nil)) (blkOk_by (N := NSf) (sc := scF1) (by decide +kernel))
            (fun _ _ _ _ _ => by exact pg_name (i := 5) scStF.nd rfl (Or.inl rfl))
            (fun _ _ _ _ _ => by exact pts_one (pt_cmpR op_eq (pe_ix ix_tup (pe_ix ix_list (pv 3) (pv 5) (fun _ _ => rfl)) pe_int (fun _ _ => rfl)) (pv 4) (nomark _)))
            (fun _ _ _ _ _ => by exact pv 5)))))
      (C8.pss_cut (ps_setLc (i := 8) (own := [("_law_state", 4)]) (g := gName 4) (tt := tAb K) (te := tVar 4) rfl scStF.nd rfl rfl (sw_true rfl rfl rfl (by decide +kernel)) (pi_range1 (by rfl) T.range (pa_cons (pv 2) pa_nil)) (blkOk_by (N := NSf) (sc := defScope sStF) (by decide +kernel))
          (fun _ _ _ _ _ => by exact pg_name (i := 4) scStF.nd rfl (Or.inr rfl))
          (fun _ _ _ _ _ => by exact pts_one (PW.pt (pw_and (pt_cmpR op_gt (pe_callB call_len_seq (by rfl) T.len PySem.boot_len (pa_cons (pe_ix ix_list (pv 6) (pv 4) (fun _ _ => rfl)) pa_nil)) pe_int (nomark _))
            (pw_and1 (pt_cmpR op_le (pe_op op_add (pe_callB call_len_seq (by rfl) T.len PySem.boot_len (pa_cons
                (pe_lc (own := [("_law_pair", 7)]) (g := gName 7) (tt := tTest (tOp rEq (tOp (rIxT K) (tVar 7) (tC (.int 1))) (tVar 4))) (te := tC (.int 1)) rfl scStF.nd (pi_seqA (pv 3)) (blkOk_by (N := NSf) (sc := scF2) (by decide +kernel))
                  (fun _ _ _ _ _ => by exact pg_name (i := 7) scStF.nd rfl (Or.inl rfl))
                  (fun _ _ _ _ _ => by exact pts_one (pt_cmpR op_eq (pe_ix ix_tup (pv 7) pe_int (fun _ _ => rfl)) (pv 4) (nomark _)))
                  (fun _ _ _ _ _ => by exact pe_int)) pa_nil)) (pe_callB call_len_seq (by rfl) T.len PySem.boot_len (pa_cons (pv 3) pa_nil))) pe_int (nomark _))))))
          (fun _ _ _ _ _ => by exact pv 4))
      (C8.pss_cut (ps_par (i := 9) (j := 10) (by rfl) scStF.nd rfl rfl (by decide) rfl rfl (pa_cons (C8.pe_c cP hr (by omega) (by rfl) (pa_cons (pv 0) (pa_cons pe_int pa_nil))) (pa_cons (C8.pe_c cM hr (by omega) (by rfl) (pa_cons (pv 1) pa_nil)) pa_nil)) (by rfl))
      (C8.pss_cut (ps_if (PW.pt (pw_and (pt_cmpR op_lt (pv 9) pe_int (nomark _)) (pw_and1 (pt_cmpR (op_neD hr.units) (pv 10) (pe_lst pa_nil) (nomark _)))))
          (pss_cons (ps_asg (C8.pe_c cO hr (by omega) (by rfl) (pa_cons (pv 0) (pa_cons (pv 10) pa_nil))) (pg_tup rfl (pgs_cons (pg_name (i := 11) scStF.nd rfl (.inl rfl)) (pgs_cons (pg_name (i := 12) scStF.nd rfl (.inl rfl)) pgs_nil))))
          (pss_one (ps_ret (pe_tup (pa_cons pe_str (pa_cons (pv 11) (pa_cons (pv 12) pa_nil))))))) pss_nil)
      (C8.pss_cut (ps_if (PW.pt (pw_and (pt_cmpR op_lt (pv 9) pe_int (nomark _)) (pw_and (pt_cmpR (op_neD hr.units) (pv 8) (pe_lst pa_nil) (nomark _)) (pw_and1 (pt_cmpR op_lt (pv 2) pe_int (nomark _))))))
          (pss_cons (ps_set (i := 4) scStF.nd rfl (.inl rfl) (C8.pe_c cO hr (by omega) (by rfl) (pa_cons (pv 0) (pa_cons (pv 8) pa_nil))))
          (pss_cons (ps_setLc (i := 13) (own := [("_law_k", 5)]) (g := gName 5) (tt := tTest (tOp rEq (tPu 2) (tC (.int 0)))) (te := tVar 5) rfl scStF.nd rfl rfl (sw_true rfl rfl rfl (by decide +kernel)) (pi_seqA (pe_ix ix_list (pv 6) (pv 4) (fun _ _ => rfl))) (blkOk_by (N := NSf) (sc := defScope sStF) (by decide +kernel))
            (fun _ _ _ _ _ => by exact pg_name (i := 5) scStF.nd rfl (Or.inl rfl))
            (fun _ _ _ _ _ => by exact pts_one (pt_cmpR op_eq (C8.pe_c cP hr (by omega) (by rfl) (pa_cons (pv 0) (pa_cons pe_int pa_nil))) pe_int (nomark _)))
            (fun _ _ _ _ _ => by exact pv 5))
          (C8.pss_cut (ps_set (i := 13) scStF.nd rfl (.inl rfl) (pe_ifExp (pt_chain op_lt op_lt pe_int (pe_callB call_len_seq (by rfl) T.len PySem.boot_len (pa_cons (pv 13) pa_nil)) (pe_callB call_len_seq (by rfl) T.len PySem.boot_len (pa_cons (pe_ix ix_list (pv 6) (pv 4) (fun _ _ => rfl)) pa_nil))) (pv 13) (pe_slice sl_list (pe_ix ix_list (pv 6) (pv 4) (fun _ _ => rfl)) (po_some pe_int) po_none)))
          (pss_one (ps_ret (pe_tup (pa_cons pe_str (pa_cons (pv 4) (pa_cons (pe_callTy call_tuple_of (by rfl) T.tuple (by decide +kernel) (pa_cons (pv 13) pa_nil)) pa_nil))))))))) pss_nil)
      (pss_one (ps_ret (pe_tup (pa_cons pe_str (pa_cons (C8.pe_c cS hr (by omega) (by rfl) (pa_cons (pv 0) (pa_cons (pv 2) pa_nil))) (pa_cons (C8.pe_c cS hr (by omega) (by rfl) (pa_cons (pv 0) (pa_cons (pe_callB call_len_seq (by rfl) T.len PySem.boot_len (pa_cons (pv 3) pa_nil)) pa_nil))) pa_nil))))))))))), ?_⟩
    refine ⟨_, rfl, p, _, rfl, SqT.of PA.tp, rfl, _, _, rfl, _, _, rfl, rfl, ?_⟩
    -- the rows that leave
    refine ⟨_, rfl, n, rfl, by omega, by omega, fun D hD => ?_⟩
    have nD := B.ne_new hD
    refine lc_it (walk_range (lo := 0) (n := n.toNat)) (fun i H' => ∃ ws : List (Addr × List Int), ws.length = i ∧ Same H H' ∧ LvAt b H' D ws (psOf ts) ∧ ∀ e ∈ ws, e.1 ≠ D) ⟨[], rfl, same_upd hD, ⟨upd_same, nD, (fun e he => by cases he), (fun i e he => by simp at he)⟩, fun e he => by cases he⟩ (fun _ _ _ _ => True.intro) ?_ ?_
    · rintro i x H1 H2 hi ⟨ws, hws, sm, lv, nd⟩ ⟨rfl, hx⟩
      have hx : x = .int (i : Int) := by
        rw [hx]
        show V.int (0 + (i : Int)) = _
        rw [Int.zero_add]
      subst hx
      refine ⟨rfl, ?_⟩
      refine yes_if ?_
      show tLv1 K [some (.ref b), some (.ref p), some (.int n), some (.ref q), some (.int (i : Int)), none, none, none, none, none, none, none, none, none] H2 _
      refine lv1 (sm _ _ PA.ls) (PA.ed.same sm) (by omega) fun D1 H3 s3 hD1 e1 => ?_
      have lv3 := lv.same s3
      have n1D : D1 ≠ D := fun z => by
        rw [z, lv.ls] at hD1
        cases hD1
      refine ⟨_, lv3.ls, ?_, ws ++ [(D1, lvL (psOf ts) (i : Int))], by simp [hws], ?_, ⟨?_, nD, ?_, ?_⟩, ?_⟩
      · rw [List.length_map]
        exact small1000 (by omega)
      · intro c o ec
        rw [upd_ne (ne_of_none ec hD)]
        exact s3 _ _ (sm _ _ ec)
      · rw [upd_same, List.map_append]
        rfl
      · intro e he
        rcases List.mem_append.mp he with he | he
        · rw [upd_ne (nd e he)]
          exact lv3.row e he
        · rw [List.mem_singleton.mp he, upd_ne n1D]
          exact ⟨e1, (B.same sm).ne_new hD1⟩
      · intro j e he
        by_cases c : j < ws.length
        · rw [List.getElem?_append_left c] at he
          exact lv.val j e he
        · have cj : j = ws.length := by
            have := (List.getElem?_eq_some_iff.mp he).1
            rw [List.length_append, List.length_singleton] at this
            omega
          rw [cj, List.getElem?_concat_length] at he
          cases he
          rw [cj, hws]
      · intro e he
        rcases List.mem_append.mp he with he | he
        · exact nd e he
        · rw [List.mem_singleton.mp he]
          exact n1D
    rintro H1 ⟨ws, hws, sm1, lv, -⟩
    -- the states that can be split
    refine ⟨fun σ H' => ∃ (C : Addr) (zs : List Int), σ = [some (.ref b), some (.ref p), some (.int n), some (.ref q), none, none, some (.ref D), none, some (.ref C), none, none, none, none, none] ∧ Same H H' ∧ LvAt b H' D ws (psOf ts) ∧ H' C = some (.lst (zs.map V.int)) ∧ C ≠ b ∧ Able n (psOf ts) zs ∧ zs.length ≤ 8, ?_, ?_⟩
    · refine ⟨_, rfl, n, rfl, by omega, by omega, fun C hC => ?_⟩
      have nC := (B.same sm1).ne_new hC
      refine lc_it (walk_range (lo := 0) (n := n.toNat)) (fun i H' => ∃ zs : List Int, Same H1 H' ∧ H' C = some (.lst (zs.map V.int)) ∧ zs.length ≤ i ∧ Able n (psOf ts) zs) ⟨[], same_upd hC, upd_same, Nat.le_refl _, fun e he => by cases he⟩ (fun _ _ _ _ => True.intro) ?_ ?_
      · rintro i x H2 H3 hi ⟨zs, s2, eC, hz, ab⟩ ⟨rfl, hx⟩
        have hx : x = .int (i : Int) := by
          rw [hx]
          show V.int (0 + (i : Int)) = _
          rw [Int.zero_add]
        subst hx
        obtain ⟨e, he⟩ : ∃ e, ws[i]? = some e := ⟨_, List.getElem?_eq_getElem (by omega)⟩
        have lv2 := lv.same s2
        refine ⟨rfl, ?_⟩
        refine ⟨_, rfl, _, rfl, D, _, _, .ref e.1, rfl, rfl, SqL.of lv2.ls, atI_nat ?_, e.1, _, rfl, .inl (SqL.of (lv2.row e (List.mem_of_getElem? he)).1), _, _, rfl, rfl, _, rfl, ite2 (fun h1 => ?_) (fun h1 => ?_)⟩
        · rw [List.getElem?_map, he]
          rfl
        · have h1 := of_decide_eq_true h1
          rw [List.length_map] at h1
          refine abL (sm1.trans s2 _ _ PA.ls) (PA.ed.same (sm1.trans s2)) (by omega) fun H4 s4 => ⟨_, rfl, ite2 (fun h2 => ?_) (fun h2 => ?_)⟩
          · refine ⟨_, rfl, _, s4 _ _ eC, ?_, zs ++ [(i : Int)], ?_, ?_, ?_, ?_⟩
            · rw [List.length_map]
              exact small1000 (by omega)
            · intro c o ec
              rw [upd_ne (ne_of_none ec hC)]
              exact s4 _ _ (s2 _ _ ec)
            · rw [upd_same, List.map_append]
              rfl
            · rw [List.length_append, List.length_singleton]
              omega
            · intro z hz
              rcases List.mem_append.mp hz with hz | hz
              · exact ab z hz
              · rw [List.mem_singleton.mp hz]
                have h2 := of_decide_eq_true h2
                have hv := lv.val i e he
                refine ⟨by omega, by omega, by rw [← hv]; omega, ?_⟩
                rw [psL_len]
                omega
          · exact ⟨zs, s2.trans s4, s4 _ _ eC, by omega, ab⟩
        · exact if_f rfl ⟨zs, s2, eC, by omega, ab⟩
      · rintro H2 ⟨zs, s2, eC, hz, ab⟩
        exact ⟨C, zs, rfl, sm1.trans s2, lv.same s2, eC, nC, ab, by omega⟩
    rintro _ H2 ⟨C, zs, rfl, sm2, lv, eC, nC, ab, lz⟩
    have B2 := B.same sm2
    -- the way
    refine ⟨fun σ H' => ∃ (v : Int) (M : Addr) (us : Es), σ = [some (.ref b), some (.ref p), some (.int n), some (.ref q), none, none, some (.ref D), none, some (.ref C), some (.int v), some (.ref M), none, none, none] ∧ KeepB b H H' ∧ Ch b l ns H' p q n ts D ws C zs M us, ?_, ?_⟩
    · refine ⟨_, rfl, b, l, ns, 5, rfl, B2, by decide, by decide, fun v o v0 v1 BO => ?_⟩
      have B3 := B2.upd BO
      have k3 : KeepB b H (upd H2 b o) := (KeepB.of_same sm2).trans .updb
      have lv := lv.keep (KeepB.updb (o := o))
      have eC := KeepB.updb (o := o) _ _ nC eC
      generalize upd H2 b o = H3 at *
      refine ⟨_, rfl, p, q, n, ts, rfl, PA.keep' B k3, by omega, fun M H4 us s4 nM ma hu => ?_⟩
      refine ⟨_, _, rfl, v, M, us, rfl, k3.trans (.of_same s4), ?_⟩
      have B5 := B3.same s4
      exact ⟨B5, (PA.keep' B k3).same s4, lv.same s4, s4 _ _ eC, nC, ab, ma, hu, B5.ne_vs ma.ls, hws, lz⟩
    rintro _ H3 ⟨v, M, us, rfl, k3, ch⟩
    -- a merge
    refine ⟨fun σ H' => σ = [some (.ref b), some (.ref p), some (.int n), some (.ref q), none, none, some (.ref D), none, some (.ref C), some (.int v), some (.ref M), none, none, none] ∧ KeepB b H H' ∧ Ch b l ns H' p q n ts D ws C zs M us, ?_, ?_⟩
    · refine ⟨_, rfl, _, _, rfl, rfl, _, rfl, ite2 (fun h1 => ?_) (fun h1 => if_f rfl ⟨rfl, k3, ch⟩)⟩
      refine ⟨_, rfl, (by show 0 ≤ sizeLine; exact Nat.zero_le _), fun z hz => ?_⟩
      have s4 := same_upd (o := .lst []) hz
      have k4 := k3.trans (.of_same s4)
      have ch := ch.same s4
      refine ⟨_, _, .lst (SqL.of ch.mg.ls) (dEs_at ch.mg.ed), .lst (SqL.of upd_same) .nil, shL us, rfl, _, rfl, ?_⟩
      generalize upd H3 z (.lst []) = H4 at *
      rw [ne_es]
      cases us with
      | nil => exact if_f rfl ⟨rfl, k4, ch⟩
      | cons u0 us =>
        refine if_t rfl ?_
        refine ⟨_, rfl, _, rfl, b, l, M, ns, _, rfl, ch.bag, SqL.of ch.mg.ls, ch.nm, by unfold vsOf; simp, ?_, fun i v o hv BO => ?_⟩
        · unfold vsOf
          rw [List.length_map]
          have h1 := congrArg List.length ch.me
          have h2 := mrgsTo_len n.toNat (psOf ts) n.toNat
          have h3 : n.toNat * n.toNat ≤ 8 * 8 := Nat.mul_le_mul (by omega) (by omega)
          rw [psL_len] at h1
          unfold mrgs at h1
          omega
        obtain ⟨e, he, rfl⟩ := vsOf_at hv
        have mem := List.mem_of_getElem? he
        have ch5 := ch.keep (KeepB.updb (o := o)) (ch.bag.upd BO)
        have k5 := k4.trans (KeepB.updb (o := o))
        generalize upd H4 b o = H5 at *
        refine ⟨e.1, _, rfl, SqT.of (ch5.mg.ed e mem), rfl, _, _, rfl, _, _, rfl, rfl, ?_⟩
        refine ⟨_, rfl, _, rfl, three, fun d hd => ?_⟩
        refine qq d _ (.mrg e.2.1 e.2.2) (k5.new hd) (ch5.bag.new hd) upd_same ?_
        show (e.2.1, e.2.2) ∈ mrgs n.toNat (psOf ts)
        rw [← ch5.me]
        exact List.mem_map.mpr ⟨e, mem, rfl⟩
    rintro _ H4 ⟨rfl, k4, ch⟩
    -- a split
    refine ⟨fun σ H' => σ = [some (.ref b), some (.ref p), some (.int n), some (.ref q), none, none, some (.ref D), none, some (.ref C), some (.int v), some (.ref M), none, none, none] ∧ KeepB b H H' ∧ Ch b l ns H' p q n ts D ws C zs M us, ?_, ?_⟩
    · refine ⟨_, rfl, _, _, rfl, rfl, _, rfl, ite2 (fun h1 => ?_) (fun h1 => if_f rfl ⟨rfl, k4, ch⟩)⟩
      refine ⟨_, rfl, (by show 0 ≤ sizeLine; exact Nat.zero_le _), fun z hz => ?_⟩
      have s5 := same_upd (o := .lst []) hz
      have k5 := k4.trans (.of_same s5)
      have ch := ch.same s5
      refine ⟨_, _, .lst (SqL.of ch.ab) (dp_ints _), .lst (SqL.of upd_same) .nil, shl_ints _, rfl, _, rfl, ?_⟩
      generalize upd H4 z (.lst []) = H5 at *
      rw [ne_is]
      by_cases hz0 : zs = []
      · exact if_f (by rw [hz0]; rfl) (if_f rfl ⟨rfl, k5, ch⟩)
      refine if_t (by cases zs with | nil => exact absurd rfl hz0 | cons => rfl) ?_
      refine ⟨_, rfl, _, _, rfl, rfl, _, rfl, ite2 (fun h8 => ?_) (fun h8 => ⟨rfl, k5, ch⟩)⟩
      have h8 := of_decide_eq_true h8
      refine ⟨_, rfl, _, rfl, b, l, C, ns, _, rfl, ch.bag, SqL.of ch.ab, ch.na, by simpa using hz0, ?_, fun i v2 o hv BO => ?_⟩
      · rw [List.length_map]
        exact Nat.le_trans ch.lz (by decide)
      rw [List.getElem?_map] at hv
      obtain ⟨st, hst, rfl⟩ := Option.map_eq_some_iff.mp hv
      obtain ⟨st0, st4, stl, sti⟩ := ch.al st (List.mem_of_getElem? hst)
      obtain ⟨e, he⟩ : ∃ e, ws[st.toNat]? = some e := ⟨_, List.getElem?_eq_getElem (by rw [ch.lw]; omega)⟩
      have mem := List.mem_of_getElem? he
      have est : st = ((st.toNat : Nat) : Int) := (Int.toNat_of_nonneg st0).symm
      have ev : e.2 = lvL (psOf ts) st := by
        have := ch.lv.val _ e he
        rw [← est] at this
        exact this
      have hel : 1 < e.2.length := by
        rw [ev]
        exact stl
      have le40 : e.2.length ≤ 40 := by
        have h1 := lvT_len (psOf ts) st (psOf ts).length
        have h2 := psL_len ts
        rw [ev]
        show (lvT (psOf ts) st (psOf ts).length).length ≤ 40
        omega
      have ch6 := ch.keep (KeepB.updb (o := o)) (ch.bag.upd BO)
      have k6 := k5.trans (KeepB.updb (o := o))
      generalize upd H5 b o = H6 at *
      have aix : atI (ws.map fun e => V.ref e.1) st = some (.ref e.1) := by
        rw [est]
        refine atI_nat ?_
        rw [List.getElem?_map, he]
        rfl
      obtain ⟨r1, r2⟩ := ch6.lv.row e mem
      refine ⟨_, rfl, _, rfl, D, _, _, .ref e.1, rfl, rfl, SqL.of ch6.lv.ls, aix, e.1, _, SqL, rfl, .inl rfl, SqL.of r1, fun J w D3 hD3 => ?_⟩
      have n3 := ch6.bag.ne_new hD3
      refine lc_it w (fun i H' => KeepB b H6 H' ∧ BagAt H' b l ns ∧ ∃ ys : List Int, H' D3 = some (.lst (ys.map V.int)) ∧ ys.Sublist (e.2.take i)) ⟨.of_same (same_upd hD3), ch6.bag.new hD3, [], upd_same, List.nil_sublist _⟩ (fun i H' _ p => SqL.of (p.1 _ _ r2 r1)) ?_ ?_
      · rintro i x H7 H8 hi ⟨k7, B7, ys, e7, m7⟩ ⟨rfl, gx⟩
        rw [List.getElem?_map] at gx
        obtain ⟨y, hy, rfl⟩ := Option.map_eq_some_iff.mp gx
        rw [List.length_map] at hi
        have ly : ys.length ≤ 40 := by
          have := m7.length_le
          rw [List.length_take] at this
          omega
        have tk := take_snoc hy
        refine ⟨rfl, ?_⟩
        refine ⟨_, rfl, b, l, ns, 2, rfl, B7, by decide, by decide, fun pv po p0 p1 BO => ?_⟩
        have B8 := B7.upd BO
        have k8 := k7.trans (KeepB.updb (o := po))
        have e8 := KeepB.updb (o := po) _ _ n3 e7
        generalize upd H8 b po = H9 at *
        refine ⟨rfl, _, rfl, ite2 (fun h => ?_) (fun h => ⟨k8, B8, ys, e8, by rw [tk]; exact m7.trans (List.sublist_append_left _ _)⟩)⟩
        refine ⟨_, rfl, _, e8, ?_, k8.at hD3, B8.off n3 (ne_of_none ch6.bag.sc hD3).symm, ys ++ [y], ?_, ?_⟩
        · rw [List.length_map]
          exact small1000 (by omega)
        · rw [upd_same, List.map_append]
          rfl
        · rw [tk]
          exact m7.append (List.Sublist.refl _)
      rintro H7 ⟨k7, B7, ys, e7, m7⟩
      rw [List.length_map, List.take_length] at m7
      have ch7 := ch6.keep k7 B7
      have k7 := k6.trans k7
      obtain ⟨r1, r2⟩ := ch7.lv.row e mem
      refine ⟨fun σ H' => ∃ (D4 : Addr) (ys : List Int), σ = [some (.ref b), some (.ref p), some (.int n), some (.ref q), some (.int st), none, some (.ref D), none, some (.ref C), some (.int v), some (.ref M), none, none, some (.ref D4)] ∧ KeepB b H H' ∧ BagAt H' b l ns ∧ H' D4 = some (.lst (ys.map V.int)) ∧ SplOk n (psOf ts) st ys, ?_, ?_⟩
      · have fin : ∀ ys : List Int, ys ≠ [] → ys.Sublist e.2 → ys.length < e.2.length → SplOk n (psOf ts) st ys := fun ys h1 h2 h3 => ⟨st0, st4, by rw [← ev]; exact h2, h1, by rw [← ev]; exact h3⟩
        have dr : ∀ (D4 : Addr), H7 D4 = none → ∃ (D5 : Addr) (ys : List Int), [some (V.ref b), some (.ref p), some (.int n), some (.ref q), some (.int st), none, some (.ref D), none, some (.ref C), some (.int v), some (.ref M), none, none, some (.ref D4)] = [some (V.ref b), some (.ref p), some (.int n), some (.ref q), some (.int st), none, some (.ref D), none, some (.ref C), some (.int v), some (.ref M), none, none, some (.ref D5)] ∧ KeepB b H (upd H7 D4 (.lst (cutV (e.2.map V.int) (some 1) none))) ∧ BagAt (upd H7 D4 (.lst (cutV (e.2.map V.int) (some 1) none))) b l ns ∧ upd H7 D4 (.lst (cutV (e.2.map V.int) (some 1) none)) D5 = some (.lst (ys.map V.int)) ∧ SplOk n (psOf ts) st ys := fun D4 hD4 => by
          refine ⟨D4, e.2.drop 1, rfl, k7.new hD4, B7.new hD4, ?_, fin _ ?_ (List.drop_sublist _ _) (by rw [List.length_drop]; omega)⟩
          · rw [upd_same]
            have := cut_hi (xs := e.2.map V.int) (k := 1) (by rw [List.length_map]; omega)
            rw [List.map_drop, ← this]
            rfl
          · intro z
            have := congrArg List.length z
            rw [List.length_drop] at this
            simp at this
            omega
        refine ⟨_, rfl, D3, _, rfl, .inl (SqL.of e7), _, _, rfl, rfl, _, rfl, ite2 (fun h1 => ?_) (fun h1 => ?_)⟩
        · refine ⟨_, rfl, _, rfl, D, _, _, .ref e.1, rfl, rfl, SqL.of ch7.lv.ls, aix, e.1, _, rfl, .inl (SqL.of r1), _, _, rfl, rfl, _, rfl, ite2 (fun h2 => ?_) (fun h2 => ?_)⟩
          · have h2 := of_decide_eq_true h2
            rw [List.length_map, List.length_map] at h2
            refine ⟨_, rfl, D3, ys, rfl, k7, B7, e7, fin ys (fun z => ?_) m7 (by omega)⟩
            rw [z] at h1
            cases h1
          · refine ⟨_, rfl, _, rfl, D, _, _, .ref e.1, rfl, rfl, SqL.of ch7.lv.ls, aix, _, rfl, e.1, _, rfl, SqL.of r1, fun D4 hD4 => dr D4 hD4⟩
        · refine ⟨_, rfl, if_f rfl ?_⟩
          refine ⟨_, rfl, _, rfl, D, _, _, .ref e.1, rfl, rfl, SqL.of ch7.lv.ls, aix, _, rfl, e.1, _, rfl, SqL.of r1, fun D4 hD4 => dr D4 hD4⟩
      · rintro _ H8 ⟨D4, ys, rfl, k8, B8, e8, fy⟩
        refine ⟨_, rfl, _, rfl, D4, _, rfl, .inl ⟨SqL.of e8, fun t ht => ?_⟩⟩
        have k9 := k8.new (o := .tup (ys.map V.int)) ht
        have B9 := B8.new (o := .tup (ys.map V.int)) ht
        refine ⟨three, fun d hd => ?_⟩
        have en : ((n.toNat : Nat) : Int) = n := Int.toNat_of_nonneg (by omega)
        exact qq d _ (.spl st ys) (k9.new hd) (B9.new hd) ⟨t, upd_same, same_upd hd _ _ upd_same⟩ ⟨by rw [en]; exact fy, by omega, sti⟩
    rintro _ H5 ⟨rfl, k5, ch⟩
    -- a renaming
    refine ⟨_, rfl, _, rfl, b, l, ns, n.toNat, (congrArg (fun z => [V.ref b, V.int z]) (Int.toNat_of_nonneg (by omega)).symm), ch.bag, by omega, fun t H6 xs k6 B6 ti pm => ?_⟩
    have ch6 := ch.keep k6 B6
    refine ⟨_, rfl, _, rfl, q, _, rfl, .inl (SqL.of ch6.pl.ls), b, l, ns, _, rfl, B6, by rw [lvs]; omega, fun u H7 ys k7 B7 tj pm2 => ?_⟩
    refine ⟨three, fun d hd => ?_⟩
    rw [lvs] at pm2
    exact qq d _ (.ren xs ys) (((k5.trans k6).trans k7).new hd) (B7.new hd) ⟨t, u, upd_same, (ti.keep B6 k7).same (same_upd hd), tj.same (same_upd hd)⟩ ⟨pm, by rw [psL_len]; exact pm2⟩
end
end Lw
set_option Elab.async false
set_option linter.all false
set_option maxRecDepth 100000
/-! a step taken; plans behind some splits -/
namespace Lw
open PySem L2
abbrev sStd : Stmt := top 42
abbrev sSps : Stmt := top 44
/-- what a step makes of a plan -/
def StpP (n : Nat) (ps : Ps) : Sd → Nat → Ps → Prop
  | .spl s part => fun m qs => m = n + 1 ∧ qs = splP n s part ps
  | .mrg a b => fun m qs => m = n - 1 ∧ qs = mrgP a b ps
  | .ren ss es => fun m qs => m = n ∧ RenP ss es ps qs
def spStd : Sp := fun vs H Q _ => ∃ (p q d : Addr) (n : Nat) (ts : Es) (x : Sd), vs = [.ref p, .ref d] ∧ PlanAt H p q (n : Int) ts ∧ n ≤ 19 ∧ ts.length ≤ 60 ∧ SdAt H d x ∧ SdOk n (psOf ts) x ∧
  ∀ (p' q' : Addr) (m : Nat) (us : Es) (H' : Hp), Same H H' → H p' = none → H q' = none → PlanAt H' p' q' (m : Int) us → StpP n (psOf ts) x m (psOf us) → Q (.ref p') H'
def spSps : Sp := fun vs H Q _ => ∃ (b l p q : Addr) (ns : List Int) (n many most : Nat) (ts : Es), vs = [.ref b, .ref p, .int (many : Int), .int (most : Int)] ∧ BagAt H b l ns ∧ PlanAt H p q (n : Int) ts ∧ n ≤ 8 ∧ many ≤ 20 ∧ most ≤ 24 ∧ ts.length ≤ most ∧
  ∀ (p' q' : Addr) (m : Nat) (us : Es) (H' : Hp), KeepB b H H' → BagAt H' b l ns → PlanAt H' p' q' (m : Int) us → m ≤ 8 → us.length ≤ most → Q (.ref p') H'
theorem dS : decide (V.str "split" = V.str "split") = true := by decide +kernel
theorem dM : decide (V.str "merge" = V.str "split") = false := by decide +kernel
theorem dR : decide (V.str "rename" = V.str "split") = false := by decide +kernel
theorem dMM : decide (V.str "merge" = V.str "merge") = true := by decide +kernel
theorem dRM : decide (V.str "rename" = V.str "merge") = false := by decide +kernel
section
variable {P : Program} {w : World} {K : PySem.W.Frag} {mg : Str → Option Value} {base : Heap} {f : Addr} {fd : FuncData} {k : Nat}
theorem scStd : FnScope ["_law_plan_here", "_law_step_here"] ["_law_plan_here", "_law_step_here"] (defScope sStd) := ⟨rfl, rfl, rfl, by decide +kernel, rfl, by decide +kernel, by decide +kernel⟩
theorem scSps : FnScope ["_law_bag_here", "_law_plan_here", "_law_many", "_law_most", "_law_here", "_law_turn", "_law_step_here"] ["_law_bag_here", "_law_plan_here", "_law_many", "_law_most"] (defScope sSps) := ⟨rfl, rfl, rfl, by decide +kernel, rfl, by decide +kernel, by decide +kernel⟩
set_option maxHeartbeats 8000000 in
theorem ok_std (F : Fun K "_law_stepped" "_law_stepped" sStd f fd) (cS : C8.Cal P w K mg base 1 "_law_split" spLSp []) (cM : C8.Cal P w K mg base 1 "_law_merge" spMrg []) (cR : C8.Cal P w K mg base 1 "_law_renamed" spLRn []) : FnOk P w K mg base CX0 (k + 2) f fd ["_law_plan_here", "_law_step_here"] spStd := by
  refine F.ok scStd (fun vs H Q E h => ?_) (fun cdv A outer s H vs Q E hr h => ?_)
  · obtain ⟨p, q, d, n, ts, x, rfl, _⟩ := h
    rfl
  · obtain ⟨p, q0, d, n, ts, x, rfl, PA, hn, hl, at_, ok, q⟩ := h
    refine ⟨_, pss_cons (ps_if (pt_cmpR op_eq (pe_ix ix_tup (pv 1) pe_int (fun _ _ => rfl)) pe_str (nomark _)) (pss_one (ps_ret (C8.pe_c cS hr (by omega) (by rfl) (pa_cons (pv 0) (pa_cons (pe_ix ix_tup (pv 1) pe_int (fun _ _ => rfl)) (pa_cons (pe_ix ix_tup (pv 1) pe_int (fun _ _ => rfl)) pa_nil)))))) pss_nil)
      (pss_one (ps_ret (pe_ifExp (pt_cmpR op_eq (pe_ix ix_tup (pv 1) pe_int (fun _ _ => rfl)) pe_str (nomark _)) (C8.pe_c cM hr (by omega) (by rfl) (pa_cons (pv 0) (pa_cons (pe_ix ix_tup (pv 1) pe_int (fun _ _ => rfl)) (pa_cons (pe_ix ix_tup (pv 1) pe_int (fun _ _ => rfl)) pa_nil))))
        (C8.pe_c cR hr (by omega) (by rfl) (pa_cons (pv 0) (pa_cons (pe_ix ix_tup (pv 1) pe_int (fun _ _ => rfl)) (pa_cons (pe_ix ix_tup (pv 1) pe_int (fun _ _ => rfl)) pa_nil))))))), ?_⟩
    cases x with
    | spl st part =>
      obtain ⟨t, e1, e2⟩ := at_
      obtain ⟨o1, o2, o3⟩ := ok
      refine ⟨_, rfl, d, _, _, _, rfl, rfl, SqT.of e1, rfl, rfl, _, rfl, if_t dS ?_⟩
      refine ⟨_, rfl, _, rfl, d, _, _, _, rfl, rfl, SqT.of e1, rfl, _, rfl, d, _, _, _, rfl, rfl, SqT.of e1, rfl, p, q0, t, n, ts, st, part, rfl, PA, by omega, hl, e2, o1, fun p' q' us H' s1 n1 n2 PA' eu => ?_⟩
      exact q p' q' _ us H' s1 n1 n2 PA' ⟨rfl, eu⟩
    | mrg a b =>
      obtain ⟨i, j, eij, ij, jn, ec⟩ := mrgs_mem ok
      have e1 : H d = some (.tup [.str "merge", .int a, .int b]) := at_
      injection eij with ea eb
      subst ea eb
      refine ⟨_, rfl, d, _, _, _, rfl, rfl, SqT.of e1, rfl, rfl, _, rfl, if_f dM ?_⟩
      refine ⟨_, rfl, d, _, _, _, rfl, rfl, SqT.of e1, rfl, rfl, _, rfl, if_t dMM ?_⟩
      refine ⟨_, rfl, _, rfl, d, _, _, _, rfl, rfl, SqT.of e1, rfl, _, rfl, d, _, _, _, rfl, rfl, SqT.of e1, rfl, p, q0, n, i, j, ts, rfl, PA, by omega, hl, ij, jn, ec, fun p' q' us H' s1 n1 n2 PA' eu => ?_⟩
      exact q p' q' _ us H' s1 n1 n2 PA' ⟨rfl, eu⟩
    | ren ss es =>
      obtain ⟨t, u, e1, e2, e3⟩ := at_
      obtain ⟨o1, o2⟩ := ok
      rw [psL_len] at o2
      refine ⟨_, rfl, d, _, _, _, rfl, rfl, SqT.of e1, rfl, rfl, _, rfl, if_f dR ?_⟩
      refine ⟨_, rfl, d, _, _, _, rfl, rfl, SqT.of e1, rfl, rfl, _, rfl, if_f dRM ?_⟩
      refine ⟨_, rfl, _, rfl, d, _, _, _, rfl, rfl, SqT.of e1, rfl, _, rfl, d, _, _, _, rfl, rfl, SqT.of e1, rfl, p, q0, t, u, n, ts, ss, es, rfl, PA, by omega, hl, e2, e3, o1, o2, fun p' q' us H' s1 n1 n2 PA' eu => ?_⟩
      exact q p' q' _ us H' s1 n1 n2 PA' ⟨rfl, eu⟩
set_option maxHeartbeats 8000000 in
theorem ok_sps (F : Fun K "_law_splits" "_law_splits" sSps f fd) (T : Bi mg) (cF : C8.Cal P w K mg base 3 "_law_step_for" spStF []) (cT : C8.Cal P w K mg base 2 "_law_stepped" spStd []) (cR : C8.Cal P w K mg base 1 "_law_renamed" spLRn []) (cH : C8.Cal P w K mg base 2 "_law_shuffled" spShuf []) :
    FnOk P w K mg base CX0 (k + 4) f fd ["_law_bag_here", "_law_plan_here", "_law_many", "_law_most"] spSps := by
  refine F.ok scSps (fun vs H Q E h => ?_) (fun cdv A outer s H vs Q E hr h => ?_)
  · obtain ⟨b, l, p, q, ns, n, many, most, ts, rfl, _⟩ := h
    rfl
  · obtain ⟨b, l, p, q0, ns, n, many, most, ts, rfl, B, PA, hn, hm, ho, hl, q⟩ := h
    refine ⟨_, pss_cons (ps_set (i := 4) scSps.nd rfl (.inl rfl) (pv 1))
      (pss_cons (ps_for PassesOwn.never rfl (pi_range1 (by rfl) T.range (pa_cons (pv 2) pa_nil)) (pg_name (i := 5) scSps.nd rfl (.inl rfl))
        (pss_cons (ps_set (i := 6) scSps.nd rfl (.inl rfl) (C8.pe_c cF hr (by omega) (by rfl) (pa_cons (pv 0) (pa_cons (pv 4) pa_nil))))
        (pss_one (ps_if (PW.pt (pw_and (pt_cmpR op_eq (pe_ix ix_tup (pv 6) pe_int (fun _ _ => rfl)) pe_str (nomark _)) (pw_and1 (pt_cmpR op_le (pe_callB call_len_seq (by rfl) T.len PySem.boot_len (pa_cons (pe_ix ix_tup (C8.pe_c cT hr (by omega) (by rfl) (pa_cons (pv 4) (pa_cons (pv 6) pa_nil))) pe_int (fun _ _ => rfl)) pa_nil)) (pv 3) (nomark _)))))
          (pss_one (ps_set (i := 4) scSps.nd rfl (.inl rfl) (C8.pe_c cT hr (by omega) (by rfl) (pa_cons (pv 4) (pa_cons (pv 6) pa_nil))))) pss_nil))))
      (pss_one (ps_ret (C8.pe_c cR hr (by omega) (by rfl) (pa_cons (pv 4) (pa_cons (C8.pe_c cH hr (by omega) (by rfl) (pa_cons (pv 0) (pa_cons (pe_ix ix_tup (pv 4) pe_int (fun _ _ => rfl)) pa_nil))) (pa_cons (C8.pe_c cH hr (by omega) (by rfl) (pa_cons (pv 0) (pa_cons (pe_callB call_len_seq (by rfl) T.len PySem.boot_len (pa_cons (pe_ix ix_tup (pv 4) pe_int (fun _ _ => rfl)) pa_nil)) pa_nil))) pa_nil))))))), ?_⟩
    refine ⟨_, rfl, _, rfl, (many : Int), rfl, by omega, by omega, ?_⟩
    refine for_it (walk_range (lo := 0) (n := ((many : Int)).toNat)) (fun i σ H' => ∃ (v5 v6 : Option V) (p' q' : Addr) (m : Nat) (us : Es), σ = [some (.ref b), some (.ref p), some (.int (many : Int)), some (.int (most : Int)), some (.ref p'), v5, v6] ∧ KeepB b H H' ∧ BagAt H' b l ns ∧ PlanAt H' p' q' (m : Int) us ∧ m ≤ 8 ∧ us.length ≤ most)
      ⟨none, none, p, q0, n, ts, rfl, .of_same (fun _ _ z => z), B, PA, hn, hl⟩ (fun _ _ _ _ _ => True.intro) ?_ ?_
    · rintro i x σ H1 H2 hi ⟨v5, v6, p', q', m, us, rfl, k1, B1, PA1, hm1, hl1⟩ ⟨rfl, rfl⟩
      refine ⟨_, rfl, _, rfl, b, l, p', q', ns, (m : Int), us, rfl, B1, PA1, by omega, by omega, fun d H3 x k3 B3 sd ok => ?_⟩
      rw [Int.toNat_natCast] at ok
      have PA3 := PA1.keep' B1 k3
      have k13 := k1.trans k3
      have out : ∃ (v5 v6 : Option V) (p'' q'' : Addr) (m : Nat) (us : Es), [some (V.ref b), some (.ref p), some (.int (many : Int)), some (.int (most : Int)), some (.ref p'), some (.int (0 + (i : Int))), some (.ref d)] = [some (V.ref b), some (.ref p), some (.int (many : Int)), some (.int (most : Int)), some (.ref p''), v5, v6] ∧ KeepB b H H3 ∧ BagAt H3 b l ns ∧ PlanAt H3 p'' q'' (m : Int) us ∧ m ≤ 8 ∧ us.length ≤ most := ⟨_, _, p', q', m, us, rfl, k13, B3, PA3, hm1, hl1⟩
      cases x with
      | mrg a b2 =>
        have e1 : H3 d = some (.tup [.str "merge", .int a, .int b2]) := sd
        exact ⟨_, rfl, d, _, _, _, rfl, rfl, SqT.of e1, rfl, rfl, _, rfl, if_f dM (if_f rfl out)⟩
      | ren ss es =>
        obtain ⟨t, u, e1, _⟩ := sd
        exact ⟨_, rfl, d, _, _, _, rfl, rfl, SqT.of e1, rfl, rfl, _, rfl, if_f dR (if_f rfl out)⟩
      | spl st part =>
        obtain ⟨t, e1, e2⟩ := id sd
        refine ⟨_, rfl, d, _, _, _, rfl, rfl, SqT.of e1, rfl, rfl, _, rfl, if_t dS ?_⟩
        refine ⟨_, rfl, _, rfl, p', q', d, m, us, .spl st part, rfl, PA3, by omega, by omega, sd, ok, fun p2 q2 m2 ws H4 s4 n4 n4q PA4 st4 => ?_⟩
        refine ⟨p2, _, _, _, rfl, rfl, SqT.of PA4.tp, rfl, q2, _, rfl, .inl (SqL.of PA4.ls), _, rfl, _, _, rfl, rfl, _, rfl, ite2 (fun hc => ?_) (fun hc => ?_)⟩
        · have hc := of_decide_eq_true hc
          rw [vsOf_len] at hc
          refine ⟨_, rfl, _, rfl, p', q', d, m, us, .spl st part, rfl, PA3.same s4, by omega, by omega, sd.same s4, ok, fun p5 q5 m5 zs H5 s5 n5 n5q PA5 st5 => ?_⟩
          obtain ⟨em5, ez5⟩ := st5
          obtain ⟨em4, ez4⟩ := st4
          have lz : zs.length = ws.length := by
            have := congrArg List.length (ez5.trans ez4.symm)
            rw [psL_len, psL_len] at this
            exact this
          obtain ⟨_, o2, _⟩ := ok
          exact ⟨_, _, p5, q5, m5, zs, rfl, (k13.trans (.of_same s4)).trans (.of_same s5), (B3.same s4).same s5, PA5, by omega, by omega⟩
        · exact ⟨_, _, p', q', m, us, rfl, k13.trans (.of_same s4), B3.same s4, PA3.same s4, hm1, hl1⟩
    · rintro σ H1 ⟨v5, v6, p', q', m, us, rfl, k1, B1, PA1, hm1, hl1⟩
      have n1 := PA1.n1
      refine ⟨_, rfl, _, rfl, _, rfl, p', _, _, _, rfl, rfl, SqT.of PA1.tp, rfl, b, l, ns, m, rfl, B1, by omega, fun t H2 xs k2 B2 ft pm => ?_⟩
      have PA2 := PA1.keep' B1 k2
      refine ⟨_, rfl, _, rfl, p', _, _, _, rfl, rfl, SqT.of PA2.tp, rfl, q', _, rfl, .inl (SqL.of PA2.ls), b, l, ns, _, rfl, B2, by rw [vsOf_len]; omega, fun u H3 ys k3 B3 fu pm2 => ?_⟩
      rw [vsOf_len] at pm2
      have PA3 := PA2.keep' B2 k3
      refine ⟨p', q', t, u, m, us, xs, ys, rfl, PA3, by omega, by omega, ft.keep B2 k3, fu, pm, pm2, fun p5 q5 zs H4 s4 np nq PA4 rp => ?_⟩
      have lz := rp.len
      rw [psL_len, psL_len] at lz
      exact q p5 q5 m zs H4 (((k1.trans k2).trans k3).trans (.of_same s4)) (B3.same s4) PA4 hm1 (by omega)
end
end Lw
set_option Elab.async false
set_option linter.all false
set_option maxRecDepth 100000
/-! a < b < c < d as a test; a property by its getter -/
namespace Lw
open PySem PySem.Spec PyProof.Rows L2
def tChain3 (r1 r2 r3 : R2) (ta tb tc td : TE) : TT := fun σ H Q => ta σ H fun x H1 => tb σ H1 fun y H2 => r1 x y H2 fun z H3 => ∃ k, z = .bl k ∧ (if k = true then
  tc σ H3 fun u H4 => r2 y u H4 fun z2 H5 => ∃ k2, z2 = .bl k2 ∧ (if k2 = true then td σ H5 fun v H6 => r3 u v H6 fun z3 H7 => ∃ k3, z3 = .bl k3 ∧ Q k3 H7 else Q false H5) else Q false H3)
section
variable {X : Cx}
theorem pt_chain3 {a b c d : Expr} {ta tb tc td : TE} {pos : Pos} {o1 o2 o3 : CmpOp} {r1 r2 r3 : R2} (h1 : OpR X (compareOp o1) r1) (h2 : OpR X (compareOp o2) r2) (h3 : OpR X (compareOp o3) r3) (ha : PE X a ta) (hb : PE X b tb) (hc : PE X c tc) (hd : PE X d td)
    (hm : lastMarks [o1, o2, o3] [b, c, d] = false := by with_unfolding_all rfl) : PT X (.Compare a [o1, o2, o3] [b, c, d] pos) (tChain3 r1 r2 r3 ta tb tc td) := by
  constructor
  intro pins t σ H Q I h
  refine isTrue_chain (wpAny_mono (ha.run pins t σ H _ I h) ?_ fun _ _ z => z) hm
  rintro va t1 ⟨x, H1, I1, ra, q1⟩
  refine test_link (wpAny_mono (hb.run pins t1 σ H1 _ I1 q1) ?_ fun _ _ z => z)
  rintro vb t2 ⟨y, H2, I2, rb, q2⟩
  refine wpAny_mono (h1 pins t2 σ H2 x y va vb _ I2 ra rb q2) ?_ fun _ _ z => z
  rintro e1 t3 ⟨_, H3, I3, re1, k1, rfl, q3⟩
  cases re1
  refine wpAny_truthy_bool ?_
  cases k1 with
  | false => exact ite_ff ⟨H3, I3, q3⟩
  | true =>
    refine ite_tt (test_link (wpAny_mono (hc.run pins t3 σ H3 _ I3 q3) ?_ fun _ _ z => z))
    rintro vc t4 ⟨u, H4, I4, rc, q4⟩
    refine wpAny_mono (h2 pins t4 σ H4 y u vb vc _ I4 rb rc q4) ?_ fun _ _ z => z
    rintro e2 t5 ⟨_, H5, I5, re2, k2, rfl, q5⟩
    cases re2
    refine wpAny_truthy_bool ?_
    cases k2 with
    | false => exact ite_ff ⟨H5, I5, q5⟩
    | true =>
      refine ite_tt (test_last (wpAny_mono (hd.run pins t5 σ H5 _ I5 q5) ?_ fun _ _ z => z))
      rintro vd t6 ⟨v, H6, I6, rd, q6⟩
      refine wpAny_mono (h3 pins t6 σ H6 u v vc vd _ I6 rc rd q6) ?_ fun _ _ z => z
      rintro e3 t7 ⟨_, H7, I7, re3, k3, rfl, q7⟩
      cases re3
      exact wpAny_truthy_bool ⟨H7, I7, q7⟩
end
/-- a property -/
structure Prp (P : Program) (w : World) (K : PySem.W.Frag) (mg : Str → Option Value) (base : Heap) (k : Nat) (C : Addr) (f : Str) (sp : Sp) : Prop where
  ex : ∃ (p g : Addr) (fd : FuncData), Cls K C ∧ PropOf K C f p g ∧ FnOk P w K mg base CX0 k g fd ["self"] sp ∧ Binds K fd ["self"] []
theorem pe_pr {X : Cx} {k j : Nat} {C : Addr} {f : Str} {sp : Sp} {e : Expr} {ta : TE} {pos : Pos} (h : Prp X.prog X.w X.K X.mg X.base k C f sp) (hr : Room j X.A) (hk : k + 1 ≤ j) (he : PE X e ta) (hab : attributeBase e f X.env (eval e X.env) = eval e X.env := by rfl) : PE X (.Attribute e f pos) (tProp C sp [] E0 ta) := by
  obtain ⟨p, g, fd, c, hp, F, b⟩ := h.ex
  exact pe_prop he c hp F (hr.mono hk) b .nil pass0 hab
end Lw
set_option Elab.async false
set_option linter.all false
set_option maxRecDepth 100000
/-! an edge by its number -/
namespace Lw
open PySem L2
abbrev sEdge : Stmt := inClass (top 9) 9
def spEdge0 (C : Addr) : Sp := fun vs H Q _ => ∃ (g : Addr) (n : Int) (us : Es) (i : Nat) (e : Addr × Int × Int), vs = [.ref g, .int (i : Int)] ∧ GraphAt C H g n us ∧ us[i]? = some e ∧ Q (.ref e.1) H
section
variable {P : Program} {w : World} {K : PySem.W.Frag} {mg : Str → Option Value} {base : Heap}
theorem scEdge : FnScope ["self", "number"] ["self", "number"] (defScope sEdge) := ⟨rfl, rfl, rfl, by decide +kernel, rfl, by decide +kernel, by decide +kernel⟩
theorem ok_edge0 {f C : Addr} {mc : Value} {fd : FuncData} {k : Nat} (F : Fun K "edge" "Graph.edge" sEdge f fd) (T : Bi mg) (G : GTxt K mg C mc) : FnOk P w K mg base CX0 (k + 1) f fd ["self", "number"] (spEdge0 C) := by
  refine F.ok scEdge (fun vs H Q E h => ?_) (fun cdv A outer s H vs Q E hr h => ?_)
  · obtain ⟨g, n, us, i, e, rfl, _⟩ := h
    rfl
  · obtain ⟨g, n, us, i, e, rfl, ⟨⟨dx, t, h1, h2⟩, ed⟩, hi, q⟩ := h
    refine ⟨_, pss_cons (ps_if (pt_not (pt_chain op_le op_lt pe_int (pv 1) (pe_callB call_len_seq (by rfl) T.len PySem.boot_len (pa_cons (pe_fld (pv 0) rfl) pa_nil)))) (pss_one ps_never) pss_nil)
      (pss_one (ps_ret (pe_ix ix_tup (pe_fld (pv 0) rfl) (pv 1) (fun _ _ => rfl)))), ?_⟩
    have hlt : i < us.length := (List.getElem?_eq_some_iff.mp hi).1
    refine ⟨_, rfl, _, _, rfl, rfl, _, rfl, if_t (decide_eq_true (by omega)) ⟨_, rfl, g, C, dx, _, _, rfl, h1, G.cl, G.nE, look_e _ _, t, _, rfl, .inr (SqT.of h2), _, _, rfl, rfl, _, rfl, if_f (by rw [vsOf_len, decide_eq_true (by omega)]; rfl) ?_⟩⟩
    exact ⟨_, rfl, g, C, dx, _, _, rfl, h1, G.cl, G.nE, look_e _ _, _, rfl, t, _, _, _, rfl, rfl, SqT.of h2, es_at hi, q⟩
end
end Lw
set_option Elab.async false
set_option linter.all false
set_option maxRecDepth 100000
set_option maxHeartbeats 2000000
/-! `!=` of two lists or tuples whose items are equal one by one, by an own __eq__ or by being the same object -/
namespace NeQ
open PySem PySem.SeqAt GQ
open AutoSeq1 (wpAny_loadPart')
open MeetsSeq MeetsSeq2 MeetsSeq3 SeqRoads2
section
variable {P : Program} {W : World} {B : Around} {Z : Result → Shared → Prop}
theorem ne_run (l b : Addr) (N : Nat) (J : Nat → Shared → Prop) (rd : ListI P W B (fun e t => Z (.error e) t) l b N J) (out : ∀ t, J N t → Z (.ok (.ret (.bool false))) t) :
    ∀ k i : Nat, N - i = k → i ≤ N → ∀ t, J i t → wpAny (model P W) B.in1 (Builtin.«list.__eq__.loop» ⟨[.ref l, .ref b, rawInt i, rawInt 3], []⟩) (FinOf P W B Z) (fun e t => Z (.error e) t) t := by
  intro k
  induction k with
  | zero =>
    intro i hk hi t ht
    obtain ⟨us, vs, cu, cv, gl, gb, su, sv, _⟩ := rd _ _ ht
    have ei : i = N := by omega
    have fin : Z (.ok (.ret (.bool false))) t := out t (ei ▸ ht)
    obtain ⟨hp, g, d, tk, os⟩ := t
    wp_walk using wpAny_loadPart' gl, wpAny_loadPart' gb
    have no1 : us[((i : Nat) : Int).toNat]? = none := by simp; omega
    have no2 : vs[((i : Nat) : Int).toNat]? = none := by simp; omega
    rw [no1, no2]
    wp_walk using wpAny_loadPart' gl, wpAny_loadPart' gb
    show Z (.ok (.ret (.bool (us.size != vs.size)))) _
    rw [su, sv]
    simpa using fin
  | succ k ih =>
    intro i hk hi t ht
    obtain ⟨us, vs, cu, cv, gl, gb, su, sv, turn⟩ := rd _ _ ht
    have l1 : i < us.size := by omega
    have l2 : i < vs.size := by omega
    have one := turn l1 l2
    obtain ⟨hp, g, d, tk, os⟩ := t
    wp_walk using wpAny_loadPart' gl, wpAny_loadPart' gb
    rw [show us[((i : Nat) : Int).toNat]? = some us[i] by simp [l1], show vs[((i : Nat) : Int).toNat]? = some vs[i] by simp [l2]]
    refine wpAny_bind (wpAny_mono one (fun r t2 z => ?_) fun _ _ z => z)
    obtain ⟨er, h2⟩ := z
    subst er
    have go := ih (i + 1) (by omega) (by omega) t2 h2
    obtain ⟨hp2, g2, d2, tk2, os2⟩ := t2
    wp_walk
    rw [show ((i : Int) + 1) = ((i + 1 : Nat) : Int) by omega]
    refine ⟨plainId_quiet plain_eq_loop _, codeAny_builtin entry_eq_loop ?_⟩
    rw [Around.under_plainId plain_eq_loop _]
    exact go
theorem ne_lists (l b : Addr) (N : Nat) (J : Nat → Shared → Prop) (rd : ListI P W B (fun e t => Z (.error e) t) l b N J) (out : ∀ t, J N t → Z (.ok (.ret (.bool false))) t) {t : Shared} (ht : J 0 t) :
    wpAny (model P W) B.in1 (Builtin.«list.__ne__» ⟨[.ref l, .ref b], []⟩) (FinOf P W B Z) (fun e t => Z (.error e) t) t := by
  obtain ⟨us, vs, cu, cv, gl, gb, su, sv, _⟩ := rd _ _ ht
  have go := ne_run (B := B) (Z := Z) l b N J rd out _ 0 rfl (Nat.zero_le _) t ht
  obtain ⟨hp, g, d, tk, os⟩ := t
  have ll := AutoSeq1.sub_list_list
  have same : ¬ (us.size != vs.size) = true := by simp [su, sv]
  wp_walk using wpAny_loadPart' gl, wpAny_loadPart' gb
  refine ⟨plainId_quiet plain_eq_loop _, codeAny_builtin entry_eq_loop ?_⟩
  rw [Around.under_plainId plain_eq_loop _]
  exact go
theorem ne_tuples (l b : Addr) (us vs : Array Value) (cu cv : Nat) (du dv : Option Addr) (au av : Array (Option Value)) (sz : us.size = vs.size) (J : Nat → Shared → Prop)
    (turn : ∀ i (h1 : i < us.size) (h2 : i < vs.size) t, J i t → wpAny (model P W) B.in1 (eqBool us[i] vs[i]) (fun r t2 => r = true ∧ J (i + 1) t2) (fun e t2 => Z (.error e) t2) t) (out : ∀ t, J us.size t → Z (.ok (.ret (.bool false))) t) {t : Shared}
    (gl : t.heap.get? l = some { cls := .type "tuple", dict := du, data := .seq us cu, slots := au }) (gb : t.heap.get? b = some { cls := .type "tuple", dict := dv, data := .seq vs cv, slots := av }) (ht : J 0 t) :
    wpAny (model P W) B.in1 (Builtin.«tuple.__ne__» ⟨[.ref l, .ref b], []⟩) (FinOf P W B Z) (fun e t2 => Z (.error e) t2) t := by
  have tt := AutoSeq1.sub_tuple_tuple
  have zl : (us.toList.zip vs.toList).length = us.size := by simp [sz]
  have start := ht
  obtain ⟨hp, g, d, tk, os⟩ := t
  wp_walk using wpAny_loadPart' gl, wpAny_loadPart' gb, wpAny_forIn_list _ (fun more acc t2 => acc.1 = none ∧ ∃ i, more = (us.toList.zip vs.toList).drop i ∧ i ≤ us.size ∧ J i t2) _
  case turn =>
    rintro ⟨x, y⟩ more acc t2 ⟨ha, i, hm, hi, hJ⟩
    have lt : i < (us.toList.zip vs.toList).length := Nat.lt_of_not_le fun ge => by
      rw [List.drop_of_length_le ge] at hm
      cases hm
    have l1 : i < us.size := zl ▸ lt
    have l2 : i < vs.size := sz ▸ l1
    rw [List.drop_eq_getElem_cons lt] at hm
    injection hm with hxy hmore
    have ex : x = us[i] := by simpa using congrArg Prod.fst hxy
    have ey : y = vs[i] := by simpa using congrArg Prod.snd hxy
    subst ex ey
    refine wpAny_bind (wpAny_mono (turn i l1 l2 t2 hJ) (fun r t3 z => ?_) fun _ _ z => z)
    obtain ⟨er, z⟩ := z
    subst er
    wp_walk
    exact ⟨rfl, i + 1, hmore, l1, z⟩
  case fin =>
    rintro ⟨a1, a2⟩ t2 ⟨ha, i, hm, hi, hJ⟩
    simp only at ha
    subst ha
    have ge : us.size ≤ i := Nat.le_of_not_lt fun lt => by
      rw [List.drop_eq_getElem_cons (zl.symm ▸ lt)] at hm
      cases hm
    have fin : Z (.ok (.ret (.bool false))) t2 := out t2 ((show i = us.size by omega) ▸ hJ)
    wp_walk
    simpa [Builtin.Tuple.tupleCompareSizes, sz] using fin
  case h => exact ⟨rfl, 0, rfl, Nat.zero_le _, start⟩
end
end NeQ
namespace L2
open PySem PySem.Spec PyProof.Rows
section
variable {X : Cx} {n : Nat} {D : Eqv}
/-- != gives False for what D says -/
def RnG (X : Cx) (n : Nat) (D : Eqv) : Prop :=
  ∀ (B : Around) (pins : List (Addr × Obj)) (t : Shared) (σ : St) (H : Hp) (x y : V) (u v : Value), Sub X n B → Inv X pins σ H t → RelV x u → RelV y v → D x y H →
    wpAny (model X.prog X.w) B (richCompare .NotEq u v) (fun r t2 => r = .bool false ∧ LoopI X pins σ H t2) X.xe t
theorem rnG_list (hD : Mon D) (h : EqG X n D) : RnG X (n + 1) (DList D) := by
  intro B pins t σ H x y u v sb I rx ry d
  obtain ⟨a, b, xs, ys, rfl, rfl, ha, hb, p⟩ := d
  cases rx
  cases ry
  have rd : GQ.ListI X.prog X.w B X.xe a b xs.length (fun _ t2 => LoopI X pins σ H t2) := fun i t2 q => by
    obtain ⟨H1, I1, x1⟩ := id q
    obtain ⟨_, us, k, r, e⟩ := I1.hok a _ (x1 _ _ ha)
    obtain ⟨_, vs, k2, r2, e2⟩ := I1.hok b _ (x1 _ _ hb)
    exact ⟨us.toArray, vs.toArray, k, k2, e, e2, by rw [List.size_toArray, ← r.length], by rw [List.size_toArray, ← r2.length, ← p.1], fun h1 h2 => turnG hD h sb p r r2 i h1 h2 t2 q⟩
  have q0 : LoopI X pins σ H t := ⟨H, I, Ext.rfl'⟩
  obtain ⟨_, _, _, _, gl, gb, _⟩ := rd 0 t q0
  refine wpAny_richCompare_same_room (op := .NotEq) ⟨_, gl, rfl⟩ ⟨_, gb, rfl⟩ F.slot_list_ne (GQ.call_here F.slot_list_ne ⟨_, gl, rfl⟩ F.entry_list_ne (F.args_list_ne_2 _ _) ?_) sb.room.units0
  exact NeQ.ne_lists a b xs.length (fun _ t2 => LoopI X pins σ H t2) rd (fun t2 q => ⟨(fun z => nomatch z), rfl, q⟩) q0
theorem rnG_tup (hD : Mon D) (h : EqG X n D) : RnG X (n + 1) (DTup X.K D) := by
  intro B pins t σ H x y u v sb I rx ry d
  obtain ⟨a, b, xs, ys, rfl, rfl, ha, hb, p⟩ := d
  cases rx
  cases ry
  obtain ⟨us, r, e, _⟩ := I.tuple ha
  obtain ⟨vs, r2, e2, _⟩ := I.tuple hb
  have sz : us.toArray.size = vs.toArray.size := by
    rw [List.size_toArray, List.size_toArray, ← r.length, ← r2.length]
    exact p.1
  obtain ⟨⟨c1, d1, o1, w1⟩, g1, k1, m1, f1⟩ := id e
  obtain ⟨⟨c2, d2, o2, w2⟩, g2, k2, m2, f2⟩ := id e2
  simp only at k1 f1 k2 f2
  subst k1 f1 k2 f2
  refine wpAny_richCompare_same_room (op := .NotEq) ⟨_, g1, rfl⟩ ⟨_, g2, rfl⟩ F.slot_tuple_ne (GQ.call_here F.slot_tuple_ne ⟨_, g1, rfl⟩ F.entry_tuple_ne (F.args_tuple_ne_2 _ _) ?_) sb.room.units0
  exact NeQ.ne_tuples a b us.toArray vs.toArray m1 m2 d1 d2 w1 w2 sz (fun _ t2 => LoopI X pins σ H t2) (fun i h1 h2 t2 q => turnG hD h sb p r r2 i h1 h2 t2 q) (fun t2 q => ⟨(fun z => nomatch z), rfl, q⟩) g1 g2 ⟨H, I, Ext.rfl'⟩
/-- the same object -/
def DSame : Eqv := fun x y _ => ∃ a, x = .ref a ∧ y = .ref a
theorem mon_same : Mon DSame := fun _ _ _ _ _ d => d
theorem eqG_same : EqG X 0 DSame := by
  rintro B pins t σ H x y u v sb I rx ry ⟨a, rfl, rfl⟩
  cases rx
  cases ry
  exact SeqAt.EqAt.same (A := B) (s := t) (.ref a) X.prog X.w X.xe _ ⟨rfl, H, I, Ext.rfl'⟩
def rNeG (D : Eqv) : R2 := fun x y H Q => D x y H ∧ ∀ H', Ext H H' → Q (.bl false) H'
theorem op_neG (h : RnG X n D) (hr : Room n X.A) : OpR X (compareOp .NotEq) (rNeG D) := by
  rintro pins t σ H x y v u Q I rx ry ⟨d, q⟩
  show wpAny (model X.prog X.w) X.A (richCompare .NotEq v u) (EP X pins σ Q) X.xe t
  refine wpAny_mono (h X.A pins t σ H x y v u ⟨hr, rfl⟩ I rx ry d) (fun r t2 z => ?_) fun _ _ z => z
  obtain ⟨er, H', I', e⟩ := z
  subst er
  exact ⟨.bl false, H', I', rfl, q H' e⟩
end
end L2
set_option Elab.async false
set_option linter.all false
set_option maxRecDepth 100000
/-! the class Merge -/
namespace Lw
open PySem L2
abbrev sMI : Stmt := inClass (top 15) 0
abbrev sMEq : Stmt := inClass (top 15) 1
abbrev sMCk : Stmt := inClass (top 15) 2
abbrev sMKp : Stmt := inClass (top 15) 3
abbrev sMNs : Stmt := inClass (top 15) 5
abbrev sMRs : Stmt := inClass (top 15) 6
structure MTxt (K : PySem.W.Frag) (mg : Str → Option Value) (CM : Addr) : Prop where
  cl : Cls K CM
  nL : NoAttr K CM "low"
  nH : NoAttr K CM "high"
  mgM : mg "Merge" = some (.ref CM)
def mfl (a b : Int) : List (Str × V) := [("low", V.int a), ("high", V.int b)]
theorem lh : ¬ (("low" : Str) = "high") := by decide +kernel
theorem mput1 (a : Int) : putF "low" (.int a) [] = ([("low", V.int a)] : List (Str × V)) := rfl
theorem mput2 (a b : Int) : putF "high" (.int b) ([("low", V.int a)] : List (Str × V)) = mfl a b := by
  show (if ("low" : Str) = "high" then _ else (("low" : Str), V.int a) :: putF "high" (.int b) []) = mfl a b
  rw [if_neg lh]
  rfl
theorem mlo (a b : Int) : (mfl a b).lookup ("low" : Str) = some (.int a) := by
  unfold mfl
  simp [List.lookup]
theorem mhi (a b : Int) : (mfl a b).lookup ("high" : Str) = some (.int b) := by
  unfold mfl
  have h : (("high" : Str) == ("low" : Str)) = false := by decide +kernel
  simp [List.lookup, h]
theorem mno (a b : Int) {m : Str} (h1 : (m == ("low" : Str)) = false) (h2 : (m == ("high" : Str)) = false) : (mfl a b).lookup m = none := by
  unfold mfl
  simp [List.lookup, h1, h2]
def MgO (CM : Addr) (H : Hp) (o : Addr) (a b : Int) : Prop := ∃ dx, H o = some (.ins CM dx (mfl a b))
theorem MgO.same {CM : Addr} {H H' : Hp} {o : Addr} {a b : Int} (h : MgO CM H o a b) (s : Same H H') : MgO CM H' o a b := by
  obtain ⟨dx, e⟩ := h
  exact ⟨dx, s _ _ e⟩
def spMI (CM : Addr) : Sp := fun vs H Q _ => ∃ (o dx : Addr) (a b : Int), vs = [.ref o, .int a, .int b] ∧ H o = some (.ins CM dx []) ∧ ∀ H', KeepB o H H' → MgO CM H' o a b → Q .non H'
/-- the graph at g, of at most eight states and 24 edges, all in range, every state a source -/
structure Gok (C : Addr) (H : Hp) (g : Addr) (n : Nat) (ps : Ps) : Prop where
  at_ : ∃ us : Es, GraphAt C H g (n : Int) us ∧ psOf us = ps
  va : VaP (n : Int) ps
  n1 : 1 ≤ n
  n8 : n ≤ 8
  l24 : ps.length ≤ 24
theorem Gok.same {C : Addr} {H H' : Hp} {g : Addr} {n : Nat} {ps : Ps} (h : Gok C H g n ps) (s : Same H H') : Gok C H' g n ps := by
  obtain ⟨us, e1, e2⟩ := h.at_
  exact ⟨⟨us, e1.same s, e2⟩, h.va, h.n1, h.n8, h.l24⟩
def spMCk (C CM : Addr) : Sp := fun vs H Q _ => ∃ (o g : Addr) (n i j : Nat) (ps : Ps), vs = [.ref o, .ref g] ∧ MgO CM H o i j ∧ Gok C H g n ps ∧ i < j ∧ j < n ∧ colL n ps i = colL n ps j ∧ ∀ H', Same H H' → Q .non H'
/-- the numbers of the edges that stay -/
def kpN (b : Int) (ps : Ps) (m : Nat) : List Int := (List.range m).flatMap fun k => if (pat ps k).2 ≠ b then [((k : Nat) : Int)] else []
theorem kpN_succ (b : Int) (ps : Ps) (m : Nat) : kpN b ps (m + 1) = kpN b ps m ++ (if (pat ps m).2 ≠ b then [((m : Nat) : Int)] else []) := by
  unfold kpN
  rw [List.range_succ, List.flatMap_append]
  simp
theorem kpN_len (b : Int) (ps : Ps) (m : Nat) : (kpN b ps m).length ≤ m := by
  induction m with
  | zero => exact Nat.le_refl _
  | succ m ih =>
    rw [kpN_succ, List.length_append]
    split <;> simp <;> omega
theorem kpN_mem {b z : Int} {ps : Ps} {m : Nat} (h : z ∈ kpN b ps m) : ∃ k : Nat, z = (k : Int) ∧ k < m := by
  unfold kpN at h
  obtain ⟨k, hk, h⟩ := List.mem_flatMap.mp h
  split at h
  · exact ⟨k, List.mem_singleton.mp h, List.mem_range.mp hk⟩
  · cases h
theorem kpN_ps (b : Int) (ps : Ps) : ∀ m, m ≤ ps.length → (kpN b ps m).map (fun z => pat ps z.toNat) = (ps.take m).filter fun p => decide (p.2 ≠ b) := by
  intro m
  induction m with
  | zero => intro _; rfl
  | succ m ih =>
    intro hm
    have e : ps.take (m + 1) = ps.take m ++ [pat ps m] := take_snoc (pat_at (by omega))
    rw [kpN_succ, List.map_append, ih (by omega), e, List.filter_append]
    congr 1
    by_cases c : (pat ps m).2 ≠ b
    · rw [if_pos c, List.filter_cons_of_pos (by exact decide_eq_true c)]
      rfl
    · rw [if_neg c, List.filter_cons_of_neg (by rw [decide_eq_false c]; exact Bool.false_ne_true)]
      rfl
def spMKp (C CM : Addr) : Sp := fun vs H Q _ => ∃ (o g : Addr) (n : Nat) (a b : Int) (ps : Ps), vs = [.ref o, .ref g] ∧ MgO CM H o a b ∧ Gok C H g n ps ∧ ∀ (D : Addr) (H' : Hp), Same H H' → H' D = some (.lst ((kpN b ps ps.length).map V.int)) → Q (.ref D) H'
def spMNs (CM : Addr) : Sp := fun vs H Q _ => ∃ (o : Addr) (a b s : Int), vs = [.ref o, .int s] ∧ MgO CM H o a b ∧ Q (.int (nmS a b s)) H
def spMRs (C CM : Addr) : Sp := fun vs H Q _ => ∃ (o g : Addr) (n i j : Nat) (ps : Ps), vs = [.ref o, .ref g] ∧ MgO CM H o i j ∧ Gok C H g n ps ∧ i < j ∧ j < n ∧ colL n ps i = colL n ps j ∧ ∀ (g' : Addr) (H' : Hp), Same H H' → H g' = none → Gok C H' g' (n - 1) (mrgP i j ps) → Q (.ref g') H'
/-- equal merges -/
def MEq (CM : Addr) : Addr → Addr → Hp → Prop := fun o1 o2 H => ∃ a b, MgO CM H o1 a b ∧ MgO CM H o2 a b
section
variable {P : Program} {w : World} {K : PySem.W.Frag} {mg : Str → Option Value} {base : Heap} {f C CM : Addr} {mc : Value} {fd : FuncData} {k : Nat}
theorem scMI : FnScope ["self", "one", "other"] ["self", "one", "other"] (defScope sMI) := ⟨rfl, rfl, rfl, by decide +kernel, rfl, by decide +kernel, by decide +kernel⟩
theorem scMEq : FnScope ["self", "other"] ["self", "other"] (defScope sMEq) := ⟨rfl, rfl, rfl, by decide +kernel, rfl, by decide +kernel, by decide +kernel⟩
theorem scMCk : FnScope ["self", "graph", "line"] ["self", "graph"] (defScope sMCk) := ⟨rfl, rfl, rfl, by decide +kernel, rfl, by decide +kernel, by decide +kernel⟩
theorem scMKp : FnScope ["self", "graph", "number", "edge"] ["self", "graph"] (defScope sMKp) := ⟨rfl, rfl, rfl, by decide +kernel, rfl, by decide +kernel, by decide +kernel⟩
theorem scMNs : FnScope ["self", "state"] ["self", "state"] (defScope sMNs) := ⟨rfl, rfl, rfl, by decide +kernel, rfl, by decide +kernel, by decide +kernel⟩
theorem scMRs : FnScope ["self", "graph", "number", "ends", "source", "target"] ["self", "graph"] (defScope sMRs) := ⟨rfl, rfl, rfl, by decide +kernel, rfl, by decide +kernel, by decide +kernel⟩
theorem ok_mi (F : Fun K "__init__" "Merge.__init__" sMI f fd) (M : MTxt K mg CM) : FnOk P w K mg base CX0 (k + 1) f fd ["self", "one", "other"] (spMI CM) := by
  refine F.ok scMI (fun vs H Q E h => ?_) (fun cdv A outer s H vs Q E hr h => ?_)
  · obtain ⟨o, dx, a, b, rfl, _⟩ := h
    rfl
  · obtain ⟨o, dx, a, b, rfl, ho, q⟩ := h
    refine ⟨_, pss_cons (ps_fld (pv 0) (pv 1) rfl) (pss_one (ps_fld (pv 0) (pv 2) rfl)), ?_⟩
    refine ⟨_, rfl, _, rfl, o, CM, dx, [], rfl, ho, M.cl, M.nL, (by show 0 < 1000; decide), ?_⟩
    rw [mput1]
    refine ⟨_, rfl, _, rfl, o, CM, dx, _, rfl, upd_same, M.cl, M.nH, (by show 1 < 1000; decide), ?_⟩
    rw [mput2, upd_upd]
    exact q _ .updb ⟨dx, upd_same⟩
theorem ok_meq (F : Fun K "__eq__" "Merge.__eq__" sMEq f fd) (T : Bi mg) (M : MTxt K mg CM) (S : C8.InsC K CM) : FnOk P w K mg base CX0 (k + 1) f fd ["self", "other"] (spEq (MEq CM)) := by
  refine F.ok scMEq (fun vs H Q E h => ?_) (fun cdv A outer s H vs Q E hr h => ?_)
  · obtain ⟨a, b, rfl, _⟩ := h
    rfl
  · obtain ⟨o1, o2, rfl, ⟨a, b, ⟨d1, h1⟩, d2, h2⟩, q⟩ := h
    refine ⟨_, pss_one (ps_ret (pe_and (pe_callB call_isi (by rfl) T.isi (by decide +kernel) (pa_cons (pv 1) (pa_cons (pe_glob (v := .ref CM) (by rfl) M.mgM rfl) pa_nil)))
      (pe_and (pe_cmpR op_eq (pe_fld (pv 0) rfl) (pe_fld (pv 1) rfl) (nomark _)) (pe_one (pe_cmpR op_eq (pe_fld (pv 0) rfl) (pe_fld (pv 1) rfl) (nomark _)))))), ?_⟩
    refine ⟨_, rfl, _, _, _, _, true, rfl, .own _, .base (.ins h2 S.cl S.ha S.hn S.htk S.hm), S.me, true, rfl, iteT ?_⟩
    refine ⟨_, rfl, o1, CM, d1, _, _, rfl, h1, M.cl, M.nL, mlo _ _, _, rfl, o2, CM, d2, _, _, rfl, h2, M.cl, M.nL, mlo _ _, rfl, _, rfl, if_t (decide_eq_true rfl) ?_⟩
    refine ⟨_, rfl, o1, CM, d1, _, _, rfl, h1, M.cl, M.nH, mhi _ _, _, rfl, o2, CM, d2, _, _, rfl, h2, M.cl, M.nH, mhi _ _, rfl, ?_⟩
    rw [decide_eq_true rfl]
    exact q H Ext.rfl'
theorem ok_mns (F : Fun K "new_state" "Merge.new_state" sMNs f fd) (M : MTxt K mg CM) : FnOk P w K mg base CX0 (k + 1) f fd ["self", "state"] (spMNs CM) := by
  refine F.ok scMNs (fun vs H Q E h => ?_) (fun cdv A outer s H vs Q E hr h => ?_)
  · obtain ⟨o, a, b, s, rfl, _⟩ := h
    rfl
  · obtain ⟨o, a, b, s, rfl, ⟨dx, ho⟩, q⟩ := h
    refine ⟨_, pss_cons (ps_if (pt_cmpR op_eq (pv 1) (pe_fld (pv 0) rfl) (nomark _)) (pss_one (ps_ret (pe_fld (pv 0) rfl))) pss_nil)
      (pss_one (ps_ret (pe_ifExp (pt_cmpR op_gt (pv 1) (pe_fld (pv 0) rfl) (nomark _)) (pe_op op_sub (pv 1) pe_int) (pv 1)))), ?_⟩
    refine ⟨_, rfl, _, rfl, o, CM, dx, _, _, rfl, ho, M.cl, M.nH, mhi _ _, rfl, _, rfl, ?_⟩
    unfold nmS at q
    by_cases c : s = b
    · rw [if_pos c] at q
      refine if_t (decide_eq_true (congrArg V.int c)) ?_
      exact ⟨_, rfl, o, CM, dx, _, _, rfl, ho, M.cl, M.nL, mlo _ _, q⟩
    · rw [if_neg c] at q
      refine if_f (decide_eq_false fun z => c (V.int.inj z)) ?_
      refine ⟨_, rfl, _, rfl, o, CM, dx, _, _, rfl, ho, M.cl, M.nH, mhi _ _, _, _, rfl, rfl, _, rfl, ?_⟩
      by_cases c2 : b < s
      · rw [if_pos c2] at q
        exact if_t (decide_eq_true c2) ⟨_, rfl, _, _, rfl, rfl, q⟩
      · rw [if_neg c2] at q
        exact if_f (decide_eq_false c2) ⟨_, rfl, q⟩
end
end Lw
set_option Elab.async false
set_option linter.all false
set_option maxRecDepth 100000
/-! a merge taken -/
namespace Lw
open PySem L2
abbrev tFl (K : PySem.W.Frag) (x : Str) : TE := tFld K (tVar 0) x
theorem any_no (m : Nat) : (List.replicate m false).any id = false := by
  induction m with
  | zero => rfl
  | succ m ih => rw [List.replicate_succ, List.any_cons, ih]; rfl
section
variable {P : Program} {w : World} {K : PySem.W.Frag} {mg : Str → Option Value} {base : Heap} {f C CM : Addr} {mc : Value} {fd : FuncData} {k : Nat}
set_option maxHeartbeats 8000000 in
theorem ok_mck (F : Fun K "check" "Merge.check" sMCk f fd) (tA : mg "any" = none) (M : MTxt K mg CM) (mC : C8.Met P w K mg base 1 C "counts" (spCounts C) []) (pS : Prp P w K mg base 1 C "states" (spStates C)) : FnOk P w K mg base CX0 (k + 3) f fd ["self", "graph"] (spMCk C CM) := by
  refine F.ok scMCk (fun vs H Q E h => ?_) (fun cdv A outer s H vs Q E hr h => ?_)
  · obtain ⟨o, g, n, i, j, ps, rfl, _⟩ := h
    rfl
  · obtain ⟨o, g, n, i, j, ps, rfl, MO, G, ij, jn, ec, q⟩ := h
    obtain ⟨dx, ho⟩ := id MO
    obtain ⟨us, GA, eu⟩ := G.at_
    obtain ⟨⟨dg, t, h1, h2⟩, ed⟩ := id GA
    refine ⟨_, pss_cons (ps_if (pt_not (pt_chain3 op_le op_lt op_lt pe_int (pe_fld (pv 0) rfl) (pe_fld (pv 0) rfl) (pe_pr pS hr (by omega) (pv 1)))) (pss_one ps_never) pss_nil)
      (pss_one (ps_if (pt_val (pe_callB (cr_any rfl) (by rfl) tA (by decide +kernel) (pa_cons
        (pe_lc (own := [("line", 2)]) (g := gName 2) (tt := tYes) (te := tOp rNe (tOp (rIxL K) (tVar 2) (tFl K "low")) (tOp (rIxL K) (tVar 2) (tFl K "high"))) rfl scMCk.nd (pi_seqA (C8.pe_mt0 mC hr (by omega) (pv 1))) (blkOk_by (N := ["self", "graph", "line"]) (sc := defScope sMCk) (by decide +kernel))
          (fun _ _ _ _ _ => by exact pg_name (i := 2) scMCk.nd rfl (Or.inl rfl)) (fun _ _ _ _ _ => pts_nil)
          (fun _ _ _ _ _ => by exact pe_cmpR op_ne (pe_ix ix_list (pv 2) (pe_fld (pv 0) rfl) (fun _ _ => rfl)) (pe_ix ix_list (pv 2) (pe_fld (pv 0) rfl) (fun _ _ => rfl)) (nomark _))) pa_nil))) (pss_one ps_never) pss_nil)), ?_⟩
    refine ⟨_, rfl, o, CM, dx, _, _, rfl, ho, M.cl, M.nL, mlo _ _, _, _, rfl, rfl, _, rfl, if_t (decide_eq_true (by omega)) ?_⟩
    refine ⟨_, rfl, o, CM, dx, _, _, rfl, ho, M.cl, M.nH, mhi _ _, _, _, rfl, rfl, _, rfl, if_t (decide_eq_true (by omega)) ?_⟩
    refine ⟨_, rfl, g, dg, _, rfl, h1, g, (n : Int), us, rfl, GA, _, _, rfl, rfl, _, rfl, if_f (by rw [decide_eq_true (show (j : Int) < (n : Int) by omega)]; rfl) ?_⟩
    have n8 := G.n8
    have n1 := G.n1
    have l24 := G.l24
    refine ⟨_, rfl, g, dg, _, rfl, h1, look_no _ _ (by decide +kernel) (by decide +kernel), g, (n : Int), us, rfl, GA, by omega, by omega, by rw [← psL_len, eu]; omega, fun e he => G.va.rg e.2 (by rw [← eu]; exact List.mem_map.mpr ⟨e, he, rfl⟩), fun T rs H1 s1 np nr ca => ?_⟩
    rw [Int.toNat_natCast, eu] at ca
    have ho1 := s1 _ _ ho
    refine ⟨T, _, SqL, rfl, .inl rfl, SqL.of ca.ls, fun J w D hD => ?_⟩
    refine lc_it w (fun m H' => Same H1 H' ∧ H' D = some (.lst ((List.replicate m false).map V.bl))) ⟨same_upd hD, upd_same⟩ (fun m H' _ p => SqL.of (p.1 _ _ ca.ls)) ?_ ?_
    · rintro m x H2 H3 hm ⟨s2, eD⟩ ⟨rfl, gx⟩
      rw [List.length_map, ca.len] at hm
      rw [List.getElem?_map] at gx
      obtain ⟨r, hrr, rfl⟩ := Option.map_eq_some_iff.mp gx
      have er := s2 _ _ (ca.row m r hrr)
      have ho2 := s2 _ _ ho1
      refine ⟨rfl, ?_⟩
      refine ⟨_, rfl, _, rfl, o, CM, dx, _, _, rfl, ho2, M.cl, M.nL, mlo _ _, r, _, _, _, rfl, rfl, SqL.of er, cntRow_col ps (show i < n by omega), _, rfl, _, rfl, o, CM, dx, _, _, rfl, ho2, M.cl, M.nH, mhi _ _, r, _, _, _, rfl, rfl, SqL.of er, cntRow_col ps jn, rfl, ?_⟩
      rw [colL_eq ec hm, decide_eq_true rfl]
      refine ⟨_, eD, ?_, ?_, ?_⟩
      · rw [List.length_map, List.length_replicate]
        exact small1000 (by omega)
      · intro b o e
        rw [upd_ne (ne_of_none e hD)]
        exact s2 _ _ e
      · rw [upd_same, List.replicate_succ', List.map_append]
        rfl
    · rintro H2 ⟨s2, eD⟩
      refine ⟨D, _, rfl, SqL.of eD, ?_⟩
      rw [any_no]
      exact ⟨_, rfl, if_f rfl (q H2 (s1.trans s2))⟩
set_option maxHeartbeats 8000000 in
theorem ok_mkp (F : Fun K "kept_edges" "Merge.kept_edges" sMKp f fd) (tE : mg "enumerate" = none) (M : MTxt K mg CM) (mE : C8.Met P w K mg base 1 C "edges" (spEdges C) []) : FnOk P w K mg base CX0 (k + 2) f fd ["self", "graph"] (spMKp C CM) := by
  refine F.ok scMKp (fun vs H Q E h => ?_) (fun cdv A outer s H vs Q E hr h => ?_)
  · obtain ⟨o, g, n, a, b, ps, rfl, _⟩ := h
    rfl
  · obtain ⟨o, g, n, a, b, ps, rfl, ⟨dx, ho⟩, G, q⟩ := h
    obtain ⟨us, GA, eu⟩ := G.at_
    obtain ⟨⟨dg, t, h1, h2⟩, ed⟩ := id GA
    have l24 := G.l24
    have lu : us.length = ps.length := by rw [← psL_len, eu]
    refine ⟨_, pss_one (ps_ret (pe_lc (own := [("number", 2), ("edge", 3)]) (g := gTup K 2 (gCons (gName 2) (gCons (gName 3) gNil))) (tt := tTest (tOp rNe (tOp (rIxT K) (tVar 3) (tC (.int 1))) (tFl K "high"))) (te := tVar 2) rfl scMKp.nd (pi_enumA (by rfl) tE (pa_cons (C8.pe_mt0 mE hr (by omega) (pv 1)) pa_nil)) (blkOk_by (N := ["self", "graph", "number", "edge"]) (sc := defScope sMKp) (by decide +kernel))
        (fun _ _ _ _ _ => by exact pg_tup rfl (pgs_cons (pg_name (i := 2) scMKp.nd rfl (Or.inl rfl)) (pgs_cons (pg_name (i := 3) scMKp.nd rfl (Or.inl rfl)) pgs_nil)))
        (fun _ _ _ _ _ => by exact pts_one (pt_cmpR op_ne (pe_ix ix_tup (pv 3) pe_int (fun _ _ => rfl)) (pe_fld (pv 0) rfl) (nomark _)))
        (fun _ _ _ _ _ => by exact pv 2))), ?_⟩
    refine ⟨_, rfl, g, dg, _, rfl, h1, look_no _ _ (by decide +kernel) (by decide +kernel), g, (n : Int), us, rfl, GA, fun L hL => ?_⟩
    have s1 := same_upd (o := .lst (vsOf us)) hL
    have eL : upd H L (.lst (vsOf us)) L = some (.lst (vsOf us)) := upd_same
    generalize upd H L (.lst (vsOf us)) = H1 at *
    refine ⟨L, _, SqL, rfl, .inl rfl, SqL.of eL, fun J w D hD => ?_⟩
    refine lc_it w (fun m H' => Same H1 H' ∧ H' D = some (.lst ((kpN b ps m).map V.int))) ⟨same_upd hD, upd_same⟩ (fun m H' _ p => SqL.of (p.1 _ _ eL)) ?_ ?_
    · rintro m x H2 H3 hm ⟨s2, eD⟩ ⟨Tp, u, v, rfl, nT, rfl, gu, gv⟩
      rw [vsOf_len] at hm
      have eu1 : u = .int ((m : Nat) : Int) := (Option.some.inj gu).symm
      subst eu1
      have gv : (vsOf us)[m]? = some v := gv
      obtain ⟨e, he, rfl⟩ := vsOf_at gv
      have s3 := same_upd (o := .tup [.int ((m : Nat) : Int), .ref e.1]) nT
      have ep : pat ps m = e.2 := by rw [← eu]; exact psOf_pat he
      have s23 := s2.trans s3
      refine ⟨Tp, _, rfl, SqT.of upd_same, rfl, _, _, rfl, _, _, rfl, rfl, rfl, ?_⟩
      refine ⟨_, rfl, e.1, _, _, .int e.2.2, rfl, rfl, SqT.of (s23 _ _ (s1 _ _ (ed e (List.mem_of_getElem? he)))), rfl, _, rfl, o, CM, dx, _, _, rfl, s23 _ _ (s1 _ _ ho), M.cl, M.nH, mhi _ _, rfl, _, rfl, ite2 (fun hc => ?_) (fun hc => ?_)⟩
      · have hc : (pat ps m).2 ≠ b := fun z => by
          rw [ep] at z
          rw [z, decide_eq_true rfl] at hc
          cases hc
        refine ⟨_, rfl, _, s3 _ _ eD, ?_, ?_, ?_⟩
        · rw [List.length_map]
          have := kpN_len b ps m
          exact small1000 (by omega)
        · intro c o ec
          rw [upd_ne (ne_of_none ec hD)]
          exact s23 _ _ ec
        · rw [upd_same, kpN_succ, if_pos hc, List.map_append]
          rfl
      · have hc : ¬ (pat ps m).2 ≠ b := fun z => hc (by rw [ep] at z; rw [decide_eq_false (fun e => z (V.int.inj e))]; rfl)
        refine ⟨s23, ?_⟩
        rw [s3 _ _ eD, kpN_succ, if_neg hc, List.append_nil]
    · rintro H2 ⟨s2, eD⟩
      rw [vsOf_len, lu] at eD
      exact q D H2 (s1.trans s2) eD
theorem make_same {C : Addr} {H : Hp} {g dx : Addr} (hg : H g = none) (hdx : H dx = none) (ne : dx ≠ g) : Same H (upd (upd H dx (.own g)) g (.ins C dx [])) := by
  refine (same_upd hdx).trans (same_upd ?_)
  rw [upd_ne (Ne.symm ne)]
  exact hg
set_option maxHeartbeats 16000000 in
theorem ok_mrs (F : Fun K "result" "Merge.result" sMRs f fd) (M : MTxt K mg CM) (mCk : C8.Met P w K mg base 3 CM "check" (spMCk C CM) []) (mKp : C8.Met P w K mg base 2 CM "kept_edges" (spMKp C CM) []) (mNs : C8.Met P w K mg base 1 CM "new_state" (spMNs CM) []) (mEd : C8.Met P w K mg base 1 C "edge" (spEdge0 C) []) (pS : Prp P w K mg base 1 C "states" (spStates C))
    (cG : C8.Mak P w K mg base 2 "Graph" C (spInit C) []) : FnOk P w K mg base CX0 (k + 4) f fd ["self", "graph"] (spMRs C CM) := by
  refine F.ok scMRs (fun vs H Q E h => ?_) (fun cdv A outer s H vs Q E hr h => ?_)
  · obtain ⟨o, g, n, i, j, ps, rfl, _⟩ := h
    rfl
  · obtain ⟨o, g, n, i, j, ps, rfl, MO, G, ij, jn, ec, q⟩ := h
    have n8 := G.n8
    have l24 := G.l24
    refine ⟨_, pss_cons (ps_expr (C8.pe_mt mCk hr (by omega) (pv 0) (pa_cons (pv 1) pa_nil)))
      (C8.pss_cut (ps_setLc (i := 3) (own := [("number", 2)]) (g := gName 2) (tt := tYes) (te := tMeth C "edge" (spEdge0 C) [] E0 (tVar 1) (tCons (tVar 2) tNil)) rfl scMRs.nd rfl rfl (sw_true rfl rfl rfl (by decide +kernel)) (pi_seqA (C8.pe_mt mKp hr (by omega) (pv 0) (pa_cons (pv 1) pa_nil))) (blkOk_by (N := ["self", "graph", "number", "ends", "source", "target"]) (sc := defScope sMRs) (by decide +kernel))
          (fun _ _ _ _ _ => by exact pg_name (i := 2) scMRs.nd rfl (Or.inl rfl)) (fun _ _ _ _ _ => pts_nil)
          (fun _ _ _ _ _ => by exact C8.pe_mt mEd hr (by omega) (pv 1) (pa_cons (pv 2) pa_nil)))
      (pss_one (ps_ret (C8.pe_mk cG hr (by omega) (by rfl) (pa_cons (pe_op op_sub (pe_pr pS hr (by omega) (pv 1)) pe_int) (pa_cons
        (pe_lc (own := [("source", 4), ("target", 5)]) (g := gTup K 2 (gCons (gName 4) (gCons (gName 5) gNil))) (tt := tYes) (te := tTup (tCons (tMeth CM "new_state" (spMNs CM) [] E0 (tVar 0) (tCons (tVar 4) tNil)) (tCons (tMeth CM "new_state" (spMNs CM) [] E0 (tVar 0) (tCons (tVar 5) tNil)) tNil))) rfl scMRs.nd (pi_seqA (pv 3)) (blkOk_by (N := ["self", "graph", "number", "ends", "source", "target"]) (sc := defScope sMRs) (by decide +kernel))
          (fun _ _ _ _ _ => by exact pg_tup rfl (pgs_cons (pg_name (i := 4) scMRs.nd rfl (Or.inl rfl)) (pgs_cons (pg_name (i := 5) scMRs.nd rfl (Or.inl rfl)) pgs_nil))) (fun _ _ _ _ _ => pts_nil)
          (fun _ _ _ _ _ => by exact pe_tup (pa_cons (C8.pe_mt mNs hr (by omega) (pv 0) (pa_cons (pv 4) pa_nil)) (pa_cons (C8.pe_mt mNs hr (by omega) (pv 0) (pa_cons (pv 5) pa_nil)) pa_nil)))) pa_nil)))))), ?_⟩
    have no : ∀ m : Str, (m == ("low" : Str)) = false → (m == ("high" : Str)) = false → (mfl (i : Int) (j : Int)).lookup m = none := fun m h1 h2 => mno _ _ h1 h2
    have mL : ∀ {H' : Hp}, MgO CM H' o i j → ∃ dx, H' o = some (.ins CM dx (mfl i j)) := fun h => h
    obtain ⟨dx, ho⟩ := mL MO
    refine ⟨_, rfl, o, dx, _, rfl, ho, no _ (by decide +kernel) (by decide +kernel), _, rfl, o, g, n, i, j, ps, rfl, MO, G, ij, jn, ec, fun H1 s1 => ?_⟩
    have MO := MO.same s1
    have G := G.same s1
    clear ho
    obtain ⟨dx, ho⟩ := mL MO
    -- the ends
    refine ⟨fun σ H' => ∃ (D : Addr) (ks : Es), σ = [some (.ref o), some (.ref g), none, some (.ref D), none, none] ∧ Same H1 H' ∧ LsAt H' D ks ∧ psOf ks = ps.filter fun p => decide (p.2 ≠ (j : Int)), ?_, ?_⟩
    · refine ⟨_, rfl, o, dx, _, rfl, ho, no _ (by decide +kernel) (by decide +kernel), _, rfl, o, g, n, (i : Int), (j : Int), ps, rfl, MO, G, fun D1 H2 s2 e2 => ?_⟩
      obtain ⟨us, GA, eu⟩ := (G.same s2).at_
      obtain ⟨⟨dg, t, h1, h2⟩, ed⟩ := id GA
      refine ⟨D1, _, SqL, rfl, .inl rfl, SqL.of e2, fun J w D hD => ?_⟩
      refine lc_it w (fun m H' => ∃ ks : Es, Same H2 H' ∧ LsAt H' D ks ∧ psOf ks = ((kpN j ps ps.length).take m).map fun z => pat ps z.toNat) ⟨[], same_upd hD, ⟨upd_same, Ed.nil⟩, rfl⟩ (fun m H' _ p => by obtain ⟨ks, s, _⟩ := p; exact SqL.of (s _ _ e2)) ?_ ?_
      · rintro m x H3 H4 hm ⟨ks, s3, L3, hk⟩ ⟨rfl, gx⟩
        rw [List.length_map] at hm
        rw [List.getElem?_map] at gx
        obtain ⟨z, hz, rfl⟩ := Option.map_eq_some_iff.mp gx
        obtain ⟨c, rfl, hc⟩ := kpN_mem (List.mem_of_getElem? hz)
        have hcu : c < us.length := by rw [← psL_len, eu]; exact hc
        obtain ⟨e, he⟩ : ∃ e, us[c]? = some e := ⟨_, List.getElem?_eq_getElem hcu⟩
        have lk : ks.length ≤ 24 := by
          have h1 := congrArg List.length hk
          rw [psL_len, List.length_map, List.length_take] at h1
          have h2 := kpN_len j ps ps.length
          omega
        refine ⟨rfl, ?_⟩
        refine ⟨_, rfl, g, dg, _, rfl, s3 _ _ h1, look_no _ _ (by decide +kernel) (by decide +kernel), _, rfl, g, (n : Int), us, c, e, rfl, GA.same s3, he, _, L3.ls, ?_, ks ++ [e], ?_, ⟨?_, ?_⟩, ?_⟩
        · rw [vsOf_len]
          exact small1000 (by omega)
        · intro b o e
          rw [upd_ne (ne_of_none e hD)]
          exact s3 _ _ e
        · rw [upd_same]
          unfold vsOf
          rw [List.map_append]
          rfl
        · intro y hy
          have : H4 y.1 = some (.tup [.int y.2.1, .int y.2.2]) := by
            rcases List.mem_append.mp hy with hy | hy
            · exact L3.ed y hy
            · rw [List.mem_singleton.mp hy]
              exact s3 _ _ (ed e (List.mem_of_getElem? he))
          rw [upd_ne fun z => ?_]
          · exact this
          · rw [z, L3.ls] at this
            cases this
        · rw [psOf_app, hk, take_snoc hz, List.map_append]
          show _ ++ [e.2] = _ ++ [pat ps ((c : Nat) : Int).toNat]
          rw [Int.toNat_natCast, ← eu, psOf_pat he]
      · rintro H3 ⟨ks, s3, L3, hk⟩
        rw [List.length_map, List.take_length, kpN_ps _ _ _ (Nat.le_refl _), List.take_length] at hk
        exact ⟨D, ks, rfl, s2.trans s3, L3, hk⟩
    rintro σ H2 ⟨D, ks, rfl, s2, L2, hk⟩
    have MO := MO.same s2
    have G := G.same s2
    clear ho
    obtain ⟨dx, ho⟩ := mL MO
    obtain ⟨us, GA, eu⟩ := G.at_
    obtain ⟨⟨dg, t, h1, h2⟩, ed⟩ := id GA
    have lk : ks.length ≤ 24 := by
      have h1 := congrArg List.length hk
      have h2 := List.length_filter_le (fun p : Int × Int => decide (p.2 ≠ (j : Int))) ps
      rw [psL_len] at h1
      omega
    refine ⟨_, rfl, g, dg, _, rfl, h1, g, (n : Int), us, rfl, GA, _, _, rfl, rfl, ?_⟩
    refine ⟨_, rfl, D, _, SqL, rfl, .inl rfl, SqL.of L2.ls, fun J w D2 hD2 => ?_⟩
    refine lc_it w (fun m H' => ∃ ws : Es, Same H2 H' ∧ LsAt H' D2 ws ∧ psOf ws = (psOf (ks.take m)).map fun p => (nmS i j p.1, nmS i j p.2)) ⟨[], same_upd hD2, ⟨upd_same, Ed.nil⟩, rfl⟩ (fun m H' _ p => by obtain ⟨ws, s, _⟩ := p; exact SqL.of (s _ _ L2.ls)) ?_ ?_
    · rintro m x H3 H4 hm ⟨ws, s3, L3, hw⟩ ⟨rfl, gx⟩
      rw [vsOf_len] at hm
      obtain ⟨e, he, rfl⟩ := vsOf_at gx
      have lw : ws.length ≤ 24 := by
        have h1 := congrArg List.length hw
        rw [psL_len, List.length_map, psL_len, List.length_take] at h1
        omega
      have ho4 := s3 _ _ ho
      have MO4 := MO.same s3
      refine ⟨e.1, _, rfl, SqT.of (s3 _ _ (L2.ed e (List.mem_of_getElem? he))), rfl, _, _, rfl, _, _, rfl, rfl, rfl, ?_⟩
      refine ⟨_, rfl, o, dx, _, rfl, ho4, no _ (by decide +kernel) (by decide +kernel), _, rfl, o, (i : Int), (j : Int), _, rfl, MO4, _, rfl, o, dx, _, rfl, ho4, no _ (by decide +kernel) (by decide +kernel), _, rfl, o, (i : Int), (j : Int), _, rfl, MO4, (by show 2 ≤ sizeLine; decide), fun tt ht => ?_⟩
      have s4 := same_upd (o := .tup [.int (nmS i j e.2.1), .int (nmS i j e.2.2)]) ht
      have nt : tt ≠ D2 := fun w => by
        rw [w, L3.ls] at ht
        cases ht
      have L4 := L3.same s4
      refine ⟨_, L4.ls, ?_, ws ++ [(tt, nmS i j e.2.1, nmS i j e.2.2)], ?_, L4.snoc (H := H4) upd_same nt, ?_⟩
      · rw [vsOf_len]
        exact small1000 (by omega)
      · intro b o e
        rw [upd_ne (ne_of_none e hD2)]
        exact s4 _ _ (s3 _ _ e)
      · rw [psOf_app, hw, take_snoc he, psOf_app, List.map_append]
        rfl
    · rintro H3 ⟨ws, s3, L3, hw⟩
      rw [vsOf_len, List.take_length, hk] at hw
      have hw : psOf ws = mrgP i j ps := hw
      have va := mrg_valid G.va ij jn ec
      have lw := mrgP_len i j ps
      have en : ((n - 1 : Nat) : Int) = (n : Int) - 1 := by omega
      intro g' dx' hg hdx nex
      have s4 := make_same (C := C) hg hdx nex
      have L4 := L3.same s4
      have ng : H g' = none := ((s1.trans s2).trans s3).free hg
      refine ⟨g', dx', D2, (n : Int) - 1, ws, HO.lst, rfl, upd_same, .inl rfl, L4.ls, L4.ed, VaP.es (by rw [hw]; exact va), by omega, by omega, by rw [← psL_len, hw]; omega, fun vs H' hvs kp GB => ⟨rfl, ?_⟩⟩
      refine q g' H' (fun c o ec => kp c o (ne_of_none ec ng) (s4 _ _ (s3 _ _ (s2 _ _ (s1 _ _ ec))))) ng ⟨⟨vs, by rw [en]; exact GB, hvs.trans hw⟩, by rw [en]; exact va, by omega, by omega, by omega⟩
end
end Lw
set_option Elab.async false
set_option linter.all false
set_option maxRecDepth 100000
/-! a walk whose turn is anything: for comprehensions with two for -/
namespace Lw
open PySem L2
theorem walk_any {J : It} {n : Nat} {G : Hp → Prop} {Y : Nat → Hp → V → Hp → Prop} (w : Walk J n G Y) {Qd : Hp → Prop} {H0 : Hp} {B : (Hp → Prop) → V → Hp → Prop} (Pv : Nat → Hp → Prop) (h0 : Pv 0 H0) (hG : ∀ i H, i ≤ n → Pv i H → G H)
    (hs : ∀ i x H H', i < n → Pv i H → Y i H x H' → B (Pv (i + 1)) x H') (hd : ∀ H, Pv n H → Qd H) :
    ∃ W : Nat → Nat → Hp → Prop, (∃ m, W 0 m H0) ∧ ∀ i m H, W i m H → (J.stop i H ∧ Qd H) ∨ (J.go i H ∧ ∃ Nx : Hp → Prop, (∀ H', Nx H' → ∃ m', m' < m ∧ W (i + 1) m' H') ∧ ∀ x H', J.yld i H x H' → B Nx x H') := by
  refine ⟨fun i m H => m + i = n ∧ Pv i H, ⟨n, rfl, h0⟩, ?_⟩
  rintro i m H ⟨e, p⟩
  have g := hG i H (by omega) p
  cases m with
  | zero =>
    have e : i = n := by omega
    subst e
    exact .inl ⟨w.stops H g, hd H p⟩
  | succ m => exact .inr ⟨w.goes i H (by omega) g, Pv (i + 1), fun H' p' => ⟨m, Nat.lt_succ_self m, by omega, p'⟩, fun x H' y => hs i x H H' (by omega) p (w.yields i H x H' (by omega) g y)⟩
end Lw
set_option Elab.async false
set_option linter.all false
set_option maxRecDepth 100000
/-! zip over any number of lists, at the library's level -/
namespace ZN
open PySem
section
variable {M : Model} {A : Around} {E : Value → Shared → Prop}
/-- a loop that never leaves early: what it carries is known by the number of turns -/
theorem loop {α β : Type} {f : α → β → Sem (ForInStep β)} {l : List α} (g : Nat → β) (Inv : Nat → Shared → Prop) {Q : β → Shared → Prop}
    (step : ∀ (j : Nat) (a : α) (s : Shared), l[j]? = some a → Inv j s → wpAny M A (f a (g j)) (fun r s' => r = .yield (g (j + 1)) ∧ Inv (j + 1) s') E s)
    (fin : ∀ s', Inv l.length s' → Q (g l.length) s') : ∀ (post : List α) (j : Nat) (s : Shared), l.drop j = post → j ≤ l.length → Inv j s → wpAny M A (forIn post (g j) f) Q E s := by
  intro post
  induction post with
  | nil =>
    intro j s hd hj inv
    have e : j = l.length := Nat.le_antisymm hj (List.drop_eq_nil_iff.mp hd)
    subst e
    exact wpAny_pure (fin s inv)
  | cons a post ih =>
    intro j s hd hj inv
    have hlt : j < l.length := by
      refine Nat.lt_of_le_of_ne hj fun z => ?_
      rw [z, List.drop_length] at hd
      cases hd
    have ha : l[j]? = some a := by
      have := List.getElem?_drop (xs := l) (i := j) (j := 0)
      rw [hd] at this
      simpa using this.symm
    have hn : l.drop (j + 1) = post := by
      have := congrArg (List.drop 1) hd
      simpa [List.drop_drop] using this
    rw [List.forIn_cons]
    refine wpAny_bind (wpAny_mono (step j a s ha inv) (fun r s' h => ?_) fun _ _ e => e)
    obtain ⟨rfl, inv'⟩ := h
    exact ih (j + 1) s' hn hlt inv'
end
/-- the zip object, as it stands -/
def ZipAt (h : Heap) (z TI TO : Addr) (own : Value) (b : Bool) : Prop := h.get? z = some { cls := .type "zip", dict := none, data := .fields #[own, .bool b, .bool false, .ref TI, .ref TO], slots := #[] }
def TupAt (h : Heap) (T : Addr) (vs : Array Value) : Prop := h.get? T = some { cls := .type "tuple", data := .seq vs }
/-- an iterator, its list, the list's items -/
abbrev Rw := Addr × Addr × Array Value
def refs (qs : List Rw) : Array Value := (qs.map fun q => Value.ref q.1).toArray
/-- the first j iterators one further -/
def Rws (h : Heap) (qs : List Rw) (k j : Nat) : Prop := ∀ (i : Nat) (q : Rw), qs[i]? = some q → h.IsListIter q.1 q.2.1 (if i < j then k + 1 else k) ∧ h.IsList q.2.1 q.2.2
structure Apart (z TI TO : Addr) (qs : List Rw) : Prop where
  zT : z ≠ TO
  iz : z ≠ TI
  iT : TO ≠ TI
  q1 : ∀ q ∈ qs, q.1 ≠ z ∧ q.1 ≠ TO ∧ q.1 ≠ TI
  q2 : ∀ q ∈ qs, q.2.1 ≠ z ∧ q.2.1 ≠ TO
  nd : ∀ (i j : Nat) (p q : Rw), qs[i]? = some p → qs[j]? = some q → i ≠ j → p.1 ≠ q.1
  nl : ∀ p ∈ qs, ∀ q ∈ qs, q.2.1 ≠ p.1
/-- the column at k -/
def Col (qs : List Rw) (k : Nat) (xs : List Value) : Prop := xs.length = qs.length ∧ ∀ (i : Nat) (q : Rw) (x : Value), qs[i]? = some q → xs[i]? = some x → q.2.2[k]? = some x
theorem Rws.ext {h h' : Heap} {qs : List Rw} {k j : Nat} (r : Rws h qs k j) (e : ∀ q ∈ qs, ∀ o, h.get? q.1 = some o → h'.get? q.1 = some o) (e2 : ∀ q ∈ qs, ∀ o, h.get? q.2.1 = some o → h'.get? q.2.1 = some o) : Rws h' qs k j := fun i q hq => by
  have m := List.mem_of_getElem? hq
  obtain ⟨⟨o, h1, h2⟩, ⟨ol, h3, h4⟩⟩ := r i q hq
  exact ⟨⟨o, e q m _ h1, h2⟩, ⟨ol, e2 q m _ h3, h4⟩⟩
section
variable {prog : Program} {w : World} {A : Around} {E : Value → Shared → Prop} {s : Shared} {z TI TO : Addr} {qs : List Rw} {k : Nat} {own : Value} {b : Bool}
theorem put {T : Addr} {vs : Array Value} {x : Value} {i : Nat} {Q : Unit → Shared → Prop} (hT : TupAt s.heap T vs) (hz : vs.size ≤ sizeLine)
    (h : ∀ h', TupAt h' T (vs.setIfInBounds i x) → Heap.SameBut T s.heap h' → Q () { s with heap := h' }) : wpAny (model prog w) A (updateSeq T (·.setIfInBounds i x)) Q E s := by
  refine wpAny_updateSeq hT rfl (h _ ?_ (Heap.SameBut.update ..)) (by simpa using hz) (by simp; omega)
  unfold TupAt
  rw [Heap.get?_update_self _ hT rfl]
  simp [Obj.mapSeq]
/-- one iterator of the first j moves on -/
theorem Rws.step {h h' : Heap} {j : Nat} {q : Rw} (S : Apart z TI TO qs) (r : Rws h qs k j) (hq : qs[j]? = some q) (it : h'.IsListIter q.1 q.2.1 (k + 1)) (sb : Heap.SameBut q.1 h h') : Rws h' qs k (j + 1) := fun i p hp => by
  have mq := List.mem_of_getElem? hq
  have mp := List.mem_of_getElem? hp
  obtain ⟨h1, ⟨ol, h3, h4⟩⟩ := r i p hp
  refine ⟨?_, ⟨ol, sb.extBut _ _ (S.nl q mq p mp) h3, h4⟩⟩
  by_cases e : i = j
  · subst e
    rw [hq] at hp
    cases hp
    rw [if_pos (Nat.lt_succ_self _)]
    exact it
  · obtain ⟨o, g1, g2⟩ := h1
    have e2 : (if i < j + 1 then k + 1 else k) = (if i < j then k + 1 else k) := by
      by_cases l : i < j
      · rw [if_pos l, if_pos (by omega)]
      · rw [if_neg l, if_neg (by omega)]
    rw [e2]
    exact ⟨o, sb.extBut _ _ (S.nd i j p q hp hq e) g1, g2⟩
/-- what is not the zip's own -/
def Out (z TO : Addr) (qs : List Rw) (c : Addr) : Prop := c ≠ z ∧ c ≠ TO ∧ ∀ q ∈ qs, c ≠ q.1
theorem col_at {xs : List Value} {q : Rw} {j : Nat} (C : Col qs k xs) (hq : qs[j]? = some q) : ∃ x, xs[j]? = some x ∧ q.2.2[k]? = some x := by
  have hj : j < xs.length := by
    rw [C.1]
    exact (List.getElem?_eq_some_iff.mp hq).1
  exact ⟨xs[j], List.getElem?_eq_getElem hj, C.2 j q _ hq (List.getElem?_eq_getElem hj)⟩
theorem Rws.done {h : Heap} (r : Rws h qs k qs.length) : Rws h qs (k + 1) 0 := fun i q hq => by
  have hi := (List.getElem?_eq_some_iff.mp hq).1
  have := r i q hq
  rw [if_pos hi] at this
  rw [if_neg (Nat.not_lt_zero i)]
  exact this
theorem refs_at {j : Nat} {v : Value} (h : (refs qs).toList[j]? = some v) : ∃ q, qs[j]? = some q ∧ v = .ref q.1 := by
  unfold refs at h
  simp only [List.toList_toArray, List.getElem?_map] at h
  obtain ⟨q, hq, rfl⟩ := Option.map_eq_some_iff.mp h
  exact ⟨q, hq, rfl⟩
theorem refs_len : (refs qs).toList.length = qs.length := by
  unfold refs
  simp
set_option maxHeartbeats 3200000 in
theorem next_free {xs : List Value} {vs : Array Value} {Q : Value → Shared → Prop} (S : Apart z TI TO qs) (hz : ZipAt s.heap z TI TO .none b) (hn : qs ≠ []) (h64 : qs.length ≤ 64)
    (hTI : TupAt s.heap TI (refs qs)) (hTO : TupAt s.heap TO vs) (hv : vs.size = qs.length) (R : Rws s.heap qs k 0) (C : Col qs k xs)
    (hQ : ∀ h', ZipAt h' z TI TO (rawInt s.heap.objs.size) false → TupAt h' TI (refs qs) → Rws h' qs (k + 1) 0 → TupAt h' s.heap.objs.size xs.toArray → h'.objs.size = s.heap.objs.size + 1 →
      (∀ c o, Out z TO qs c → s.heap.get? c = some o → h'.get? c = some o) → Q (.ref s.heap.objs.size) { s with heap := h' }) :
    wpAny (model prog w) A (Builtin.«zip.__next__» ⟨[.ref z], []⟩) (fun fin s' => ∃ v, fin = .done (.ret v) ∧ Q v s') E s := by
  show wpAny _ _ (field (.ref z) 2 >>= _) _ _ _
  refine wpAny_bind (wpAny_field hz rfl (x := .bool false) rfl ?_)
  show wpAny _ _ (field (.ref z) 3 >>= _) _ _ _
  refine wpAny_bind (wpAny_field hz rfl (x := .ref TI) rfl ?_)
  refine wpAny_bind (wpAny_seqItems hTI rfl ?_)
  have ne : (refs qs).isEmpty = false := by
    unfold refs
    cases qs with
    | nil => exact absurd rfl hn
    | cons => rfl
  dsimp only
  rw [ne, if_neg Bool.false_ne_true]
  refine wpAny_bind ?_
  unfold Builtin.SmallTypes.ownedTupleIsFree
  refine wpAny_bind (wpAny_field hz rfl (x := .none) rfl (wpAny_pure ?_))
  rw [if_pos rfl]
  refine wpAny_bind (wpAny_rule (wpAny_bind (wpAny_field hz rfl (x := .ref TO) rfl ?_)))
  refine wpAny_bind (wpAny_setField_rec hz (by simp) fun h1 hz1 sb1 => ?_)
  replace hz1 : ZipAt h1 z TI TO .ellipsis b := hz1
  replace sb1 : Heap.SameBut z s.heap h1 := sb1
  refine wpAny_bind ?_
  refine loop (l := (refs qs).toList.zipIdx) (fun _ => (none, ())) (fun j s' => ∃ h' ys, s' = { s with heap := h' } ∧ ZipAt h' z TI TO .ellipsis b ∧ TupAt h' TI (refs qs) ∧ TupAt h' TO ys ∧ ys.size = qs.length ∧ (∀ i x, i < j → xs[i]? = some x → ys[i]? = some x) ∧ Rws h' qs k j ∧ h'.objs.size = s.heap.objs.size ∧ ∀ c o, Out z TO qs c → s.heap.get? c = some o → h'.get? c = some o) ?_ ?_ _ 0 _ rfl (Nat.zero_le _) ?_
  · rintro j ⟨v, j2⟩ s' hj ⟨h2, ys, rfl, z2, t2, o2, sz, low, r2, sz2, out2⟩
    obtain ⟨e1, e2⟩ : (refs qs).toList[j]? = some v ∧ j2 = j := by
      rw [List.getElem?_zipIdx] at hj
      cases g : (refs qs).toList[j]? with
      | none =>
        rw [g] at hj
        cases hj
      | some u =>
        rw [g] at hj
        have := Option.some.inj hj
        simp only [Prod.mk.injEq] at this
        exact ⟨congrArg some this.1, by omega⟩
    subst e2
    obtain ⟨q, hq, rfl⟩ := refs_at e1
    have mq := List.mem_of_getElem? hq
    obtain ⟨x, hx, hxk⟩ := col_at C hq
    have hjl := (List.getElem?_eq_some_iff.mp hq).1
    obtain ⟨it, ls⟩ := r2 j2 q hq
    rw [if_neg (Nat.lt_irrefl _)] at it
    refine wpAny_bind (wpAny_onRaise ?_)
    show wpAny _ _ (Builtin.SmallTypes.nextOf (.ref q.1) >>= _) _ _ _
    refine wpAny_bind (wpAny_nextOf_list_item (s := { s with heap := h2 }) it ls hxk fun h3 it3 sb3 => wpAny_pure ?_)
    replace sb3 : Heap.SameBut q.1 h2 h3 := sb3
    obtain ⟨nz, nT, nI⟩ := S.q1 q mq
    have o3 : TupAt h3 TO ys := sb3.extBut _ _ (Ne.symm nT) o2
    dsimp only
    refine wpAny_bind (wpAny_seqItems (s := { s with heap := h3 }) o3 rfl ?_)
    dsimp only
    refine wpAny_bind (put (s := { s with heap := h3 }) o3 (by rw [sz]; exact Nat.le_trans h64 (by decide)) fun h4 o4 sb4 => ?_)
    replace sb4 : Heap.SameBut TO h3 h4 := sb4
    refine wpAny_bind (wpAny_letGo (wpAny_pure ⟨rfl, h4, _, rfl, ?_, ?_, o4, ?_, ?_, ?_, ?_, ?_⟩))
    · exact sb4.extBut _ _ S.zT (sb3.extBut _ _ (Ne.symm nz) z2)
    · exact sb4.extBut _ _ (Ne.symm S.iT) (sb3.extBut _ _ (Ne.symm nI) t2)
    · rw [Array.size_setIfInBounds]
      exact sz
    · intro i y hi hy
      by_cases e : i = j2
      · subst e
        rw [hx] at hy
        cases hy
        rw [Array.getElem?_setIfInBounds_self_of_lt (by omega)]
      · rw [Array.getElem?_setIfInBounds_ne (Ne.symm e)]
        exact low i y (by omega) hy
    · refine (r2.step S hq it3 sb3).ext (fun p mp o e => ?_) (fun p mp o e => ?_)
      · exact sb4.extBut _ _ (S.q1 p mp).2.1 e
      · exact sb4.extBut _ _ (S.q2 p mp).2 e
    · rw [sb4.1, sb3.1, sz2]
    · intro c o hc e
      exact sb4.extBut _ _ hc.2.1 (sb3.extBut _ _ (hc.2.2 q mq) (out2 c o hc e))
  · rintro s' ⟨h2, ys, rfl, z2, t2, o2, sz, low, r2, sz2, out2⟩
    rw [List.length_zipIdx, refs_len] at low r2
    have ey : ys = xs.toArray := by
      apply Array.ext_getElem?
      intro i
      by_cases hi : i < qs.length
      · have hx : i < xs.length := by rw [C.1]; exact hi
        have := low i xs[i] hi (List.getElem?_eq_getElem hx)
        rw [this]
        simp [hx]
      · rw [Array.getElem?_eq_none (by omega), Array.getElem?_eq_none (by simp [C.1]; omega)]
    subst ey
    dsimp only
    refine wpAny_bind (wpAny_seqItems (s := { s with heap := h2 }) o2 rfl ?_)
    dsimp only
    refine wpAny_bind (wpAny_newTuple ?_)
    refine wpAny_bind ?_
    unfold Builtin.SmallTypes.ownedTupleHandOut
    have z3 : ZipAt (h2.push { cls := .type "tuple", data := .seq xs.toArray.toList.toArray }) z TI TO .ellipsis b := Heap.get?_push_of_some _ z2
    refine wpAny_bind (wpAny_setField_rec (s := { s with heap := h2.push { cls := .type "tuple", data := .seq xs.toArray.toList.toArray } }) z3 (by simp) fun h4 z4 sb4 => ?_)
    replace z4 : ZipAt h4 z TI TO (rawInt h2.objs.size) b := z4
    replace sb4 : Heap.SameBut z (h2.push { cls := .type "tuple", data := .seq xs.toArray.toList.toArray }) h4 := sb4
    refine wpAny_setField_rec (s := { s with heap := h4 }) z4 (by simp) fun h5 z5 sb5 => ?_
    replace z5 : ZipAt h5 z TI TO (rawInt h2.objs.size) false := z5
    replace sb5 : Heap.SameBut z h4 h5 := sb5
    have zlt : z < h2.objs.size := Heap.lt_size z2
    have up : ∀ c o, c ≠ z → h2.get? c = some o → h5.get? c = some o := fun c o n e => sb5.extBut _ _ n (sb4.extBut _ _ n (Heap.get?_push_of_some _ e))
    have tn : TupAt h5 h2.objs.size xs.toArray := by
      have : TupAt (h2.push { cls := .type "tuple", data := .seq xs.toArray.toList.toArray }) h2.objs.size xs.toArray := Heap.get?_push_size _ rfl
      exact sb5.extBut _ _ (Nat.ne_of_gt zlt) (sb4.extBut _ _ (Nat.ne_of_gt zlt) this)
    have s5 : h5.objs.size = h2.objs.size + 1 := by rw [sb5.1, sb4.1, Heap.size_push]
    rw [sz2] at z5 tn s5
    refine wpAny_pure ⟨_, rfl, ?_⟩
    show Q (.ref h2.objs.size) _
    rw [sz2]
    refine hQ h5 z5 (up _ _ (Ne.symm S.iz) t2) (r2.done.ext (fun p mp o e => up _ _ (S.q1 p mp).1 e) fun p mp o e => up _ _ (S.q2 p mp).1 e) tn s5 fun c o hc e => up c o hc.1 (out2 c o hc e)
  · refine ⟨h1, vs, rfl, hz1, sb1.extBut _ _ (Ne.symm S.iz) hTI, sb1.extBut _ _ (Ne.symm S.zT) hTO, hv, fun i x hi => absurd hi (Nat.not_lt_zero i), ?_, sb1.1, fun c o hc e => sb1.extBut _ _ hc.1 e⟩
    exact R.ext (fun p mp o e => sb1.extBut _ _ (S.q1 p mp).1 e) fun p mp o e => sb1.extBut _ _ (S.q2 p mp).1 e
end
end ZN
set_option Elab.async false
set_option linter.all false
set_option maxRecDepth 100000
namespace ZN
open PySem
section
variable {prog : Program} {w : World} {A : Around} {E : Value → Shared → Prop} {s : Shared} {z TI TO T : Addr} {qs : List Rw} {k : Nat} {b : Bool} {oT : Obj}
set_option maxHeartbeats 3200000 in
theorem next_held {xs : List Value} {Q : Value → Shared → Prop} (S : Apart z TI TO qs) (hz : ZipAt s.heap z TI TO (rawInt T) b) (hT : s.heap.get? T = some oT) (hn : qs ≠ []) (h64 : qs.length ≤ 64)
    (hTI : TupAt s.heap TI (refs qs)) (R : Rws s.heap qs k 0) (C : Col qs k xs)
    (hQ : ∀ h', ZipAt h' z TI TO (rawInt T) true → TupAt h' TI (refs qs) → Rws h' qs (k + 1) 0 → TupAt h' s.heap.objs.size xs.toArray → h'.objs.size = s.heap.objs.size + 1 →
      (∀ c o, Out z TO qs c → s.heap.get? c = some o → h'.get? c = some o) → Q (.ref s.heap.objs.size) { s with heap := h' }) :
    wpAny (model prog w) A (Builtin.«zip.__next__» ⟨[.ref z], []⟩) (fun fin s' => ∃ v, fin = .done (.ret v) ∧ Q v s') E s := by
  show wpAny _ _ (field (.ref z) 2 >>= _) _ _ _
  refine wpAny_bind (wpAny_field hz rfl (x := .bool false) rfl ?_)
  show wpAny _ _ (field (.ref z) 3 >>= _) _ _ _
  refine wpAny_bind (wpAny_field hz rfl (x := .ref TI) rfl ?_)
  refine wpAny_bind (wpAny_seqItems hTI rfl ?_)
  have ne : (refs qs).isEmpty = false := by
    unfold refs
    cases qs with
    | nil => exact absurd rfl hn
    | cons => rfl
  dsimp only
  rw [ne, if_neg Bool.false_ne_true]
  refine wpAny_bind (wpAny_tupleHeld_zip hz hT fun h1 hz1 sb1 => ?_)
  replace hz1 : ZipAt h1 z TI TO (rawInt T) true := hz1
  replace sb1 : Heap.SameBut z s.heap h1 := sb1
  rw [if_neg Bool.false_ne_true]
  refine wpAny_bind ?_
  rw [← Array.forIn_toList]
  refine loop (l := (refs qs).toList) (fun j => (none, (xs.take j).toArray)) (fun j s' => ∃ h', s' = { s with heap := h' } ∧ ZipAt h' z TI TO (rawInt T) true ∧ TupAt h' TI (refs qs) ∧ Rws h' qs k j ∧ h'.objs.size = s.heap.objs.size ∧ ∀ c o, Out z TO qs c → s.heap.get? c = some o → h'.get? c = some o) ?_ ?_ _ 0 _ rfl (Nat.zero_le _) ?_
  · rintro j v s' hj ⟨h2, rfl, z2, t2, r2, sz2, out2⟩
    obtain ⟨q, hq, rfl⟩ := refs_at hj
    have mq := List.mem_of_getElem? hq
    obtain ⟨x, hx, hxk⟩ := col_at C hq
    obtain ⟨it, ls⟩ := r2 j q hq
    rw [if_neg (Nat.lt_irrefl _)] at it
    refine wpAny_bind (wpAny_holding ?_)
    show wpAny _ _ (Builtin.SmallTypes.nextOf (.ref q.1) >>= _) _ _ _
    refine wpAny_bind (wpAny_nextOf_list_item (s := { s with heap := h2 }) it ls hxk fun h3 it3 sb3 => wpAny_pure ?_)
    replace sb3 : Heap.SameBut q.1 h2 h3 := sb3
    obtain ⟨nz, nT, nI⟩ := S.q1 q mq
    refine wpAny_pure ⟨?_, h3, rfl, ?_, ?_, r2.step S hq it3 sb3, ?_, ?_⟩
    · rw [List.take_add_one, hx]
      simp
    · exact sb3.extBut _ _ (Ne.symm nz) z2
    · exact sb3.extBut _ _ (Ne.symm nI) t2
    · rw [sb3.1, sz2]
    · intro c o hc e
      exact sb3.extBut _ _ (hc.2.2 q mq) (out2 c o hc e)
  · rintro s' ⟨h2, rfl, z2, t2, r2, sz2, out2⟩
    rw [refs_len] at r2
    rw [refs_len, ← C.1, List.take_length]
    dsimp only
    have hs : xs.length ≤ sizeLine := by
      rw [C.1]
      exact Nat.le_trans h64 (by decide)
    refine wpAny_bind (wpAny_newTuple ?_ (by simpa using hs))
    refine wpAny_pure ⟨_, rfl, ?_⟩
    show Q (.ref h2.objs.size) { s with heap := h2.push { cls := .type "tuple", data := .seq xs.toArray.toList.toArray } }
    have tn : TupAt (h2.push { cls := .type "tuple", data := .seq xs.toArray.toList.toArray }) h2.objs.size xs.toArray := Heap.get?_push_size _ rfl
    have s5 : (h2.push { cls := .type "tuple", data := .seq xs.toArray.toList.toArray }).objs.size = h2.objs.size + 1 := Heap.size_push ..
    rw [sz2] at tn s5
    rw [sz2]
    exact hQ _ (Heap.get?_push_of_some _ z2) (Heap.get?_push_of_some _ t2) (r2.done.ext (fun p mp o e => Heap.get?_push_of_some _ e) fun p mp o e => Heap.get?_push_of_some _ e) tn s5 fun c o hc e => Heap.get?_push_of_some _ (out2 c o hc e)
  · refine ⟨h1, rfl, hz1, sb1.extBut _ _ (Ne.symm S.iz) hTI, ?_, sb1.1, fun c o hc e => sb1.extBut _ _ hc.1 e⟩
    exact R.ext (fun p mp o e => sb1.extBut _ _ (S.q1 p mp).1 e) fun p mp o e => sb1.extBut _ _ (S.q2 p mp).1 e
set_option maxHeartbeats 3200000 in
theorem end_held {Q : Fin → Shared → Prop} (hh : A.handled = none) (S : Apart z TI TO qs) (hz : ZipAt s.heap z TI TO (rawInt T) b) (hT : s.heap.get? T = some oT) (hn : qs ≠ [])
    (hTI : TupAt s.heap TI (refs qs)) (R : Rws s.heap qs k 0) (hk : ∀ q ∈ qs, q.2.2[k]? = none)
    (hE : ∀ h' e, (∀ c o, Out z TO qs c → s.heap.get? c = some o → h'.get? c = some o) → (∃ o, h'.get? e = some o ∧ o.cls = .type "StopIteration") → E (.ref e) { s with heap := h' }) :
    wpAny (model prog w) A (Builtin.«zip.__next__» ⟨[.ref z], []⟩) Q E s := by
  show wpAny _ _ (field (.ref z) 2 >>= _) _ _ _
  refine wpAny_bind (wpAny_field hz rfl (x := .bool false) rfl ?_)
  show wpAny _ _ (field (.ref z) 3 >>= _) _ _ _
  refine wpAny_bind (wpAny_field hz rfl (x := .ref TI) rfl ?_)
  refine wpAny_bind (wpAny_seqItems hTI rfl ?_)
  have ne : (refs qs).isEmpty = false := by
    unfold refs
    cases qs with
    | nil => exact absurd rfl hn
    | cons => rfl
  dsimp only
  rw [ne, if_neg Bool.false_ne_true]
  refine wpAny_bind (wpAny_tupleHeld_zip hz hT fun h1 hz1 sb1 => ?_)
  replace sb1 : Heap.SameBut z s.heap h1 := sb1
  rw [if_neg Bool.false_ne_true]
  refine wpAny_bind ?_
  rw [← Array.forIn_toList]
  cases qs with
  | nil => exact absurd rfl hn
  | cons q qs =>
    have R1 : Rws h1 (q :: qs) k 0 := R.ext (fun p mp o e => sb1.extBut _ _ (S.q1 p mp).1 e) fun p mp o e => sb1.extBut _ _ (S.q2 p mp).1 e
    obtain ⟨it, ls⟩ := R1 0 q rfl
    rw [if_neg (Nat.lt_irrefl _)] at it
    have el : (refs (q :: qs)).toList = .ref q.1 :: (refs qs).toList := by
      unfold refs
      simp
    rw [el, List.forIn_cons]
    refine wpAny_bind (wpAny_bind (wpAny_holding ?_))
    show wpAny _ _ (Builtin.SmallTypes.nextOf (.ref q.1) >>= _) _ _ _
    refine wpAny_bind (wpAny_nextOf_list_end (s := { s with heap := h1 }) hh it ls (hk q List.mem_cons_self) fun h2 e ex he => ?_)
    replace ex : Heap.ExtBut q.1 h1 h2 := ex
    exact hE h2 e (fun c o hc x => ex _ _ (hc.2.2 q List.mem_cons_self) (sb1.extBut _ _ hc.1 x)) he
/-! ### next of the zip -/
theorem py_free {xs : List Value} {vs : Array Value} {Q : Option Value → Shared → Prop} (S : Apart z TI TO qs) (hz : ZipAt s.heap z TI TO .none b) (hn : qs ≠ []) (h64 : qs.length ≤ 64)
    (hTI : TupAt s.heap TI (refs qs)) (hTO : TupAt s.heap TO vs) (hv : vs.size = qs.length) (R : Rws s.heap qs k 0) (C : Col qs k xs)
    (hQ : ∀ h', ZipAt h' z TI TO (rawInt s.heap.objs.size) false → TupAt h' TI (refs qs) → Rws h' qs (k + 1) 0 → TupAt h' s.heap.objs.size xs.toArray → h'.objs.size = s.heap.objs.size + 1 →
      (∀ c o, Out z TO qs c → s.heap.get? c = some o → h'.get? c = some o) → Q (some (.ref s.heap.objs.size)) { s with heap := h' }) : wpAny (model prog w) A (pyNext (.ref z)) Q E s := by
  have ty : s.TypeIs (.ref z) "zip" := ⟨_, hz, rfl⟩
  unfold pyNext
  exact wpAny_bind (wpAny_attempt (wpAny_callSpecial?_slot (name := Str.ofString "__next__") ty F.slot_zip_next (wpAny_call_entry F.slot_zip_next ty F.entry_zip_next (next_free S hz hn h64 hTI hTO hv R C fun h' a b c d e f => wpAny_pure (hQ h' a b c d e f)) (F.args_zip_next_1 _))))
theorem py_held {xs : List Value} {Q : Option Value → Shared → Prop} (S : Apart z TI TO qs) (hz : ZipAt s.heap z TI TO (rawInt T) b) (hT : s.heap.get? T = some oT) (hn : qs ≠ []) (h64 : qs.length ≤ 64)
    (hTI : TupAt s.heap TI (refs qs)) (R : Rws s.heap qs k 0) (C : Col qs k xs)
    (hQ : ∀ h', ZipAt h' z TI TO (rawInt T) true → TupAt h' TI (refs qs) → Rws h' qs (k + 1) 0 → TupAt h' s.heap.objs.size xs.toArray → h'.objs.size = s.heap.objs.size + 1 →
      (∀ c o, Out z TO qs c → s.heap.get? c = some o → h'.get? c = some o) → Q (some (.ref s.heap.objs.size)) { s with heap := h' }) : wpAny (model prog w) A (pyNext (.ref z)) Q E s := by
  have ty : s.TypeIs (.ref z) "zip" := ⟨_, hz, rfl⟩
  unfold pyNext
  exact wpAny_bind (wpAny_attempt (wpAny_callSpecial?_slot (name := Str.ofString "__next__") ty F.slot_zip_next (wpAny_call_entry F.slot_zip_next ty F.entry_zip_next (next_held S hz hT hn h64 hTI R C fun h' a b c d e f => wpAny_pure (hQ h' a b c d e f)) (F.args_zip_next_1 _))))
theorem py_end {Q : Option Value → Shared → Prop} (hh : A.handled = none) (S : Apart z TI TO qs) (hz : ZipAt s.heap z TI TO (rawInt T) b) (hT : s.heap.get? T = some oT) (hn : qs ≠ []) (hTI : TupAt s.heap TI (refs qs)) (R : Rws s.heap qs k 0) (hk : ∀ q ∈ qs, q.2.2[k]? = none)
    (hQ : ∀ h', (∀ c o, Out z TO qs c → s.heap.get? c = some o → h'.get? c = some o) → Q none { s with heap := h' }) : wpAny (model prog w) A (pyNext (.ref z)) Q E s := by
  have ty : s.TypeIs (.ref z) "zip" := ⟨_, hz, rfl⟩
  unfold pyNext
  refine wpAny_bind (wpAny_attempt (wpAny_callSpecial?_slot (name := Str.ofString "__next__") ty F.slot_zip_next (wpAny_call_entry F.slot_zip_next ty F.entry_zip_next (end_held hh S hz hT hn hTI R hk fun h' e ke he => ?_) (F.args_zip_next_1 _))))
  obtain ⟨o, ho, hc⟩ := he
  exact wpAny_bind (wpAny_isInstance (T := "StopIteration") (b := true) ⟨o, ho, hc⟩ isSubtype_stop (wpAny_pure (hQ _ ke)))
end
end ZN
set_option Elab.async false
set_option linter.all false
set_option maxRecDepth 100000
namespace ZN
open PySem
/-- while the list at S is filled from the zip: i columns are in it -/
structure LI (g : Heap) (S z TI TO : Addr) (qs : List Rw) (cols : List (List Value)) (h : Heap) (i : Nat) (Ts : List Addr) : Prop where
  ls : ∃ c : Nat, h.get? S = some { cls := .type "list", dict := none, data := .seq (Ts.map Value.ref).toArray c, slots := #[] }
  len : Ts.length = i
  tup : ∀ (j : Nat) (T : Addr) (xs : List Value), Ts[j]? = some T → cols[j]? = some xs → TupAt h T xs.toArray
  new : ∀ T ∈ Ts, g.objs.size ≤ T ∧ T < h.objs.size ∧ T ≠ S
  nd : Ts.Nodup
  zp : (i = 0 ∧ ZipAt h z TI TO .none false ∧ ∃ vs, TupAt h TO vs ∧ vs.size = qs.length) ∨ (0 < i ∧ ∃ (T0 : Addr) (b : Bool), Ts[0]? = some T0 ∧ ZipAt h z TI TO (rawInt T0) b)
  ti : TupAt h TI (refs qs)
  rw : Rws h qs i 0
  out : ∀ a o, Out z TO qs a → a ≠ S → g.get? a = some o → h.get? a = some o
  sz : g.objs.size ≤ h.objs.size
/-- the zip's own cells lie below, the list's cell apart -/
structure Low (g : Heap) (S z TI TO : Addr) (qs : List Rw) : Prop where
  lz : z < g.objs.size
  lI : TI < g.objs.size
  lO : TO < g.objs.size
  q1 : ∀ q ∈ qs, q.1 < g.objs.size
  Sz : S ≠ z
  ST : S ≠ TI
  SO : S ≠ TO
  S1 : ∀ q ∈ qs, S ≠ q.1
  S2 : ∀ q ∈ qs, S ≠ q.2.1
theorem Low.out {g : Heap} {S z TI TO : Addr} {qs : List Rw} (L : Low g S z TI TO qs) {T : Addr} (h : g.objs.size ≤ T) : Out z TO qs T := ⟨Nat.ne_of_gt (Nat.lt_of_lt_of_le L.lz h), Nat.ne_of_gt (Nat.lt_of_lt_of_le L.lO h), fun q mq => Nat.ne_of_gt (Nat.lt_of_lt_of_le (L.q1 q mq) h)⟩
section
variable {prog : Program} {w : World} {A : Around} {R : Result → Shared → Prop} {s0 : Shared} {g : Heap} {S z TI TO : Addr} {qs : List Rw} {cols : List (List Value)}
/-- one more column, and the list that takes it -/
theorem LI.more {h h1 : Heap} {i c : Nat} {Ts : List Addr} {xs : List Value} (Ap : Apart z TI TO qs) (L : Low g S z TI TO qs) (I : LI g S z TI TO qs cols h i Ts) (hx : cols[i]? = some xs) (hS1 : h1.get? S = some { cls := .type "list", dict := none, data := .seq (Ts.map Value.ref).toArray c, slots := #[] })
    (zp : ∃ (T0 : Addr) (b : Bool), (Ts ++ [h.objs.size])[0]? = some T0 ∧ ZipAt h1 z TI TO (rawInt T0) b) (ti : TupAt h1 TI (refs qs)) (rw1 : Rws h1 qs (i + 1) 0) (tn : TupAt h1 h.objs.size xs.toArray) (s1 : h1.objs.size = h.objs.size + 1) (out : ∀ c o, Out z TO qs c → h.get? c = some o → h1.get? c = some o) :
    LI g S z TI TO qs cols (h1.update S (Obj.mapSeq (·.push (.ref h.objs.size)))) (i + 1) (Ts ++ [h.objs.size]) := by
  have Sl : S < h.objs.size := by
    obtain ⟨c0, e0⟩ := I.ls
    exact Heap.lt_size e0
  have oth : ∀ b o, b ≠ S → h1.get? b = some o → (h1.update S (Obj.mapSeq (·.push (.ref h.objs.size)))).get? b = some o := fun b o hb e => (Heap.get?_update_other _ _ (Ne.symm hb)).trans e
  have usz : (h1.update S (Obj.mapSeq (·.push (.ref h.objs.size)))).objs.size = h1.objs.size := (Heap.SameBut.update (h := h1) (a := S) (f := Obj.mapSeq (·.push (.ref h.objs.size)))).1
  refine ⟨?_, by rw [List.length_append, I.len]; rfl, ?_, ?_, ?_, .inr ⟨Nat.succ_pos i, ?_⟩, oth _ _ (Ne.symm L.ST) ti, ?_, ?_, ?_⟩
  · have ea : (Ts.map Value.ref).toArray.push (.ref h.objs.size) = ((Ts ++ [h.objs.size]).map Value.ref).toArray := by simp
    have e := Heap.get?_update_self (Obj.mapSeq (·.push (.ref h.objs.size))) hS1 rfl
    obtain ⟨c2, hc2⟩ : ∃ c2, Obj.mapSeq (·.push (.ref h.objs.size)) { cls := Value.type "list", dict := none, data := .seq (Ts.map Value.ref).toArray c, slots := #[] } = { cls := Value.type "list", dict := none, data := .seq ((Ts.map Value.ref).toArray.push (.ref h.objs.size)) c2, slots := #[] } := ⟨_, rfl⟩
    rw [hc2, ea] at e
    exact ⟨c2, e⟩
  · intro j T ys hT hy
    by_cases hj : j < Ts.length
    · rw [List.getElem?_append_left hj] at hT
      have m := I.new T (List.mem_of_getElem? hT)
      exact oth _ _ m.2.2 (out _ _ (L.out m.1) (I.tup j T ys hT hy))
    · rw [List.getElem?_append_right (by omega)] at hT
      have hj2 : j - Ts.length = 0 := by
        by_cases e : j - Ts.length = 0
        · exact e
        · obtain ⟨n, hn⟩ : ∃ n, j - Ts.length = n + 1 := ⟨j - Ts.length - 1, by omega⟩
          rw [hn] at hT
          cases hT
      rw [hj2] at hT
      have ej : j = i := by
        have := I.len
        omega
      subst ej
      rw [hx] at hy
      cases hy
      have := Option.some.inj hT
      rw [← this]
      exact oth _ _ (Nat.ne_of_gt Sl) tn
  · intro T hT
    rcases List.mem_append.mp hT with hT | hT
    · obtain ⟨n1, n2, n3⟩ := I.new T hT
      exact ⟨n1, Nat.lt_of_lt_of_eq (show T < h.objs.size + 1 by exact Nat.lt_succ_of_lt n2) (usz.trans s1).symm, n3⟩
    · rw [List.mem_singleton.mp hT]
      exact ⟨I.sz, Nat.lt_of_lt_of_eq (Nat.lt_succ_self _) (usz.trans s1).symm, Nat.ne_of_gt Sl⟩
  · refine List.nodup_append.mpr ⟨I.nd, by simp, fun a ha b hb => ?_⟩
    rw [List.mem_singleton.mp hb]
    exact Nat.ne_of_lt (I.new a ha).2.1
  · obtain ⟨T0, b, e1, e2⟩ := zp
    exact ⟨T0, b, e1, oth _ _ (Ne.symm L.Sz) e2⟩
  · exact rw1.ext (fun p mp o e => oth _ _ (Ne.symm (L.S1 p mp)) e) fun p mp o e => oth _ _ (Ne.symm (L.S2 p mp)) e
  · intro a o ha hs e
    exact oth _ _ hs (out _ _ ha (I.out a o ha hs e))
  · rw [usz, s1]
    have := I.sz
    omega
set_option maxHeartbeats 3200000 in
theorem fill_loop (hh : A.handled = none) (Ap : Apart z TI TO qs) (L : Low g S z TI TO qs) (hn : qs ≠ []) (h64 : qs.length ≤ 64) (hm : cols.length ≤ 64) (hm1 : 1 ≤ cols.length) (HC : ∀ (i : Nat) (xs : List Value), cols[i]? = some xs → Col qs i xs) (HE : ∀ q ∈ qs, q.2.2[cols.length]? = none) (res : Value)
    (fin : ∀ h' Ts, LI g S z TI TO qs cols h' cols.length Ts → ∀ h2, (∀ a o, Out z TO qs a → h'.get? a = some o → h2.get? a = some o) → R (.ok (.ret res)) { s0 with heap := h2 }) :
    ∀ (r i : Nat) (h : Heap) (Ts : List Addr), cols.length - i = r → i ≤ cols.length → LI g S z TI TO qs cols h i Ts → codeAny (model prog w) A (.builtin "list.extend.loop" ⟨[.ref S, .ref z, res], []⟩) R { s0 with heap := h } := by
  intro r
  induction r with
  | zero =>
    intro i h Ts hr hi I
    have e : i = cols.length := by omega
    subst e
    refine codeAny_builtin F.entry_extend_loop ?_
    rw [Around.under_plainId F.plain_extend_loop _]
    show wpAny _ A.in1 (pyNext (.ref z) >>= _) _ _ _
    rcases I.zp with ⟨e, _⟩ | ⟨_, T0, b, e1, e2⟩
    · omega
    have hx0 : ∃ xs, cols[0]? = some xs := ⟨_, List.getElem?_eq_getElem (by omega)⟩
    obtain ⟨xs0, hx0⟩ := hx0
    refine wpAny_bind (py_end (s := { s0 with heap := h }) (A := A.in1) hh Ap e2 (I.tup 0 T0 xs0 e1 hx0) hn I.ti I.rw HE fun h2 out => ?_)
    exact wpAny_pure (fin h Ts I h2 out)
  | succ r ih =>
    intro i h Ts hr hi I
    have hlt : i < cols.length := by omega
    obtain ⟨xs, hx⟩ : ∃ xs, cols[i]? = some xs := ⟨_, List.getElem?_eq_getElem hlt⟩
    refine codeAny_builtin F.entry_extend_loop ?_
    rw [Around.under_plainId F.plain_extend_loop _]
    show wpAny _ A.in1 (pyNext (.ref z) >>= _) _ _ _
    have SO : Out z TO qs S := ⟨L.Sz, L.SO, L.S1⟩
    have go : ∀ h1, (∃ (T0 : Addr) (b : Bool), (Ts ++ [h.objs.size])[0]? = some T0 ∧ ZipAt h1 z TI TO (rawInt T0) b) → TupAt h1 TI (refs qs) → Rws h1 qs (i + 1) 0 → TupAt h1 h.objs.size xs.toArray → h1.objs.size = h.objs.size + 1 → (∀ c o, Out z TO qs c → h.get? c = some o → h1.get? c = some o) →
        wpAny (model prog w) A.in1 (updateSeq S (·.push (.ref h.objs.size)) >>= fun _ => again (.builtin "list.extend.loop" ⟨[.ref S, .ref z, res], []⟩)) (fun fin s' => match fin with | .done f => R (.ok f) s' | .again c' => c'.quiet = true ∧ codeAny (model prog w) A c' R s') (fun e s' => R (.error e) s') { s0 with heap := h1 } := by
      intro h1 zp ti rw1 tn s1 out
      obtain ⟨c0, hS0⟩ := I.ls
      have hS1 := out _ _ SO hS0
      refine wpAny_bind (wpAny_updateSeq (s := { s0 with heap := h1 }) hS1 rfl (wpAny_pure ⟨plainId_quiet F.plain_extend_loop _, ?_⟩) ?_ ?_)
      · exact ih (i + 1) _ _ (by omega) hlt (I.more Ap L hx hS1 zp ti rw1 tn s1 out)
      · have := I.len
        simp only [List.size_toArray, List.length_map]
        exact Nat.le_trans (show Ts.length ≤ 64 by omega) (by decide)
      · have := I.len
        simp only [List.size_toArray, List.length_map, Array.size_push]
        exact Nat.le_trans (show Ts.length + 1 ≤ 65 by omega) (by decide)
    rcases I.zp with ⟨e, z0, vs, o0, v0⟩ | ⟨_, T0, b, e1, e2⟩
    · refine wpAny_bind (py_free (s := { s0 with heap := h }) (A := A.in1) Ap z0 hn h64 I.ti o0 v0 I.rw (HC i xs hx) fun h1 a1 a2 a3 a4 a5 a6 => ?_)
      refine go h1 ⟨h.objs.size, false, ?_, a1⟩ a2 a3 a4 a5 a6
      have : Ts = [] := List.length_eq_zero_iff.mp (I.len.trans e)
      rw [this]
      rfl
    · have hx0 : ∃ xs, cols[0]? = some xs := ⟨_, List.getElem?_eq_getElem (by omega)⟩
      obtain ⟨xs0, hx0⟩ := hx0
      refine wpAny_bind (py_held (s := { s0 with heap := h }) (A := A.in1) Ap e2 (I.tup 0 T0 xs0 e1 hx0) hn h64 I.ti I.rw (HC i xs hx) fun h1 a1 a2 a3 a4 a5 a6 => ?_)
      refine go h1 ⟨T0, true, ?_, a1⟩ a2 a3 a4 a5 a6
      rw [List.getElem?_append_left (List.getElem?_eq_some_iff.mp e1).1]
      exact e1
end
end ZN
set_option Elab.async false
set_option linter.all false
set_option maxRecDepth 100000
namespace ZN
open PySem
theorem tc_zip {us : List Value} (h1 : us ≠ []) (h8 : us.length ≤ 8) : checkTypeCall "zip" ⟨us, []⟩ = pure () := by
  match us, h1, h8 with
  | [_], _, _ => kernel_rfl
  | [_, _], _, _ => kernel_rfl
  | [_, _, _], _, _ => kernel_rfl
  | [_, _, _, _], _, _ => kernel_rfl
  | [_, _, _, _, _], _, _ => kernel_rfl
  | [_, _, _, _, _, _], _, _ => kernel_rfl
  | [_, _, _, _, _, _, _], _, _ => kernel_rfl
  | [_, _, _, _, _, _, _, _], _, _ => kernel_rfl
  | _ :: _ :: _ :: _ :: _ :: _ :: _ :: _ :: _ :: _, _, h => simp at h
theorem tn_zip {us : List Value} (h1 : us ≠ []) (h8 : us.length ≤ 8) : checkBuiltinCall "zip.__new__" ⟨.type "zip" :: us, []⟩ = pure () := by
  match us, h1, h8 with
  | [_], _, _ => kernel_rfl
  | [_, _], _, _ => kernel_rfl
  | [_, _, _], _, _ => kernel_rfl
  | [_, _, _, _], _, _ => kernel_rfl
  | [_, _, _, _, _], _, _ => kernel_rfl
  | [_, _, _, _, _, _], _, _ => kernel_rfl
  | [_, _, _, _, _, _, _], _, _ => kernel_rfl
  | [_, _, _, _, _, _, _, _], _, _ => kernel_rfl
  | _ :: _ :: _ :: _ :: _ :: _ :: _ :: _ :: _ :: _, _, h => simp at h
theorem ti_zip {obj : Value} {us : List Value} (h1 : us ≠ []) (h8 : us.length ≤ 8) : argsOk "object.__init__" ⟨obj :: us, []⟩ := by
  unfold argsOk
  match us, h1, h8 with
  | [_], _, _ => kernel_rfl
  | [_, _], _, _ => kernel_rfl
  | [_, _, _], _, _ => kernel_rfl
  | [_, _, _, _], _, _ => kernel_rfl
  | [_, _, _, _, _], _, _ => kernel_rfl
  | [_, _, _, _, _, _], _, _ => kernel_rfl
  | [_, _, _, _, _, _, _], _, _ => kernel_rfl
  | [_, _, _, _, _, _, _, _], _, _ => kernel_rfl
  | _ :: _ :: _ :: _ :: _ :: _ :: _ :: _ :: _ :: _, _, h => simp at h
section
variable {prog : Program} {w : World} {A : Around} {E : Value → Shared → Prop} {s : Shared}
def made (n0 n : Nat) : Array Value := ((List.range n).map fun i => Value.ref (n0 + i)).toArray
set_option maxHeartbeats 1600000 in
theorem iters {ls : List Addr} {Q : List Value → Shared → Prop} (hl : ∀ l ∈ ls, ∃ items, s.heap.IsList l items)
    (hQ : ∀ h', h'.objs.size = s.heap.objs.size + ls.length → (∀ (i : Nat) (l : Addr), ls[i]? = some l → h'.IsListIter (s.heap.objs.size + i) l 0) → (∀ c o, s.heap.get? c = some o → h'.get? c = some o) → Q (made s.heap.objs.size ls.length).toList { s with heap := h' }) :
    wpAny (model prog w) A (Builtin.SmallTypes.iterAll (ls.map Value.ref)) Q E s := by
  unfold Builtin.SmallTypes.iterAll
  refine wpAny_bind ?_
  refine loop (l := ls.map Value.ref) (fun j => made s.heap.objs.size j) (fun j s' => ∃ h', s' = { s with heap := h' } ∧ h'.objs.size = s.heap.objs.size + j ∧ (∀ (i : Nat) (l : Addr), i < j → ls[i]? = some l → h'.IsListIter (s.heap.objs.size + i) l 0) ∧ ∀ c o, s.heap.get? c = some o → h'.get? c = some o) ?_ ?_ _ 0 _ rfl (Nat.zero_le _) ⟨s.heap, rfl, rfl, fun i l h => absurd h (Nat.not_lt_zero i), fun c o e => e⟩
  · rintro j v s' hj ⟨h1, rfl, z1, i1, k1⟩
    rw [List.getElem?_map] at hj
    obtain ⟨l, hlj, rfl⟩ := Option.map_eq_some_iff.mp hj
    obtain ⟨items, ⟨ol, hol, hc, hd⟩⟩ := hl l (List.mem_of_getElem? hlj)
    refine wpAny_bind (wpAny_holding (wpAny_pyIter_list (s := { s with heap := h1 }) ⟨ol, k1 _ _ hol, hc, hd⟩ ?_))
    refine wpAny_pure ⟨?_, _, rfl, ?_, ?_, ?_⟩
    · show ForInStep.yield ((made s.heap.objs.size j).push (.ref h1.objs.size)) = .yield (made s.heap.objs.size (j + 1))
      rw [z1]
      unfold made
      rw [List.range_succ, List.map_append]
      simp
    · show (h1.push _).objs.size = _
      rw [Heap.size_push, z1]
      omega
    · intro i l2 hi hl2
      by_cases e : i = j
      · subst e
        rw [hlj] at hl2
        cases hl2
        rw [← z1]
        exact ⟨_, Heap.get?_push_size _ rfl, rfl, rfl⟩
      · obtain ⟨o, a1, a2⟩ := i1 i l2 (by omega) hl2
        exact ⟨o, Heap.get?_push_of_some _ a1, a2⟩
    · intro c o e
      exact Heap.get?_push_of_some _ (k1 c o e)
  · rintro s' ⟨h1, rfl, z1, i1, k1⟩
    rw [List.length_map] at z1 i1 ⊢
    refine wpAny_pure (hQ h1 z1 (fun i l h => i1 i l (List.getElem?_eq_some_iff.mp h).1 h) k1)
set_option maxHeartbeats 1600000 in
theorem new_zip {ls : List Addr} (h8 : ls.length ≤ 8) : Meets (Builtin.«zip.__new__» ⟨.type "zip" :: ls.map Value.ref, []⟩) (fun _ R s => (∀ l ∈ ls, ∃ items, s.heap.IsList l items) ∧
      ∀ h', ZipAt h' (s.heap.objs.size + ls.length + 2) (s.heap.objs.size + ls.length) (s.heap.objs.size + ls.length + 1) .none false → TupAt h' (s.heap.objs.size + ls.length) (made s.heap.objs.size ls.length) → (∃ vs, TupAt h' (s.heap.objs.size + ls.length + 1) vs ∧ vs.size = ls.length) →
        (∀ (i : Nat) (l : Addr), ls[i]? = some l → h'.IsListIter (s.heap.objs.size + i) l 0) → h'.objs.size = s.heap.objs.size + ls.length + 3 → (∀ c o, s.heap.get? c = some o → h'.get? c = some o) →
        R (.ok (.ret (.ref (s.heap.objs.size + ls.length + 2)))) { s with heap := h' }) :=
  .of_wp fun prog w A R s h => by
    obtain ⟨hl, h⟩ := h
    have hsub := sub_zip
    unfold Builtin.«zip.__new__»
    generalize hI : Builtin.SmallTypes.iterAll = IA
    wp_walk
    subst hI
    refine iters hl fun h1 z1 i1 k1 => ?_
    have ml : (made s.heap.objs.size ls.length).toList.length = ls.length := by
      unfold made
      simp
    have b1 : (made s.heap.objs.size ls.length).toList.length ≤ sizeLine := by
      rw [ml]
      exact Nat.le_trans h8 (by decide)
    refine wpAny_bind (wpAny_newTuple ?_ b1)
    refine wpAny_bind (wpAny_newTuple ?_ (by rw [List.length_map]; exact b1))
    refine wpAny_bind ?_
    unfold Builtin.SmallTypes.newRecord
    refine wpAny_newObj_type ?_ (by unfold Builtin.SmallTypes.ownedTupleFields; first | size_fits | (simp [sizeOk]; done) | (unfold sizeOk; simp))
    refine wpAny_pure ⟨_, rfl, ?_⟩
    have e2 : (h1.push { cls := .type "tuple", data := .seq (made s.heap.objs.size ls.length).toList.toArray }).objs.size = s.heap.objs.size + ls.length + 1 := by rw [Heap.size_push, z1]
    have t2 : (h1.push { cls := .type "tuple", data := .seq (made s.heap.objs.size ls.length).toList.toArray }).get? h1.objs.size = some { cls := .type "tuple", data := .seq (made s.heap.objs.size ls.length) } := Heap.get?_push_size _ rfl
    rw [z1] at t2
    have k2 : ∀ c o, s.heap.get? c = some o → (h1.push { cls := .type "tuple", data := .seq (made s.heap.objs.size ls.length).toList.toArray }).get? c = some o := fun c o e => Heap.get?_push_of_some _ (k1 c o e)
    have i2 : ∀ (i : Nat) (l : Addr), ls[i]? = some l → (h1.push { cls := .type "tuple", data := .seq (made s.heap.objs.size ls.length).toList.toArray }).IsListIter (s.heap.objs.size + i) l 0 := fun i l e => by
      obtain ⟨o, a1, a2⟩ := i1 i l e
      exact ⟨o, Heap.get?_push_of_some _ a1, a2⟩
    show R (.ok (.ret (.ref ((h1.push { cls := .type "tuple", data := .seq (made s.heap.objs.size ls.length).toList.toArray }).push { cls := .type "tuple", data := .seq ((made s.heap.objs.size ls.length).toList.map fun _ => Value.none).toArray }).objs.size))) { s with heap := ((h1.push { cls := .type "tuple", data := .seq (made s.heap.objs.size ls.length).toList.toArray }).push { cls := .type "tuple", data := .seq ((made s.heap.objs.size ls.length).toList.map fun _ => Value.none).toArray }).push { cls := .type "zip", data := .fields #[.none, .bool false, .bool false, .ref h1.objs.size, .ref (h1.push { cls := .type "tuple", data := .seq (made s.heap.objs.size ls.length).toList.toArray }).objs.size] } }
    rw [z1]
    generalize h1.push { cls := .type "tuple", data := .seq (made s.heap.objs.size ls.length).toList.toArray } = h2 at *
    have e3 : (h2.push { cls := .type "tuple", data := .seq ((made s.heap.objs.size ls.length).toList.map fun _ => Value.none).toArray }).objs.size = s.heap.objs.size + ls.length + 2 := by rw [Heap.size_push, e2]
    have t3 : (h2.push { cls := .type "tuple", data := .seq ((made s.heap.objs.size ls.length).toList.map fun _ => Value.none).toArray }).get? h2.objs.size = some { cls := .type "tuple", data := .seq ((made s.heap.objs.size ls.length).toList.map fun _ => Value.none).toArray } := Heap.get?_push_size _ rfl
    rw [e2] at t3
    rw [e2]
    have k3 : ∀ c o, h2.get? c = some o → (h2.push { cls := .type "tuple", data := .seq ((made s.heap.objs.size ls.length).toList.map fun _ => Value.none).toArray }).get? c = some o := fun c o e => Heap.get?_push_of_some _ e
    generalize h2.push { cls := .type "tuple", data := .seq ((made s.heap.objs.size ls.length).toList.map fun _ => Value.none).toArray } = h3 at *
    have z4 : (h3.push { cls := .type "zip", data := .fields #[.none, .bool false, .bool false, .ref (s.heap.objs.size + ls.length), .ref (s.heap.objs.size + ls.length + 1)] }).get? h3.objs.size = some { cls := .type "zip", data := .fields #[.none, .bool false, .bool false, .ref (s.heap.objs.size + ls.length), .ref (s.heap.objs.size + ls.length + 1)] } := Heap.get?_push_size _ rfl
    rw [e3] at z4
    rw [e3]
    refine h _ z4 (Heap.get?_push_of_some _ (k3 _ _ t2)) ⟨_, Heap.get?_push_of_some _ t3, ?_⟩ (fun i l e => ?_) (by rw [Heap.size_push, e3]) fun c o e => Heap.get?_push_of_some _ (k3 _ _ (k2 c o e))
    · rw [List.size_toArray, List.length_map, ml]
    · obtain ⟨o, a1, a2⟩ := i2 i l e
      exact ⟨o, Heap.get?_push_of_some _ (k3 _ _ a1), a2⟩
/-- zip(*rows) -/
theorem call_zip {ls : List Addr} {Q : Value → Shared → Prop} (hn : ls ≠ []) (h8 : ls.length ≤ 8) (hl : ∀ l ∈ ls, ∃ items, s.heap.IsList l items)
    (h : ∀ h', ZipAt h' (s.heap.objs.size + ls.length + 2) (s.heap.objs.size + ls.length) (s.heap.objs.size + ls.length + 1) .none false → TupAt h' (s.heap.objs.size + ls.length) (made s.heap.objs.size ls.length) → (∃ vs, TupAt h' (s.heap.objs.size + ls.length + 1) vs ∧ vs.size = ls.length) →
        (∀ (i : Nat) (l : Addr), ls[i]? = some l → h'.IsListIter (s.heap.objs.size + i) l 0) → h'.objs.size = s.heap.objs.size + ls.length + 3 → (∀ c o, s.heap.get? c = some o → h'.get? c = some o) →
        Q (.ref (s.heap.objs.size + ls.length + 2)) { s with heap := h' }) : wpAny (model prog w) A (call (.type "zip") (ls.map Value.ref)) Q E s := by
  have h1 : ls.map Value.ref ≠ [] := by simpa using hn
  have h2 : (ls.map Value.ref).length ≤ 8 := by rw [List.length_map]; exact h8
  refine callType_new F.called_zip (by decide) (tc_zip h1 h2) (tn_zip h1 h2) (fun obj => ti_zip h1 h2) F.entry_zip_new (new_zip h8) ⟨hl, fun h' a b c d e f => ?_⟩
  exact ⟨⟨_, a, rfl⟩, h h' a b c d e f⟩
end
end ZN
set_option Elab.async false
set_option linter.all false
set_option maxRecDepth 100000
namespace ZN
open PySem
theorem zip_no_len : typeLookup (.type "zip") "__len__" = pure none := by rw [typeLookup_type, builtinLookup_eq_fast]; kernel_rfl
theorem zip_no_hint : typeLookup (.type "zip") "__length_hint__" = pure none := by rw [typeLookup_type, builtinLookup_eq_fast]; kernel_rfl
/-- what is asked of the rows and the columns -/
structure Tab (qs : List Rw) (cols : List (List Value)) : Prop where
  n1 : qs ≠ []
  n64 : qs.length ≤ 64
  m1 : 1 ≤ cols.length
  m64 : cols.length ≤ 64
  col : ∀ (i : Nat) (xs : List Value), cols[i]? = some xs → Col qs i xs
  fin : ∀ q ∈ qs, q.2.2[cols.length]? = none
section
variable {prog : Program} {w : World} {A : Around} {R : Result → Shared → Prop} {s0 : Shared} {g : Heap} {S z TI TO : Addr} {qs : List Rw} {cols : List (List Value)}
set_option maxHeartbeats 3200000 in
theorem extend (hh : A.handled = none) (Ap : Apart z TI TO qs) (L : Low g S z TI TO qs) (t : Tab qs cols) {h : Heap} {c0 : Nat} (hS : h.get? S = some { cls := .type "list", data := .seq #[] c0 }) (hz : ZipAt h z TI TO .none false) (hO : ∃ vs, TupAt h TO vs ∧ vs.size = qs.length) (hI : TupAt h TI (refs qs)) (hR : Rws h qs 0 0)
    (out : ∀ a o, Out z TO qs a → a ≠ S → g.get? a = some o → h.get? a = some o) (sz : g.objs.size ≤ h.objs.size)
    (fin : ∀ h' Ts, LI g S z TI TO qs cols h' cols.length Ts → ∀ h2, (∀ a o, Out z TO qs a → h'.get? a = some o → h2.get? a = some o) → R (.ok (.ret .none)) { s0 with heap := h2 }) :
    wpAny (model prog w) A.in1 (Builtin.List.listExtendWith (.ref S) (.ref z) .none) (fun fin s' => match fin with | .done f => R (.ok f) s' | .again c' => c'.quiet = true ∧ codeAny (model prog w) A c' R s') (fun e s' => R (.error e) s') { s0 with heap := h } := by
  have ty : Shared.TypeIs { s0 with heap := h } (.ref z) "zip" := ⟨_, hz, rfl⟩
  unfold Builtin.List.listExtendWith
  refine wpAny_bind (wpAny_typeOf ty ?_)
  have d1 : Builtin.List.listSameRef (.ref S) (.ref z) = false := by simp [Builtin.List.listSameRef, L.Sz]
  have d2 : (Value.type "zip" == Value.type "list") = false := by decide
  have d3 : (Value.type "zip" == Value.type "tuple") = false := by decide
  simp only [d1, d2, d3, Bool.or_false, Bool.false_eq_true, if_false]
  refine wpAny_bind (wpAny_pyIter_zip (s := { s0 with heap := h }) hz ?_)
  refine wpAny_bind (wpAny_holding ?_)
  unfold Builtin.List.listLengthHint
  refine wpAny_bind (wpAny_specialOf ty zip_no_len ?_)
  show wpAny _ A.in1 (specialOf (Value.ref z) (Str.ofString "__length_hint__") >>= _) _ _ _
  refine wpAny_bind (wpAny_specialOf ty zip_no_hint (wpAny_pure ?_))
  show wpAny _ A.in1 (rule "list.extend.makes-room" >>= fun _ => Builtin.List.listTouch (.ref S) >>= fun _ => again (.builtin "list.extend.loop" ⟨[.ref S, .ref z, .none], []⟩)) _ _ _
  refine wpAny_bind (wpAny_rule (wpAny_bind ?_))
  show wpAny _ A.in1 (updateSeq S (·.push .none) >>= fun _ => updateSeq S (·.pop)) _ _ _
  refine wpAny_bind (wpAny_updateSeq (s := { s0 with heap := h }) hS rfl ?_)
  have hS2 := Heap.get?_update_self (Obj.mapSeq (·.push Value.none)) hS rfl
  refine wpAny_updateSeq (hz := by seq_fits) hS2 rfl ?_
  have hS3 := Heap.get?_update_self (Obj.mapSeq (·.pop)) hS2 rfl
  have oth : ∀ b o, b ≠ S → h.get? b = some o → ((h.update S (Obj.mapSeq (·.push Value.none))).update S (Obj.mapSeq (·.pop))).get? b = some o := fun b o hb e => (Heap.get?_update_other _ _ (Ne.symm hb)).trans ((Heap.get?_update_other _ _ (Ne.symm hb)).trans e)
  have usz : ((h.update S (Obj.mapSeq (·.push Value.none))).update S (Obj.mapSeq (·.pop))).objs.size = h.objs.size := ((Heap.SameBut.update (h := h.update S (Obj.mapSeq (·.push Value.none))) (a := S) (f := Obj.mapSeq (·.pop))).1).trans (Heap.SameBut.update (h := h) (a := S) (f := Obj.mapSeq (·.push Value.none))).1
  refine wpAny_pure ⟨plainId_quiet F.plain_extend_loop _, ?_⟩
  refine fill_loop hh Ap L t.n1 t.n64 t.m64 t.m1 t.col t.fin .none fin cols.length 0 _ [] rfl (Nat.zero_le _) ?_
  obtain ⟨vs, o1, o2⟩ := hO
  refine ⟨⟨_, hS3⟩, rfl, fun j T xs hT => (by cases hT), fun T hT => (by cases hT), List.nodup_nil, .inl ⟨rfl, oth _ _ (Ne.symm L.Sz) hz, vs, oth _ _ (Ne.symm L.SO) o1, o2⟩, oth _ _ (Ne.symm L.ST) hI, ?_, fun a o ha hs e => oth _ _ hs (out a o ha hs e), by rw [usz]; exact sz⟩
  exact hR.ext (fun p mp o e => oth _ _ (Ne.symm (L.S1 p mp)) e) fun p mp o e => oth _ _ (Ne.symm (L.S2 p mp)) e
end
section
variable {prog : Program} {w : World} {A : Around} {E : Value → Shared → Prop} {s : Shared} {z TI TO : Addr} {qs : List Rw} {cols : List (List Value)}
set_option maxHeartbeats 3200000 in
theorem call_list {Q : Value → Shared → Prop} (hh : A.handled = none) (Ap : Apart z TI TO qs) (t : Tab qs cols) (hz : ZipAt s.heap z TI TO .none false) (hO : ∃ vs, TupAt s.heap TO vs ∧ vs.size = qs.length) (hI : TupAt s.heap TI (refs qs)) (hR : Rws s.heap qs 0 0)
    (hQ : ∀ (h' : Heap) (Ts : List Addr) (c : Nat), h'.get? s.heap.objs.size = some { cls := .type "list", dict := none, data := .seq (Ts.map Value.ref).toArray c, slots := #[] } → Ts.length = cols.length → (∀ (j : Nat) (T : Addr) (xs : List Value), Ts[j]? = some T → cols[j]? = some xs → TupAt h' T xs.toArray) →
      (∀ T ∈ Ts, s.heap.objs.size < T) → Ts.Nodup → (∀ a o, Out z TO qs a → s.heap.get? a = some o → h'.get? a = some o) → Q (.ref s.heap.objs.size) { s with heap := h' }) :
    wpAny (model prog w) A (call (.type "list") [.ref z]) Q E s := by
  have lt : ∀ {a o}, s.heap.get? a = some o → a < s.heap.objs.size := fun e => Heap.lt_size e
  obtain ⟨vs, o1, o2⟩ := hO
  have q1 : ∀ q ∈ qs, q.1 < s.heap.objs.size ∧ q.2.1 < s.heap.objs.size := fun q mq => by
    obtain ⟨i, hi, e⟩ := List.getElem_of_mem mq
    obtain ⟨⟨o, a1, _⟩, ⟨ol, b1, _⟩⟩ := hR i q (by rw [List.getElem?_eq_getElem hi, e])
    exact ⟨lt a1, lt b1⟩
  have L : Low s.heap s.heap.objs.size z TI TO qs := ⟨lt hz, lt hI, lt o1, fun q mq => (q1 q mq).1, Nat.ne_of_gt (lt hz), Nat.ne_of_gt (lt hI), Nat.ne_of_gt (lt o1), fun q mq => Nat.ne_of_gt (q1 q mq).1, fun q mq => Nat.ne_of_gt (q1 q mq).2⟩
  refine callType_codes (Q₁ := fun obj s₁ => obj = .ref s.heap.objs.size ∧ s₁ = { s with heap := s.heap.push { cls := .type "list", data := .seq #[] } }) F.called_list (F.typeCall_list_1 _) F.entry_list_init (code_list_new _ ⟨rfl, rfl⟩) fun obj s1 e1 => ?_
  obtain ⟨rfl, rfl⟩ := e1
  have hS : (s.heap.push { cls := .type "list", data := .seq #[] }).get? s.heap.objs.size = some { cls := .type "list", data := .seq #[] } := Heap.get?_push_size _ rfl
  have up : ∀ b o, s.heap.get? b = some o → (s.heap.push { cls := .type "list", data := .seq #[] }).get? b = some o := fun b o e => Heap.get?_push_of_some _ e
  have s1 : s.heap.objs.size ≤ (s.heap.push { cls := .type "list", data := .seq #[] }).objs.size := by
    rw [Heap.size_push]
    exact Nat.le_succ _
  refine ⟨⟨_, hS, rfl⟩, F.args_list_init_2 _ _, ?_⟩
  generalize s.heap.push { cls := .type "list", data := .seq #[] } = h1 at *
  show wpAny _ A.in1.in1 (do let old ← Builtin.List.listItems (.ref s.heap.objs.size); Builtin.List.listUpdate (.ref s.heap.objs.size) (fun _ => #[]); letGo old.toList.reverse; Builtin.List.listExtendWith (.ref s.heap.objs.size) (.ref z) .none) _ _ _
  refine wpAny_bind ?_
  unfold Builtin.List.listItems
  refine wpAny_bind (wpAny_seqItems (s := { s with heap := h1 }) hS rfl (wpAny_pure ?_))
  show wpAny _ A.in1.in1 (updateSeq s.heap.objs.size (fun _ => #[]) >>= fun _ => letGo (#[] : Array Value).toList.reverse >>= fun _ => Builtin.List.listExtendWith (.ref s.heap.objs.size) (.ref z) .none) _ _ _
  refine wpAny_bind (wpAny_updateSeq (s := { s with heap := h1 }) hS rfl ?_)
  have hS2 := Heap.get?_update_self (Obj.mapSeq (fun _ => (#[] : Array Value))) hS rfl
  have oth : ∀ b o, b ≠ s.heap.objs.size → h1.get? b = some o → (h1.update s.heap.objs.size (Obj.mapSeq (fun _ => (#[] : Array Value)))).get? b = some o := fun b o hb e => (Heap.get?_update_other _ _ (Ne.symm hb)).trans e
  have usz : (h1.update s.heap.objs.size (Obj.mapSeq (fun _ => (#[] : Array Value)))).objs.size = h1.objs.size := (Heap.SameBut.update (h := h1) (a := s.heap.objs.size) (f := Obj.mapSeq (fun _ => (#[] : Array Value)))).1
  refine wpAny_bind (wpAny_letGo ?_)
  refine extend (A := A.in1) (s0 := s) hh Ap L t hS2 (oth _ _ (Ne.symm L.Sz) (up _ _ hz)) ⟨vs, oth _ _ (Ne.symm L.SO) (up _ _ o1), o2⟩ (oth _ _ (Ne.symm L.ST) (up _ _ hI)) ?_ (fun a o ha hs e => oth _ _ hs (up _ _ e)) (by rw [usz]; exact s1) fun h' Ts li h2 k2 => ?_
  · exact hR.ext (fun p mp o e => oth _ _ (Ne.symm (L.S1 p mp)) (up _ _ e)) fun p mp o e => oth _ _ (Ne.symm (L.S2 p mp)) (up _ _ e)
  · have SO : Out z TO qs s.heap.objs.size := ⟨L.Sz, L.SO, L.S1⟩
    obtain ⟨c, e⟩ := li.ls
    refine ⟨rfl, hQ h2 Ts c (k2 _ _ SO e) li.len (fun j T xs hT hx => ?_) (fun T hT => ?_) li.nd fun a o ha e => ?_⟩
    · exact k2 _ _ (L.out (li.new T (List.mem_of_getElem? hT)).1) (li.tup j T xs hT hx)
    · obtain ⟨n1, _, n3⟩ := li.new T hT
      exact Nat.lt_of_le_of_ne n1 (Ne.symm n3)
    · have hs : a ≠ s.heap.objs.size := Nat.ne_of_lt (lt e)
      exact k2 _ _ ha (li.out a o ha hs e)
end
end ZN
set_option Elab.async false
set_option linter.all false
set_option maxRecDepth 100000
/-! list(zip(*rows)) -/
namespace ZN
open PySem PySem.Spec PyProof.Rows L2
/-! ### several new objects, tracked at once -/
section
variable {X : Cx} {pins : List (Addr × Obj)} {σ : L2.St} {H H2 : Hp} {s : Shared} {h' : Heap}
theorem un_all {fs ex : List Addr} {g : Heap} (k : ∀ b u, g.get? b = some u → h'.get? b = some u) (sm : ∀ b o, H b = some o → H2 b = some o) (hi : ∀ b o, H b = none → H2 b = some o → g.objs.size ≤ b) : Un fs ex H H2 g h' where
  keep := fun b u q _ _ _ => k b u q
  slot := fun b u q _ _ _ => ⟨u.slots, k b u q⟩
  free := fun b u q n _ => by
    cases e : H2 b with
    | none => rfl
    | some o => exact absurd (hi b o n e) (Nat.not_le_of_lt (Heap.lt_size q))
  there := fun b u q _ => ⟨u, k b u q⟩
  tups := fun b xs q => sm _ _ q
  frzs := fun b u xs q => sm _ _ q
  tbls := fun b ps q => ⟨#[], by rw [sm _ _ q]; simp⟩
theorem hok_all {P : Program} {w : World} {g : Heap} (x : HOk P w H g) (k : ∀ b u, g.get? b = some u → h'.get? b = some u) (sm : ∀ b o, H b = some o → H2 b = some o) (new : ∀ b o, H b = none → H2 b = some o → ObjOk P w H2 h' b o) : HOk P w H2 h' := fun b o e => by
  cases q : H b with
  | none => exact new b o q e
  | some u =>
    have : u = o := by
      have := sm _ _ q
      rw [e] at this
      exact (Option.some.inj this).symm
    subst this
    exact (x b u q).stay (fun c v _ z => k c v z) (fun c z => sm _ _ z) fun c xs z => sm _ _ z
theorem laidAll (I : Inv X pins σ H s) (k : ∀ b u, s.heap.get? b = some u → h'.get? b = some u) (sm : ∀ b o, H b = some o → H2 b = some o) (hi : ∀ b o, H b = none → H2 b = some o → s.heap.objs.size ≤ b) (new : ∀ b o, H b = none → H2 b = some o → ObjOk X.prog X.w H2 h' b o) : Inv X pins σ H2 { s with heap := h' } :=
  I.call (ch := []) (g' := s.gens) (t' := s.toks) (d' := s.drawn) (un_all k sm hi) (hok_all I.hok k sm new) I.bare fun _ z => nomatch z
end
/-! ### lists of rows -/
def mkq : Nat → List Addr → List (Array Value) → List Rw
  | n, l :: ls, a :: as => (n, l, a) :: mkq (n + 1) ls as
  | _, _, _ => []
theorem mkq_len : ∀ (n : Nat) (ls : List Addr) (as : List (Array Value)), as.length = ls.length → (mkq n ls as).length = ls.length
  | _, [], [], _ => rfl
  | n, l :: ls, a :: as, h => by
    show (mkq (n + 1) ls as).length + 1 = ls.length + 1
    rw [mkq_len (n + 1) ls as (by simpa using h)]
theorem mkq_at : ∀ (n : Nat) (ls : List Addr) (as : List (Array Value)) (i : Nat) (q : Rw), (mkq n ls as)[i]? = some q → @Eq Nat q.1 (n + i) ∧ ls[i]? = some q.2.1 ∧ as[i]? = some q.2.2
  | n, l :: ls, a :: as, 0, q, h => by
    have := Option.some.inj h
    rw [← this]
    exact ⟨rfl, rfl, rfl⟩
  | n, l :: ls, a :: as, i + 1, q, h => by
    obtain ⟨h1, h2, h3⟩ := mkq_at (n + 1) ls as i q h
    exact ⟨h1.trans (by rw [Nat.add_assoc, Nat.add_comm 1 i]), h2, h3⟩
  | _, [], _, _, _, h => by simp [mkq] at h
  | _, _ :: _, [], _, _, h => by simp [mkq] at h
theorem refs_mkq (n : Nat) (ls : List Addr) (as : List (Array Value)) (h : as.length = ls.length) : refs (mkq n ls as) = made n ls.length := by
  unfold refs made
  congr 1
  apply List.ext_getElem?
  intro i
  rw [List.getElem?_map, List.getElem?_map]
  by_cases hi : i < ls.length
  · obtain ⟨q, hq⟩ : ∃ q, (mkq n ls as)[i]? = some q := ⟨_, List.getElem?_eq_getElem (by rw [mkq_len n ls as h]; exact hi)⟩
    rw [hq, List.getElem?_range hi]
    show some (Value.ref q.1) = some (Value.ref (n + i))
    rw [(mkq_at n ls as i q hq).1]
  · rw [List.getElem?_eq_none (by rw [mkq_len n ls as h]; omega), List.getElem?_eq_none (by rw [List.length_range]; omega)]
    rfl
/-- the rows' items, as they stand in the heap -/
theorem arrs {X : Cx} {pins : List (Addr × Obj)} {σ : L2.St} {H : Hp} {s : Shared} (I : Inv X pins σ H s) : ∀ (ls : List Addr) (rows : List (List V)), rows.length = ls.length → (∀ (i : Nat) (l : Addr) (r : List V), ls[i]? = some l → rows[i]? = some r → SqL X.K H l r) →
    ∃ as : List (Array Value), as.length = ls.length ∧ ∀ (i : Nat) (l : Addr) (r : List V) (a : Array Value), ls[i]? = some l → rows[i]? = some r → as[i]? = some a → s.heap.IsList l a ∧ Vals r a.toList
  | [], [], _, _ => ⟨[], rfl, fun i l r a h => by cases h⟩
  | l :: ls, r :: rows, h, hs => by
    obtain ⟨as, e, k⟩ := arrs I ls rows (by simpa using h) fun i l r h1 h2 => hs (i + 1) l r h1 h2
    obtain ⟨its, rv, pl, _⟩ := I.list (hs 0 l r rfl rfl)
    refine ⟨its.toArray :: as, by simp [e], fun i l2 r2 a h1 h2 h3 => ?_⟩
    cases i with
    | zero =>
      cases h1
      cases h2
      cases h3
      exact ⟨pl.isList, by simpa using rv⟩
    | succ i => exact k i l2 r2 a h1 h2 h3
theorem vals_refs : ∀ (ls : List Addr) (us : List Value), Vals (ls.map V.ref) us → us = ls.map Value.ref
  | [], us, h => by
    cases h
    rfl
  | l :: ls, us, h => by
    cases h with
    | cons h1 h2 =>
      have e1 : _ = Value.ref l := h1
      rw [e1, vals_refs ls _ h2]
      rfl
theorem vals_of : ∀ (xs : List V) (us : List Value), xs.length = us.length → (∀ (i : Nat) (x : V) (u : Value), xs[i]? = some x → us[i]? = some u → RelV x u) → Vals xs us
  | [], [], _, _ => .nil
  | x :: xs, u :: us, h, k => .cons (k 0 x u rfl rfl) (vals_of xs us (by simpa using h) fun i y v h1 h2 => k (i + 1) y v h1 h2)
theorem vals_get {r : List V} {us : List Value} (h : Vals r us) : ∀ (k : Nat) (x : V), r[k]? = some x → ∃ u, us[k]? = some u ∧ RelV x u := by
  induction h with
  | nil =>
    intro k x e
    cases e
  | cons h1 h2 ih =>
    intro k x e
    cases k with
    | zero =>
      cases e
      exact ⟨_, rfl, h1⟩
    | succ k => exact ih k x e
def tZipS (K : PySem.W.Frag) (te : TE) : TE := fun σ H Q => te σ H fun x H1 => ∃ (a : Addr) (ls : List Addr) (rows : List (List V)) (m : Nat), x = .ref a ∧ SqL K H1 a (ls.map V.ref) ∧ rows.length = ls.length ∧ (∀ (i : Nat) (l : Addr) (r : List V), ls[i]? = some l → rows[i]? = some r → SqL K H1 l r) ∧ (∀ r ∈ rows, r.length = m) ∧
  ls ≠ [] ∧ ls.length ≤ 8 ∧ 1 ≤ m ∧ m ≤ 64 ∧ ∀ (p : Addr) (Ts : List Addr) (H2 : Hp), (∀ b o, H1 b = some o → H2 b = some o) → H1 p = none → H2 p = some (.lst (Ts.map V.ref)) → Ts.length = m → (∀ (j : Nat) (T : Addr), Ts[j]? = some T → H1 T = none ∧ H2 T = some (.tup (rows.map fun r => r.getD j .non))) → Q (.ref p) H2
/-- H with new objects -/
def putAll (H : Hp) (p : Addr) (o : HO) (ks : List (Addr × HO)) : Hp := fun b => if b = p then some o else match ks.lookup b with | some u => some u | none => H b
theorem lookup_zip : ∀ (Ts : List Addr) (os : List HO) (j : Nat) (T : Addr) (o : HO), Ts.Nodup → Ts[j]? = some T → os[j]? = some o → (Ts.zip os).lookup T = some o
  | t :: Ts, u :: os, 0, T, o, nd, h1, h2 => by
    cases h1
    cases h2
    simp
  | t :: Ts, u :: os, j + 1, T, o, nd, h1, h2 => by
    have ne : T ≠ t := fun z => (List.nodup_cons.mp nd).1 (z ▸ List.mem_of_getElem? h1)
    show (match T == t with | true => some u | false => (Ts.zip os).lookup T) = some o
    rw [beq_eq_false_iff_ne.mpr ne]
    exact lookup_zip Ts os j T o (List.nodup_cons.mp nd).2 h1 h2
theorem lookup_in : ∀ (Ts : List Addr) (os : List HO) (b : Addr) (o : HO), (Ts.zip os).lookup b = some o → ∃ j : Nat, Ts[j]? = some b ∧ os[j]? = some o
  | [], _, b, o, h => by simp at h
  | _ :: _, [], b, o, h => by simp at h
  | t :: Ts, u :: os, b, o, h => by
    have h : (match b == t with | true => some u | false => (Ts.zip os).lookup b) = some o := h
    cases e : b == t with
    | true =>
      rw [e] at h
      cases h
      exact ⟨0, by rw [eq_of_beq e]; rfl, rfl⟩
    | false =>
      rw [e] at h
      obtain ⟨j, h1, h2⟩ := lookup_in Ts os b o h
      exact ⟨j + 1, h1, h2⟩
section
variable {X : Cx} {e : Expr} {te : TE} {p1 p2 p3 p4 p5 : Pos}
set_option maxHeartbeats 6400000 in
theorem pe_listZip (hc : X.calm = true) (hgl : Gl X "list") (hml : X.mg "list" = none) (hgz : Gl X "zip") (hmz : X.mg "zip" = none) (he : PE X e te)
    (h1 : starEach [.Call (.Name "zip" p2) [.Starred e p3] [] p4] X.env = [(false, eval (.Call (.Name "zip" p2) [.Starred e p3] [] p4) X.env)] := by rfl) (h2 : starEach [.Starred e p3] X.env = [(true, eval e X.env)] := by rfl) :
    PE X (.Call (.Name "list" p1) [.Call (.Name "zip" p2) [.Starred e p3] [] p4] [] p5) (tZipS X.K te) := by
  refine ⟨fun pins s σ H Q I h => ?_⟩
  refine wpAny_Call_Name_kw (ld_blt I hgl hml (u := .type "list") (by decide +kernel) ?_)
  refine PyProof.Rows.callWith_type1 ?_ h1 rfl
  rw [h1]
  show wpAny _ _ (spliced ((false, eval (.Call (.Name "zip" p2) [.Starred e p3] [] p4) X.env) :: backTo p5 (starEach [] X.env))) _ _ s
  refine Calls.spliced_cons ?_
  refine wpAny_Call_Name_kw (ld_blt I hgz hmz (u := .type "zip") (by decide +kernel) ?_)
  rw [h2]
  refine PySem.W.ks_call (P := fun _ => True) rfl (fun _ _ => ⟨.machine, .inr (.inl rfl), PySem.W.Looks.of_pure rfl⟩) (PySem.W.ks_lone ?_)
  refine thn (he.run pins s σ H _ I h) fun v s1 hv => ?_
  obtain ⟨y, H1, I1, ry, a, ls, rows, m, ey, hx, rl, rs, rm, n0, n8, m1, m64, q⟩ := hv
  subst ey
  obtain rfl : v = Value.ref a := ry
  refine StX.star_any I1 (.inr hx) fun us s2 I2 rv => ⟨True.intro, ?_⟩
  rw [vals_refs ls us rv]
  show wpAny _ _ (call (.type "zip") (ls.map Value.ref)) _ _ s2
  obtain ⟨as, al, ai⟩ := arrs I2 ls rows rl rs
  have rat : ∀ (i : Nat) (l : Addr), ls[i]? = some l → ∃ r a, rows[i]? = some r ∧ as[i]? = some a := fun i l hl => by
    have hi := (List.getElem?_eq_some_iff.mp hl).1
    exact ⟨_, _, List.getElem?_eq_getElem (by omega), List.getElem?_eq_getElem (by omega)⟩
  refine call_zip n0 n8 (fun l hl => ?_) fun h' zz zI zO it sz k => ?_
  · obtain ⟨i, hi, e⟩ := List.getElem_of_mem hl
    obtain ⟨r, a2, hr, ha⟩ := rat i l (by rw [List.getElem?_eq_getElem hi, e])
    exact ⟨_, (ai i l r a2 (by rw [List.getElem?_eq_getElem hi, e]) hr ha).1⟩
  -- the list of it
  refine PyProof.Rows.spliced_none ?_
  have hq : ∀ (i : Nat) (q : Rw), (mkq s2.heap.objs.size ls as)[i]? = some q → @Eq Nat q.1 (s2.heap.objs.size + i) ∧ ls[i]? = some q.2.1 ∧ as[i]? = some q.2.2 := mkq_at _ ls as
  have low : ∀ l ∈ ls, l < s2.heap.objs.size := fun l hl => by
    obtain ⟨i, hi, e⟩ := List.getElem_of_mem hl
    have e2 : ls[i]? = some l := by rw [List.getElem?_eq_getElem hi, e]
    obtain ⟨r, a2, hr, ha⟩ := rat i l e2
    obtain ⟨o, ho, _⟩ := (ai i l r a2 e2 hr ha).1
    exact Heap.lt_size ho
  have qm : ∀ q ∈ mkq s2.heap.objs.size ls as, ∃ i : Nat, i < ls.length ∧ @Eq Nat q.1 (s2.heap.objs.size + i) ∧ @LT.lt Nat _ q.2.1 s2.heap.objs.size := fun q mq => by
    obtain ⟨i, hi, e⟩ := List.getElem_of_mem mq
    obtain ⟨e1, e2, e3⟩ := hq i q (by rw [List.getElem?_eq_getElem hi, e])
    exact ⟨i, (List.getElem?_eq_some_iff.mp e2).1, e1, low _ (List.mem_of_getElem? e2)⟩
  have Ap : Apart (s2.heap.objs.size + ls.length + 2) (s2.heap.objs.size + ls.length) (s2.heap.objs.size + ls.length + 1) (mkq s2.heap.objs.size ls as) := by
    refine ⟨by change @Ne Nat _ _; omega, by change @Ne Nat _ _; omega, by change @Ne Nat _ _; omega, fun q mq => ?_, fun q mq => ?_, fun i j p q hp hq2 ne => ?_, fun p mp q mq => ?_⟩
    · obtain ⟨i, i1, i2, i3⟩ := qm q mq
      refine ⟨?_, ?_, ?_⟩ <;> (change @Ne Nat _ _; omega)
    · obtain ⟨i, i1, i2, i3⟩ := qm q mq
      refine ⟨?_, ?_⟩ <;> (change @Ne Nat _ _; omega)
    · have a1 := (hq i p hp).1
      have a2 := (hq j q hq2).1
      change @Ne Nat _ _
      omega
    · obtain ⟨i, i1, i2, i3⟩ := qm p mp
      obtain ⟨j, j1, j2, j3⟩ := qm q mq
      change @Ne Nat _ _
      omega
  have vk : ∀ (i : Nat) (l : Addr) (r : List V) (a : Array Value), ls[i]? = some l → rows[i]? = some r → as[i]? = some a → Vals r a.toList ∧ a.size = m := fun i l r a2 x1 x2 x3 => by
    obtain ⟨_, v⟩ := ai i l r a2 x1 x2 x3
    refine ⟨v, ?_⟩
    have := v.length
    rw [rm r (List.mem_of_getElem? x2)] at this
    simpa using this.symm
  have asz : ∀ (i : Nat) (a : Array Value), as[i]? = some a → a.size = m := fun i a2 x3 => by
    have hi := (List.getElem?_eq_some_iff.mp x3).1
    exact (vk i _ _ a2 (List.getElem?_eq_getElem (by omega)) (List.getElem?_eq_getElem (by omega)) x3).2
  have T : Tab (mkq s2.heap.objs.size ls as) ((List.range m).map fun k => as.map fun a => a.getD k .none) := by
    refine ⟨fun z => ?_, ?_, by simp; exact m1, by simp; exact m64, fun i xs hx => ?_, fun q mq => ?_⟩
    · have := mkq_len s2.heap.objs.size ls as al
      rw [z] at this
      exact n0 (List.length_eq_zero_iff.mp this.symm)
    · rw [mkq_len _ _ _ al]
      omega
    · rw [List.getElem?_map] at hx
      obtain ⟨k2, hk2, rfl⟩ := Option.map_eq_some_iff.mp hx
      have hk : i < m := by
        have := (List.getElem?_eq_some_iff.mp hk2).1
        simpa using this
      rw [List.getElem?_range hk] at hk2
      cases hk2
      refine ⟨by rw [List.length_map, mkq_len _ _ _ al, al], fun j q x hj hx => ?_⟩
      obtain ⟨_, _, e3⟩ := hq j q hj
      rw [List.getElem?_map, e3] at hx
      have := Option.some.inj hx
      have sz2 := asz j _ e3
      rw [← this]
      simp [Array.getD, sz2, hk]
    · obtain ⟨i, hi, e⟩ := List.getElem_of_mem mq
      obtain ⟨_, _, e3⟩ := hq i q (by rw [List.getElem?_eq_getElem hi, e])
      have := asz i _ e3
      simp [this]
  have R0 : Rws h' (mkq s2.heap.objs.size ls as) 0 0 := fun i q hi => by
    obtain ⟨e1, e2, e3⟩ := hq i q hi
    obtain ⟨r, a2, hr, ha⟩ := rat i _ e2
    rw [if_neg (Nat.not_lt_zero i), e1]
    refine ⟨it i _ e2, ?_⟩
    rw [ha] at e3
    cases e3
    obtain ⟨o, ho, hh⟩ := (ai i _ r _ e2 hr ha).1
    exact ⟨o, k _ _ ho, hh⟩
  refine call_list (s := { s2 with heap := h' }) (I2.ok.hd hc) Ap T zz ?_ ?_ R0 fun h3 Ts c e1 e2 e3 e4 e5 e6 => ?_
  · obtain ⟨vs, v1, v2⟩ := zO
    exact ⟨vs, v1, by rw [v2, mkq_len _ _ _ al]⟩
  · rw [refs_mkq _ _ _ al]
    exact zI
  -- the tracked heap
  rw [List.length_map, List.length_range] at e2
  have hsz : h'.objs.size = s2.heap.objs.size + ls.length + 3 := sz
  have kk : ∀ b u, s2.heap.get? b = some u → h3.get? b = some u := fun b u eb => by
    have lt : @LT.lt Nat _ b s2.heap.objs.size := Heap.lt_size eb
    refine e6 b u ⟨by change @Ne Nat _ _; omega, by change @Ne Nat _ _; omega, fun q mq => ?_⟩ (k b u eb)
    obtain ⟨i, _, i2, _⟩ := qm q mq
    change @Ne Nat _ _
    omega
  have fresh : ∀ b, s2.heap.objs.size ≤ b → H1 b = none := fun b hb => I2.hok.fresh hb
  have nS : h'.objs.size ∉ Ts := fun z => Nat.lt_irrefl _ (e4 _ z)
  have in3 : ∀ (j : Nat) (T : Addr), Ts[j]? = some T → ∃ hj : j < m, TupAt h3 T (as.map fun a => a.getD j .none).toArray := fun j T hT => by
    have hj : j < m := by
      have := (List.getElem?_eq_some_iff.mp hT).1
      omega
    refine ⟨hj, e3 j T _ hT ?_⟩
    rw [List.getElem?_map, List.getElem?_range hj]
    rfl
  have vcol : ∀ j, j < m → Vals (rows.map fun r => r.getD j .non) (as.map fun a => a.getD j .none) := fun j hj => by
    refine vals_of _ _ (by rw [List.length_map, List.length_map, rl, al]) fun i x u hx hu => ?_
    rw [List.getElem?_map] at hx hu
    obtain ⟨r, hr, rfl⟩ := Option.map_eq_some_iff.mp hx
    obtain ⟨a2, ha, rfl⟩ := Option.map_eq_some_iff.mp hu
    have hi := (List.getElem?_eq_some_iff.mp hr).1
    obtain ⟨v, sz2⟩ := vk i _ r a2 (List.getElem?_eq_getElem (by omega)) hr ha
    have hl := rm r (List.mem_of_getElem? hr)
    obtain ⟨u, hu2, ru⟩ := vals_get v j r[j] (List.getElem?_eq_getElem (by omega))
    have g1 : r.getD j .non = r[j] := by simp [List.getD, show j < r.length by omega]
    have g2 : a2.getD j .none = u := by
      rw [Array.getElem?_toList] at hu2
      simp [Array.getD, show j < a2.size by omega]
      rw [Array.getElem?_eq_getElem (by omega)] at hu2
      exact Option.some.inj hu2
    rw [g1, g2]
    exact ru
  refine ⟨.ref h'.objs.size, putAll H1 h'.objs.size (.lst (Ts.map V.ref)) (Ts.zip ((List.range m).map fun j => HO.tup (rows.map fun r => r.getD j .non))), ?_, rfl, ?_⟩
  · have base : ∀ b o, H1 b = none → putAll H1 h'.objs.size (.lst (Ts.map V.ref)) (Ts.zip ((List.range m).map fun j => HO.tup (rows.map fun r => r.getD j .non))) b = some o → (b = h'.objs.size ∧ o = .lst (Ts.map V.ref)) ∨ ∃ j, j < m ∧ Ts[j]? = some b ∧ o = .tup (rows.map fun r => r.getD j .non) := fun b o hb e => by
      unfold putAll at e
      by_cases eb : b = h'.objs.size
      · rw [if_pos eb] at e
        exact .inl ⟨eb, (Option.some.inj e).symm⟩
      · rw [if_neg eb] at e
        cases lk : (Ts.zip ((List.range m).map fun j => HO.tup (rows.map fun r => r.getD j .non))).lookup b with
        | none =>
          rw [lk, hb] at e
          cases e
        | some u =>
          rw [lk] at e
          obtain ⟨j, j1, j2⟩ := lookup_in _ _ _ _ lk
          rw [List.getElem?_map] at j2
          obtain ⟨k2, hk2, rfl⟩ := Option.map_eq_some_iff.mp j2
          have hj : j < m := by
            have := (List.getElem?_eq_some_iff.mp hk2).1
            simpa using this
          rw [List.getElem?_range hj] at hk2
          cases hk2
          exact .inr ⟨j, hj, j1, (Option.some.inj e).symm⟩
    refine laidAll (s := s2) (h' := h3) I2 kk (fun b o eb => ?_) (fun b o hb e => ?_) fun b o hb e => ?_
    · unfold putAll
      have lt : b < s2.heap.objs.size := Nat.lt_of_not_le fun z => by
        rw [fresh b z] at eb
        cases eb
      rw [if_neg (show ¬ b = h'.objs.size from fun z => by have z : @Eq Nat b h'.objs.size := z; have lt : @LT.lt Nat _ b s2.heap.objs.size := lt; omega)]
      cases lk : (Ts.zip ((List.range m).map fun j => HO.tup (rows.map fun r => r.getD j .non))).lookup b with
      | none => exact eb
      | some u =>
        obtain ⟨j, j1, _⟩ := lookup_in _ _ _ _ lk
        have g4 : @LT.lt Nat _ h'.objs.size b := e4 b (List.mem_of_getElem? j1)
        have lt : @LT.lt Nat _ b s2.heap.objs.size := lt
        omega
    · rcases base b o hb e with ⟨z, _⟩ | ⟨j, _, z, _⟩
      · have z : @Eq Nat b h'.objs.size := z
        show @LE.le Nat _ _ _
        omega
      · have g4 : @LT.lt Nat _ h'.objs.size b := e4 b (List.mem_of_getElem? z)
        show @LE.le Nat _ _ _
        omega
    · rcases base b o hb e with ⟨z, zo⟩ | ⟨j, hj, z, zo⟩
      · rw [z, zo]
        refine ⟨?_, Ts.map Value.ref, c, ?_, e1⟩
        · rw [List.length_map, e2]
          exact Nat.le_trans m64 (by decide)
        · refine vals_of _ _ (by rw [List.length_map, List.length_map]) fun i x u hx hu => ?_
          rw [List.getElem?_map] at hx hu
          obtain ⟨t1, ht1, rfl⟩ := Option.map_eq_some_iff.mp hx
          obtain ⟨t2, ht2, rfl⟩ := Option.map_eq_some_iff.mp hu
          rw [ht1] at ht2
          cases ht2
          exact rfl
      · rw [zo]
        obtain ⟨_, tt⟩ := in3 j b z
        refine ⟨?_, as.map fun a => a.getD j .none, vcol j hj, ⟨_, tt, rfl, _, rfl⟩⟩
        rw [List.length_map, rl]
        exact Nat.le_trans n8 (by decide)
  · refine q _ Ts _ (fun b o eb => ?_) (fresh _ (by omega)) (by unfold putAll; rw [if_pos rfl]) e2 fun j T hT => ?_
    · unfold putAll
      have lt : b < s2.heap.objs.size := Nat.lt_of_not_le fun z => by
        rw [fresh b z] at eb
        cases eb
      rw [if_neg (show ¬ b = h'.objs.size from fun z => by have z : @Eq Nat b h'.objs.size := z; have lt : @LT.lt Nat _ b s2.heap.objs.size := lt; omega)]
      cases lk : (Ts.zip ((List.range m).map fun j => HO.tup (rows.map fun r => r.getD j .non))).lookup b with
      | none => exact eb
      | some u =>
        obtain ⟨j, j1, _⟩ := lookup_in _ _ _ _ lk
        have g4 : @LT.lt Nat _ h'.objs.size b := e4 b (List.mem_of_getElem? j1)
        have lt : @LT.lt Nat _ b s2.heap.objs.size := lt
        omega
    · have lt : @LT.lt Nat _ h'.objs.size T := e4 T (List.mem_of_getElem? hT)
      obtain ⟨hj, _⟩ := in3 j T hT
      refine ⟨fresh _ (by omega), ?_⟩
      unfold putAll
      rw [if_neg (show ¬ T = h'.objs.size from fun z => by have z : @Eq Nat T h'.objs.size := z; omega), lookup_zip Ts _ j T (.tup (rows.map fun r => r.getD j .non)) e5 hT (by rw [List.getElem?_map, List.getElem?_range hj]; rfl)]
end
end ZN
set_option Elab.async false
set_option linter.all false
set_option maxRecDepth 100000
/-! pairs of states that can be merged -/
namespace Lw
open PySem L2
abbrev sMP : Stmt := top 18
abbrev NMP : List Str := ["graph", "counts", "columns", "one", "other"]
def spMP (C : Addr) : Sp := fun vs H Q _ => ∃ (g : Addr) (n : Nat) (ps : Ps), vs = [.ref g] ∧ Gok C H g n ps ∧ ∀ (D : Addr) (H' : Hp) (us : Es), Same H H' → H D = none → LsAt H' D us → psOf us = mrgs n ps → Q (.ref D) H'
theorem sh_col (xs : List Int) : SeqAt.shaped (.tuple (xs.map PyData.int)) = true := sh_ints xs
theorem eqv_tup (xs ys : List Int) : PyData.eqv (.tuple (xs.map PyData.int)) (.tuple (ys.map PyData.int)) = decide (xs = ys) := eqv_ints xs ys
section
variable {P : Program} {w : World} {K : PySem.W.Frag} {mg : Str → Option Value} {base : Heap} {f C CM : Addr} {mc : Value} {fd : FuncData} {k : Nat}
theorem scMP : FnScope NMP ["graph"] (defScope sMP) := ⟨rfl, rfl, rfl, by decide +kernel, rfl, by decide +kernel, by decide +kernel⟩
abbrev tPair : TE := tTup (tCons (tVar 3) (tCons (tVar 4) tNil))
abbrev tCols (K : PySem.W.Frag) : TT := tTest (tOp (rEqD K) (tOp (rIxL K) (tVar 2) (tVar 3)) (tOp (rIxL K) (tVar 2) (tVar 4)))
set_option maxHeartbeats 8000000 in
theorem ok_mp (F : Fun K "merge_pairs" "merge_pairs" sMP f fd) (T : Bi mg) (mC : C8.Met P w K mg base 1 C "counts" (spCounts C) []) (pS : Prp P w K mg base 1 C "states" (spStates C)) : FnOk P w K mg base CX0 (k + 3) f fd ["graph"] (spMP C) := by
  refine F.ok scMP (fun vs H Q E h => ?_) (fun cdv A outer s H vs Q E hr h => ?_)
  · obtain ⟨g, n, ps, rfl, _⟩ := h
    rfl
  · obtain ⟨g, n, ps, rfl, G, q⟩ := h
    obtain ⟨us, GA, eu⟩ := G.at_
    obtain ⟨⟨dg, t, h1, h2⟩, ed⟩ := id GA
    have n8 := G.n8
    have n1 := G.n1
    have l24 := G.l24
    refine ⟨_, pss_cons (ps_set (i := 1) scMP.nd rfl (.inl rfl) (C8.pe_mt0 mC hr (by omega) (pv 0)))
      (pss_cons (ps_set (i := 2) scMP.nd rfl (.inr rfl) (ZN.pe_listZip rfl (by rfl) T.list (by rfl) T.zip (pv 1)))
      (pss_one (ps_ret (pe_lc2 (own := [("one", 3), ("other", 4)]) (vs1 := [4]) (g := gName 3) (tt := tYes) (g1 := gName 4) (tt1 := tCols K) (te := tPair) (wi1 := iRng2 (tCons (tOp (rI0 fun i j => .int (i + j)) (tVar 3) (tC (.int 1))) (tCons (tProp C (spStates C) [] E0 (tVar 0)) tNil))) rfl scMP.nd (pi_range1 (by rfl) T.range (pa_cons (pe_pr pS hr (by omega) (pv 0)) pa_nil)) (blkOk_by (N := NMP) (sc := defScope sMP) (by decide +kernel)) (by decide)
        (fun _ _ _ _ _ => by exact pg_name (i := 3) scMP.nd rfl (Or.inl rfl)) (fun _ _ _ _ _ => pts_nil)
        (fun _ _ _ _ _ => by exact pi_range2 (by rfl) T.range (pa_cons (pe_op op_add (pv 3) pe_int) (pa_cons (pe_pr pS hr (by omega) (pv 0)) pa_nil)))
        (fun _ _ _ _ _ => by exact pg_name (i := 4) scMP.nd rfl (Or.inl rfl))
        (fun _ _ _ _ _ => by exact pts_one (pt_cmpR (op_eqD hr.units) (pe_ix ix_list (pv 2) (pv 3) (fun _ _ => rfl)) (pe_ix ix_list (pv 2) (pv 4) (fun _ _ => rfl)) (nomark _)))
        (fun _ _ _ _ _ => by exact pe_tup (pa_cons (pv 3) (pa_cons (pv 4) pa_nil))))))), ?_⟩
    refine ⟨_, rfl, g, dg, _, rfl, h1, look_no _ _ (by decide +kernel) (by decide +kernel), g, (n : Int), us, rfl, GA, by omega, by omega, by rw [← psL_len, eu]; omega, fun e he => G.va.rg e.2 (by rw [← eu]; exact List.mem_map.mpr ⟨e, he, rfl⟩), fun Tb rs H1 s1 np nr ca => ?_⟩
    rw [Int.toNat_natCast, eu] at ca
    refine ⟨_, rfl, Tb, rs, (List.range n).map fun i => cntRow ps n i, n, rfl, SqL.of ca.ls, by rw [List.length_map, List.length_range, ca.len], fun i l r hl hrr => ?_, fun r hrr => ?_, fun z => ?_, by rw [ca.len]; exact n8, n1, by omega, fun c Ts H2 s2 nc ec lT hT => ?_⟩
    · rw [List.getElem?_map] at hrr
      obtain ⟨i2, hi2, rfl⟩ := Option.map_eq_some_iff.mp hrr
      have hi : i < n := by
        have := (List.getElem?_eq_some_iff.mp hi2).1
        simpa using this
      rw [List.getElem?_range hi] at hi2
      cases hi2
      exact SqL.of (ca.row i l hl)
    · obtain ⟨i, _, rfl⟩ := List.mem_map.mp hrr
      exact cntRow_len ps n i
    · have := ca.len
      rw [z] at this
      simp at this
      omega
    have hT' : ∀ (j : Nat) (t : Addr), Ts[j]? = some t → H2 t = some (.tup ((colL n ps j).map V.int)) := fun j t e => by
      have hj : j < n := by
        have := (List.getElem?_eq_some_iff.mp e).1
        omega
      rw [(hT j t e).2, List.map_map]
      unfold colL
      rw [List.map_map]
      congr 2
      refine List.map_congr_left fun i hi => ?_
      show (cntRow ps n i).getD j .non = _
      simp [List.getD, cntRow_at ps hj]
    have s2 : Same H1 H2 := s2
    have s12 := s1.trans s2
    have hg2 := s12 _ _ h1
    refine ⟨_, rfl, g, dg, _, rfl, hg2, g, (n : Int), us, rfl, GA.same s12, (n : Int), rfl, by omega, by omega, fun D hD => ?_⟩
    have col : ∀ {H' : Hp} {j : Nat}, Same H2 H' → j < n → ∃ t, atI (Ts.map V.ref) (j : Int) = some (.ref t) ∧ Dp K H' (.ref t) (.tuple ((colL n ps j).map PyData.int)) := fun {H' j} sm hj => by
      obtain ⟨t, ht⟩ : ∃ t, Ts[j]? = some t := ⟨_, List.getElem?_eq_getElem (by omega)⟩
      refine ⟨t, atI_nat ?_, .tup (SqT.of (sm _ _ (hT' j t ht))) (dp_ints _)⟩
      rw [List.getElem?_map, ht]
      rfl
    refine walk_any (walk_range (lo := 0) (n := ((n : Int)).toNat)) (fun i H' => ∃ ws : Es, Same H2 H' ∧ LsAt H' D ws ∧ psOf ws = mrgsTo n ps i) ⟨[], same_upd hD, ⟨upd_same, Ed.nil⟩, rfl⟩ (fun _ _ _ _ => True.intro) ?_ ?_
    · rintro i x H3 H4 hi ⟨ws, s3, L3, hw⟩ ⟨rfl, hx⟩
      have hx : x = .int (i : Int) := by
        rw [hx]
        show V.int (0 + (i : Int)) = _
        rw [Int.zero_add]
      subst hx
      have hi : i < n := by omega
      refine ⟨rfl, yes_if ?_⟩
      refine ⟨_, rfl, _, _, rfl, rfl, _, rfl, g, dg, _, rfl, s3 _ _ hg2, g, (n : Int), us, rfl, (GA.same s12).same s3, _, _, rfl, ⟨by omega, by omega, by omega, by omega⟩, ?_⟩
      refine walk_any (walk_range (lo := (i : Int) + 1) (n := ((n : Int) - ((i : Int) + 1)).toNat)) (fun j H' => ∃ vs : Es, Same H2 H' ∧ LsAt H' D vs ∧ psOf vs = mrgsTo n ps i ++ mrow n ps i j) ⟨ws, s3, L3, by rw [hw]; exact (List.append_nil _).symm⟩ (fun _ _ _ _ => True.intro) ?_ ?_
      · rintro j x H5 H6 hj ⟨vs, s5, L5, hv⟩ ⟨rfl, hx⟩
        have hx : x = .int ((i + 1 + j : Nat) : Int) := by
          rw [hx]
          show V.int ((i : Int) + 1 + (j : Int)) = _
          congr 1
        subst hx
        have hij : i + 1 + j < n := by omega
        have lv : vs.length ≤ 200 := by
          have h1 := congrArg List.length hv
          have h2 := mrgsTo_len n ps i
          have h3 := mrow_len n ps i j
          have h4 : i * n ≤ 8 * 8 := Nat.mul_le_mul (by omega) (by omega)
          rw [psL_len, List.length_append] at h1
          omega
        obtain ⟨t1, a1, d1⟩ := col s5 hi
        obtain ⟨t2, a2, d2⟩ := col s5 hij
        refine ⟨rfl, ?_⟩
        refine ⟨_, rfl, _, rfl, c, _, _, _, rfl, rfl, SqL.of (s5 _ _ ec), a1, _, rfl, _, rfl, c, _, _, _, rfl, rfl, SqL.of (s5 _ _ ec), a2, _, _, d1, d2, sh_col _, sh_col _, _, rfl, ?_⟩
        rw [eqv_tup]
        refine ite2 (fun hc => ?_) (fun hc => ?_)
        · have hc := of_decide_eq_true hc
          refine ⟨_, rfl, _, rfl, (by show 2 ≤ sizeLine; decide), fun t ht => ?_⟩
          have s7 := same_upd (o := .tup [.int (i : Int), .int ((i + 1 + j : Nat) : Int)]) ht
          have nt : t ≠ D := fun w => by
            rw [w, L5.ls] at ht
            cases ht
          have L7 := L5.same s7
          refine ⟨_, L7.ls, ?_, vs ++ [(t, (i : Int), ((i + 1 + j : Nat) : Int))], ?_, L7.snoc (H := H6) upd_same nt, ?_⟩
          · rw [vsOf_len]
            exact small1000 (by omega)
          · intro b o e
            rw [upd_ne (ne_of_none e hD)]
            exact s7 _ _ (s5 _ _ e)
          · rw [psOf_app, hv, mrow_succ, List.append_assoc]
            unfold pickd
            rw [if_pos hc]
            rfl
        · refine ⟨vs, s5, L5, ?_⟩
          rw [hv, mrow_succ]
          unfold pickd
          rw [if_neg (fun z => hc (decide_eq_true z)), List.append_nil]
      · rintro H5 ⟨vs, s5, L5, hv⟩
        refine ⟨vs, s5, L5, ?_⟩
        rw [hv, mrgsTo_succ, show ((n : Int) - ((i : Int) + 1)).toNat = n - (i + 1) by omega]
    · rintro H3 ⟨ws, s3, L3, hw⟩
      exact q D H3 ws (s12.trans s3) (s12.free hD) L3 hw
end
end Lw
set_option Elab.async false
set_option linter.all false
set_option maxRecDepth 100000
/-! ==, != and in of an object whose class has its own __eq__, whatever that answers -/
namespace Lw
open PySem PySem.Spec PyProof.Rows L2
section
variable {X : Cx} {n : Nat} {A : Around} {pins : List (Addr × Obj)} {s : Shared} {σ : L2.St} {H : Hp} {CX : CXT} {C f : Addr} {fd : FuncData} {ps : List Str} {sp : Sp} {E : XK}
/-- what comes back of a def: a value and a heap -/
def BackV (X : Cx) (pins : List (Addr × Obj)) (σ : L2.St) (Q : VK) : Value → Shared → Prop := fun u s' => ∃ v H', Inv X pins σ H' s' ∧ RelV v u ∧ Q v H'
theorem run_own {vs : List V} {us : List Value} {Q : VK} (F : FnOk X.prog X.w X.K X.mg X.base CX n f fd ps sp) (hb : Binds X.K fd ps []) (hx : Passes CX X E) (sb : L2.Sub X n A) (I : Inv X pins σ H s) (r : Vals vs us)
    (hsp : sp vs H Q E) : wpAny (model X.prog X.w) A (call (.ref f) us) (BackV X pins σ Q) X.xe s := by
  have e0 : Env0 X.prog X.w X.K X.mg X.base A X.stack s H := by
    have e := I.env0
    exact ⟨by rw [sb.fr]; exact e.frames, e.mod, e.bs, e.bsz, e.funs, e.frf, e.hok, e.bare⟩
  have hl := F.len _ _ _ _ hsp
  refine wpAny_call (codeAny_mono (F.run A X.stack s H ⟨us, []⟩ us vs _ E sb.room e0 (by
    have := hb s us I.kIn (by rw [List.append_nil, ← r.length]; exact hl)
    simpa using this) r hsp) fun r s' hq => ?_)
  cases r with
  | error e => exact hx pins σ H s e s' I hq
  | ok fl =>
    cases fl with
    | ret w =>
      obtain ⟨z, H', I', rz, ez⟩ := I.after hq
      exact ⟨z, H', I', rz, ez⟩
    | next => exact False.elim hq
    | brk => exact False.elim hq
    | cont => exact False.elim hq
theorem back_bool {Q : VK} {u : Value} {s' : Shared} (h : BackV X pins σ (fun v H' => ∃ b, v = .bl b ∧ Q (.bl b) H') u s') : ∃ b H', u = .bool b ∧ Inv X pins σ H' s' ∧ Q (.bl b) H' := by
  obtain ⟨v, H', I', rv, b, rfl, q⟩ := h
  cases rv
  exact ⟨b, H', rfl, I', q⟩
/-- own == of an object at a and any value of a known type that is not of a subclass -/
theorem rc_own {a dx : Addr} {fs : List (Str × V)} {y : V} {v tb : Value} {Q : VK} (F : FnOk X.prog X.w X.K X.mg X.base CX n f fd ps sp) (hs : PySem.W.findIn X.K (.ref C) "__eq__" = some (some (.ref f))) (hf : PySem.W.isFn X.K (.ref f) = true)
    (hb : Binds X.K fd ps []) (hx : Passes CX X E) (sb : L2.Sub X n A) (I : Inv X pins σ H s) (ha : H a = some (.ins C dx fs)) (ry : RelV y v) (ty : PySem.W.Looks (model X.prog X.w) s.heap (typeOf v) tb) (nf : PySem.W.notFirst X.K C tb = true)
    (hsp : sp [.ref a, y] H (fun v H' => ∃ b, v = .bl b ∧ Q (.bl b) H') E) : wpAny (model X.prog X.w) A (richCompare .Eq (.ref a) v) (fun u s' => ∃ b H', u = .bool b ∧ Inv X pins σ H' s' ∧ Q (.bl b) H') X.xe s := by
  obtain ⟨mA, J, _⟩ := ins_get I.hok ha
  obtain ⟨od, J, _⟩ := J.look
  obtain ⟨m, hF⟩ := I.fr
  refine PySem.W.cmp_K (op := .Eq) (tb := tb) sb.room.units0 hF I.ok.mod.kin J ty nf hs hf ?_
  refine wpAny_mono (run_own F hb hx sb I (.cons (show RelV (.ref a) (.ref a) from rfl) (.cons ry .nil)) hsp) (fun u s' h => ?_) fun _ _ e => e
  obtain ⟨b, H', rfl, I', q⟩ := back_bool h
  exact ⟨b, H', rfl, I', q⟩
/-- x == y, both objects of the class at C -/
def rEqO (C : Addr) (sp : Sp) (E : XK) : R2 := fun x y H Q => ∃ a b dx dy fs gs, x = .ref a ∧ y = .ref b ∧ H a = some (.ins C dx fs) ∧ H b = some (.ins C dy gs) ∧ sp [x, y] H (fun v H' => ∃ c, v = .bl c ∧ Q (.bl c) H') E
theorem op_eqO (F : FnOk X.prog X.w X.K X.mg X.base CX n f fd ps sp) (hs : PySem.W.findIn X.K (.ref C) "__eq__" = some (some (.ref f))) (hf : PySem.W.isFn X.K (.ref f) = true) (hb : Binds X.K fd ps []) (hx : Passes CX X E) (hr : Room n X.A) :
    OpR X (compareOp .Eq) (rEqO C sp E) := by
  intro pins s σ H x y v u Q I rx ry h
  obtain ⟨a, b, dx, dy, fs, gs, rfl, rfl, ha, hb', hsp⟩ := h
  cases rx
  cases ry
  obtain ⟨mB, J', _⟩ := ins_get I.hok hb'
  obtain ⟨od', J', _⟩ := J'.look
  refine wpAny_mono (rc_own (tb := .ref C) F hs hf hb hx ⟨hr, rfl⟩ I ha (y := .ref b) rfl J'.type (by simp [PySem.W.notFirst]) hsp) (fun u s' h => ?_) fun _ _ e => e
  obtain ⟨b, H', rfl, I', q⟩ := h
  exact ⟨.bl b, H', I', rfl, q⟩
/-- x != y, both objects of the class at C, which has no __ne__ of its own -/
def rNeO (C : Addr) (sp : Sp) (E : XK) : R2 := fun x y H Q => ∃ a b dx dy fs gs, x = .ref a ∧ y = .ref b ∧ H a = some (.ins C dx fs) ∧ H b = some (.ins C dy gs) ∧ sp [x, y] H (fun v H' => ∃ c, v = .bl c ∧ Q (.bl (!c)) H') E
theorem ne_body {s : Shared} {a b : Addr} {ox : Obj} {od : Option Obj} {M : Model} {Q : Fin → Shared → Prop} {Er : Value → Shared → Prop} (kin : X.K.In s.heap) (J : PySem.W.InstAt s.heap a ox C od) (hs : PySem.W.findIn X.K (.ref C) "__eq__" = some (some (.ref f))) (hf : PySem.W.isFn X.K (.ref f) = true) (hu : A.units < cLine)
    (h : wpAny M A (call (.ref f) [.ref a, .ref b]) (fun u s' => ∃ c, u = .bool c ∧ Q (.done (.ret (.bool (!c)))) s') Er s) : wpAny M A (Builtin.«object.__ne__» ⟨[.ref a, .ref b], []⟩) Q Er s := by
  unfold Builtin.«object.__ne__»
  repeat (first
    | with_reducible refine wpAny_cRoomFor hu ?_
    | (refine wpAny_bind (m := callSpecialIfBound? (.ref a) (Str.ofString "__eq__") [.ref b])
        (PySem.W.ifBound_K kin J hs hf (wpAny_mono h (fun r s' hr => by
          obtain ⟨c, rfl, hq⟩ := hr
          repeat (first | exact hq | exact wpAny_pure hq | exact wpAny_truthy_bool hq | (refine wpAny_bind (m := truthy (.bool _)) (wpAny_truthy_bool ?_)) | wp_step)) fun _ _ e => e)))
    | wp_step)
theorem op_neO {nm q : Str} {N : Addr} {bs : List Value} {hdct : Bool} {sn : List Str} {sub : List Value} {ab : Bool} {col : Option Bool} {dd : Option Addr} {k0 k1 k2 k3 k5 : Option Value} {newId : String}
    (F : FnOk X.prog X.w X.K X.mg X.base CX n f fd ps sp) (hs : PySem.W.findIn X.K (.ref C) "__eq__" = some (some (.ref f))) (hf : PySem.W.isFn X.K (.ref f) = true) (hne : PySem.W.findIn X.K (.ref C) "__ne__" = some (some (.builtin "object.__ne__")))
    (hC : X.K.lookup C = some (excClassObj nm q C N bs [.type "object"] hdct sn sub ab col dd k0 k1 k2 k3 k5 newId)) (hb : Binds X.K fd ps []) (hx : Passes CX X E) (hr : Room (n + 1) X.A) :
    OpR X (compareOp .NotEq) (rNeO C sp E) := by
  intro pins s σ H x y v u Q I rx ry h
  obtain ⟨a, b, dx, dy, fs, gs, rfl, rfl, ha, hb', hsp⟩ := h
  cases rx
  cases ry
  obtain ⟨mA, J, _⟩ := ins_get I.hok ha
  obtain ⟨od, J, _⟩ := J.look
  obtain ⟨mB, J', _⟩ := ins_get I.hok hb'
  obtain ⟨od', J', _⟩ := J'.look
  have kin := I.kIn
  have un := hr.un
  have hu1 : X.A.units + 1 < cLine := by omega
  have run := run_own (A := X.A.in1) F hb hx (L2.Sub.in1 (X := X) (n := n) (A := X.A) ⟨hr, rfl⟩) I (.cons (show RelV (.ref a) (.ref a) from rfl) (.cons (show RelV (.ref b) (.ref b) from rfl) .nil)) hsp
  show wpAny (model X.prog X.w) X.A (richCompare .NotEq (.ref a) (.ref b)) (EP X pins σ Q) X.xe s
  unfold richCompare
  simp only [oneThing_ref]
  refine wpAny_holding (wpAny_bind (wpAny_cRoomFor (Nat.lt_of_succ_lt hu1) ?_))
  refine wpAny_bind (J.type.here (wpAny_bind (J'.type.here ?_)))
  rw [show (Value.ref C != Value.ref C) = false from by simp]
  simp only [Bool.false_eq_true, if_false]
  refine wpAny_bind (wpAny_pure ?_)
  simp only [Bool.false_eq_true, if_false]
  have one : wpAny (model X.prog X.w) X.A (tryCompare (.ref a) (cmpInfo .NotEq).2.1 (.ref b)) (fun r s' => ∃ v, r = some v ∧ EP X pins σ Q v s') X.xe s := by
    unfold tryCompare
    refine wpAny_bind ?_
    simp only [callSpecialIfBound?, bindSpecialIfBound?]
    refine wpAny_holding (wpAny_bind (wpAny_bind (wpAny_bind (J.type.here ((PySem.W.looks_findIn kin hne).here ?_)))))
    simp only [PySem.F.cmp_object.ne.bind]
    refine wpAny_bind (wpAny_askSetting (wpAny_ite ?_))
    have fin : wpAny (model X.prog X.w) X.A (call (.builtin "object.__ne__") ([.ref a] ++ [.ref b])) (fun v s' => wpAny (model X.prog X.w) X.A (match (some v : Option Value) with
        | some .notImplemented | none => pure none
        | some v => pure (some v)) (fun r s' => ∃ v, r = some v ∧ EP X pins σ Q v s') X.xe s') X.xe s := by
      obtain ⟨hp, g, d, t, os⟩ := s
      refine wpAny_call (codeAny_call_builtin PySem.F.cmp_object.ne.plain PySem.F.cmpEntry_ne (wpAny_check_slot_inst PySem.F.cmpKind_ne PySem.F.cmpSplit_ne (PySem.F.cmpArgs_ne _ _) PySem.F.cmp_object.hasObject J.at_ J.cls (kin _ _ hC) ?_))
      refine ne_body (A := X.A.in1) kin J hs hf (by exact hu1) (wpAny_mono run (fun u s' h => ?_) fun _ _ e => e)
      obtain ⟨v, H', I', rv, c, rfl, q⟩ := h
      cases rv
      exact ⟨c, rfl, wpAny_pure ⟨_, rfl, .bl (!c), H', I', rfl, q⟩⟩
    split
    · exact wpAny_bind (wpAny_pure (wpAny_pure (wpAny_bind (wpAny_mono fin (fun v s' h => wpAny_pure h) fun _ _ e => e))))
    · exact wpAny_tryCatch (wpAny_bind (wpAny_pure (wpAny_pure (wpAny_bind (wpAny_mono fin (fun v s' h => wpAny_pure h) fun _ _ e => e)))))
  refine wpAny_bind (wpAny_mono one (fun r s' z => ?_) fun _ _ e => e)
  obtain ⟨v, rfl, hq⟩ := z
  exact wpAny_pure hq
end
end Lw
set_option Elab.async false
set_option linter.all false
set_option maxRecDepth 100000
/-! the least graph, and chains of merges -/
namespace Lw
open PySem L2
abbrev sLe : Stmt := top 19
abbrev sCG : Stmt := top 22
abbrev sCR : Stmt := top 23
abbrev sGR : Stmt := top 24
abbrev sLT : Stmt := top 25
abbrev sPO : Stmt := top 33
abbrev sStp : Stmt := top 41
theorem pe_never {X : Cx} {e : Expr} : PE X e (fun _ _ _ => False) := ⟨fun _ _ _ _ _ _ h => h.elim⟩
/-- a chain of merges -/
def ChL (CM : Addr) (H : Hp) (S : Addr) (st : Ps) : Prop := ∃ os : List Addr, H S = some (.lst (os.map V.ref)) ∧ os.length = st.length ∧ ∀ (k : Nat) (o : Addr) (p : Int × Int), os[k]? = some o → st[k]? = some p → MgO CM H o p.1 p.2
theorem ChL.same {CM : Addr} {H H' : Hp} {S : Addr} {st : Ps} (h : ChL CM H S st) (s : Same H H') : ChL CM H' S st := by
  obtain ⟨os, h1, h2, h3⟩ := h
  exact ⟨os, s _ _ h1, h2, fun k o p a b => (h3 k o p a b).same s⟩
/-- a list is written -/
theorem Gok.off {C : Addr} {H : Hp} {g S : Addr} {n : Nat} {ps : Ps} {xs : List V} {u : HO} (h : Gok C H g n ps) (e : H S = some (.lst xs)) : Gok C (upd H S u) g n ps := by
  have ne : ∀ {a : Addr} {o : HO}, H a = some o → (∀ z, o ≠ .lst z) → upd H S u a = some o := fun {a o} h z => by
    rw [upd_ne fun w => ?_]
    · exact h
    · rw [w, e] at h
      exact z _ (Option.some.inj h).symm
  obtain ⟨us, ⟨⟨dx, t, h1, h2⟩, ed⟩, eu⟩ := h.at_
  exact ⟨⟨us, ⟨⟨dx, t, ne h1 (fun z w => by cases w), ne h2 (fun z w => by cases w)⟩, fun x hx => ne (ed x hx) (fun z w => by cases w)⟩, eu⟩, h.va, h.n1, h.n8, h.l24⟩
theorem MgO.off {CM : Addr} {H : Hp} {o S : Addr} {a b : Int} {xs : List V} {u : HO} (h : MgO CM H o a b) (e : H S = some (.lst xs)) : MgO CM (upd H S u) o a b := by
  obtain ⟨dx, h1⟩ := h
  refine ⟨dx, ?_⟩
  rw [upd_ne fun w => ?_]
  · exact h1
  · rw [w, e] at h1
    cases h1
theorem ChL.snoc {CM : Addr} {H : Hp} {S o : Addr} {st : Ps} {os : List Addr} {a b : Int} (e : H S = some (.lst (os.map V.ref))) (hl : os.length = st.length) (h : ∀ (k : Nat) (o : Addr) (p : Int × Int), os[k]? = some o → st[k]? = some p → MgO CM H o p.1 p.2) (m : MgO CM H o a b) :
    ChL CM (upd H S (.lst (os.map V.ref ++ [.ref o]))) S (st ++ [(a, b)]) := by
  refine ⟨os ++ [o], by rw [upd_same, List.map_append]; rfl, by simp [hl], fun k x p h1 h2 => ?_⟩
  by_cases hk : k < os.length
  · rw [List.getElem?_append_left hk] at h1
    rw [List.getElem?_append_left (by omega)] at h2
    exact (h k x p h1 h2).off e
  · have hk1 : k < os.length + 1 := by
      have := (List.getElem?_eq_some_iff.mp h1).1
      simpa using this
    have hk2 : k = os.length := by omega
    rw [hk2, List.getElem?_concat_length] at h1
    rw [hk2, hl, List.getElem?_concat_length] at h2
    cases h1
    cases h2
    exact m.off e
def spLe (C CM : Addr) : Sp := fun vs H Q _ => ∃ (g : Addr) (n : Nat) (ps : Ps), vs = [.ref g] ∧ Gok C H g n ps ∧
  ∀ (t S g' : Addr) (H' : Hp), Same H H' → H' t = some (.tup [.ref S, .ref g']) → H S = none → ChL CM H' S (lst n ps).1 → Gok C H' g' (lst n ps).2.1 (lst n ps).2.2 → (mrgs n ps = [] → g' = g) → Q (.ref t) H'
def spCG (C CM : Addr) : Sp := fun vs H Q _ => ∃ (g S : Addr) (n m : Nat) (ps st qs : Ps), vs = [.ref g, .ref S] ∧ Gok C H g n ps ∧ ChL CM H S st ∧ Chn n ps st m qs ∧ st.length ≤ 60 ∧
  ∀ (L g' : Addr) (gs : List V) (H' : Hp), Same H H' → H' L = some (.lst (gs ++ [.ref g'])) → Gok C H' g' m qs → Q (.ref L) H'
def spCR (C CM : Addr) : Sp := fun vs H Q _ => ∃ (g S : Addr) (n m : Nat) (ps st qs : Ps), vs = [.ref g, .ref S] ∧ Gok C H g n ps ∧ ChL CM H S st ∧ Chn n ps st m qs ∧ st.length ≤ 60 ∧ ∀ (g' : Addr) (H' : Hp), Same H H' → Gok C H' g' m qs → Q (.ref g') H'
def spLT (C CM : Addr) : Sp := fun vs H Q _ => ∃ (g g2 S : Addr) (n m : Nat) (ps st qs : Ps), vs = [.ref g, .ref g2, .ref S] ∧ Gok C H g n ps ∧ Gok C H g2 m qs ∧ ChL CM H S st ∧ Chn n ps st m qs ∧ st.length ≤ 60 ∧ ∀ H', Same H H' → Q (.bl true) H'
def spPO (C : Addr) : Sp := fun vs H Q _ => ∃ (g : Addr) (n : Nat) (ps : Ps), vs = [.ref g] ∧ Gok C H g n ps ∧ ∀ (p q : Addr) (us : Es) (H' : Hp), Same H H' → PlanAt H' p q (n : Int) us → psOf us = ps → Q (.ref p) H'
def spStpM (CM : Addr) : Sp := fun vs H Q _ => ∃ (d : Addr) (a b : Int), vs = [.ref d] ∧ H d = some (.tup [.str "merge", .int a, .int b]) ∧ ∀ (o : Addr) (H' : Hp), Same H H' → H o = none → MgO CM H' o a b → Q (.ref o) H'
theorem Chn.split {n m : Nat} {ps st qs : Ps} (h : Chn n ps st m qs) : (st = [] ∧ n = m ∧ ps = qs) ∨ ∃ (i j : Nat) (r : Ps), st = ((i : Int), (j : Int)) :: r ∧ i < j ∧ j < n ∧ colL n ps i = colL n ps j ∧ Chn (n - 1) (mrgP i j ps) r m qs := by
  cases h with
  | nil => exact .inl ⟨rfl, rfl, rfl⟩
  | cons h1 h2 h3 h4 => exact .inr ⟨_, _, _, rfl, h1, h2, h3, h4⟩
theorem at_last {xs : List V} {x : V} : atI (xs ++ [x]) (-1) = some x := atI_last xs x
section
variable {P : Program} {w : World} {K : PySem.W.Frag} {mg : Str → Option Value} {base : Heap} {f C CM : Addr} {mc : Value} {fd : FuncData} {k : Nat}
theorem scLe : FnScope ["graph", "chain", "small", "pairs", "one", "other", "merge"] ["graph"] (defScope sLe) := ⟨rfl, rfl, rfl, by decide +kernel, rfl, by decide +kernel, by decide +kernel⟩
theorem scCG : FnScope ["graph", "chain", "graphs", "step"] ["graph", "chain"] (defScope sCG) := ⟨rfl, rfl, rfl, by decide +kernel, rfl, by decide +kernel, by decide +kernel⟩
theorem scCR : FnScope ["graph", "chain"] ["graph", "chain"] (defScope sCR) := ⟨rfl, rfl, rfl, by decide +kernel, rfl, by decide +kernel, by decide +kernel⟩
theorem scGR : FnScope ["graph", "chain"] ["graph", "chain"] (defScope sGR) := ⟨rfl, rfl, rfl, by decide +kernel, rfl, by decide +kernel, by decide +kernel⟩
theorem scLT : FnScope ["one", "other", "chain"] ["one", "other", "chain"] (defScope sLT) := ⟨rfl, rfl, rfl, by decide +kernel, rfl, by decide +kernel, by decide +kernel⟩
theorem scPO : FnScope ["_law_graph_here"] ["_law_graph_here"] (defScope sPO) := ⟨rfl, rfl, rfl, by decide +kernel, rfl, by decide +kernel, by decide +kernel⟩
theorem scStp : FnScope ["_law_step_here"] ["_law_step_here"] (defScope sStp) := ⟨rfl, rfl, rfl, by decide +kernel, rfl, by decide +kernel, by decide +kernel⟩
set_option maxHeartbeats 8000000 in
theorem ok_le (F : Fun K "least" "least" sLe f fd) (M : MTxt K mg CM) (cP : C8.Cal P w K mg base 3 "merge_pairs" (spMP C) []) (mM : C8.Mak P w K mg base 1 "Merge" CM (spMI CM) []) (mR : C8.Met P w K mg base 4 CM "result" (spMRs C CM) []) : FnOk P w K mg base CX0 (k + 5) f fd ["graph"] (spLe C CM) := by
  refine F.ok scLe (fun vs H Q E h => ?_) (fun cdv A outer s H vs Q E hr h => ?_)
  · obtain ⟨g, n, ps, rfl, _⟩ := h
    rfl
  · obtain ⟨g, n, ps, rfl, G, q⟩ := h
    refine ⟨_, pss_cons (ps_set (i := 1) scLe.nd rfl (.inl rfl) (pe_lst pa_nil))
      (pss_cons (ps_set (i := 2) scLe.nd rfl (.inl rfl) (pv 0))
      (pss_cons (ps_set (i := 3) scLe.nd rfl (.inl rfl) (C8.pe_c cP hr (by omega) (by rfl) (pa_cons (pv 2) pa_nil)))
      (pss_cons (ps_while PassesOwn.never (pt_truth (pv 3) (fun _ => rfl))
        (pss_cons (ps_asg (pe_ix ix_list (pv 3) pe_int (fun _ _ => rfl)) (pg_tup rfl (pgs_cons (pg_name (i := 4) scLe.nd rfl (.inl rfl)) (pgs_cons (pg_name (i := 5) scLe.nd rfl (.inl rfl)) pgs_nil))))
        (pss_cons (ps_set (i := 6) scLe.nd rfl (.inl rfl) (C8.pe_mk mM hr (by omega) (by rfl) (pa_cons (pv 4) (pa_cons (pv 5) pa_nil))))
        (pss_cons (ps_expr (pe_bm PySem.F.plainAttrs_list PySem.F.slot_list_append PySem.F.type_list_append mt_append (pv 1) (pa_cons (pv 6) pa_nil)))
        (pss_cons (ps_set (i := 2) scLe.nd rfl (.inl rfl) (C8.pe_mt mR hr (by omega) (pv 6) (pa_cons (pv 2) pa_nil)))
        (pss_one (ps_set (i := 3) scLe.nd rfl (.inl rfl) (C8.pe_c cP hr (by omega) (by rfl) (pa_cons (pv 2) pa_nil)))))))))
      (pss_one (ps_ret (pe_tup (pa_cons (pv 1) (pa_cons (pv 2) pa_nil)))))))), ?_⟩
    refine ⟨(by show 0 ≤ sizeLine; exact Nat.zero_le _), fun S hS => ?_⟩
    have s1 := same_upd (o := .lst []) hS
    have e1 : upd H S (.lst []) S = some (.lst []) := upd_same
    generalize upd H S (.lst []) = H1 at *
    have n8 := G.n8
    refine ⟨_, rfl, _, rfl, g, n, ps, rfl, G.same s1, fun D0 H2 us0 s2 nD0 L0 eu0 => ?_⟩
    refine ⟨fun m σ H' => ∃ (v4 v5 v6 : Option V) (sm D : Addr) (us : Es) (st qs : Ps), σ = [some (.ref g), some (.ref S), some (.ref sm), some (.ref D), v4, v5, v6] ∧ Same H H' ∧ ChL CM H' S st ∧ Gok C H' sm m qs ∧ LsAt H' D us ∧ psOf us = mrgs m qs ∧ st.length + m = n ∧ lst n ps = (st ++ (lst m qs).1, (lst m qs).2) ∧ (st = [] → sm = g),
      ⟨n, none, none, none, g, D0, us0, [], ps, rfl, s1.trans s2, ⟨[], s2 _ _ e1, rfl, fun k o p h => by cases h⟩, (G.same s1).same s2, L0, eu0, by simp, rfl, fun _ => rfl⟩, ?_⟩
    rintro m σ H3 ⟨v4, v5, v6, sm, D, us, st, qs, rfl, s3, CL, G3, L3, eu, lm, eq, fg⟩
    refine ⟨_, rfl, _, .inl ⟨_, SqL.of L3.ls, rfl⟩, ?_⟩
    cases us with
    | nil =>
      refine if_f rfl ?_
      have e0 : mrgs m qs = [] := eu.symm
      have q3 := lst_done e0
      rw [q3, List.append_nil] at eq
      refine ⟨_, rfl, _, rfl, (by show 2 ≤ sizeLine; decide), fun t ht => ?_⟩
      have s4 := same_upd (o := .tup [.ref S, .ref sm]) ht
      have q := q t S sm _ (s3.trans s4) upd_same hS
      rw [eq] at q
      refine q (CL.same s4) (G3.same s4) fun en => fg ?_
      have := lst_done en
      rw [this] at eq
      exact (congrArg Prod.fst eq).symm
    | cons e r =>
      refine if_t rfl ⟨_, fun _ _ z => z, ?_⟩
      have hd : mrgs m qs = e.2 :: psOf r := eu.symm
      obtain ⟨i, j, eij, ij, jm, ec⟩ := mrgs_mem (show e.2 ∈ mrgs m qs by rw [hd]; exact List.mem_cons_self)
      have ei : e.2.1 = (i : Int) := congrArg Prod.fst eij
      have ej : e.2.2 = (j : Int) := congrArg Prod.snd eij
      have he := L3.ed e List.mem_cons_self
      rw [ei, ej] at he
      refine ⟨_, rfl, D, _, _, .ref e.1, rfl, rfl, SqL.of L3.ls, at0 (x := V.ref e.1) (r := vsOf r), e.1, _, rfl, SqT.of he, rfl, _, _, rfl, _, _, rfl, rfl, ?_⟩
      refine ⟨_, rfl, _, rfl, ?_⟩
      intro o dx no ndx nex
      have s4 := make_same (C := CM) no ndx nex
      refine ⟨o, dx, (i : Int), (j : Int), rfl, upd_same, fun H5 kp MO => ⟨rfl, ?_⟩⟩
      have s5 : Same H3 H5 := fun c u ecu => kp c u (ne_of_none ecu no) (s4 _ _ ecu)
      obtain ⟨os, c1, c2, c3⟩ := CL.same s5
      have G5 := G3.same s5
      refine ⟨_, rfl, .inl ⟨rfl, _, SqL.of c1⟩, _, rfl, S, _, _, rfl, rfl, c1, by rw [List.length_map]; exact small1000 (by omega), ?_⟩
      have CL6 := ChL.snoc c1 c2 c3 MO
      have G6 := G5.off (u := .lst (os.map V.ref ++ [.ref o])) c1
      have MO6 := MO.off (u := .lst (os.map V.ref ++ [.ref o])) c1
      have s6 : Same H (upd H5 S (.lst (os.map V.ref ++ [.ref o]))) := fun c u ecu => by
        rw [upd_ne (ne_of_none ecu hS)]
        exact s5 _ _ (s3 _ _ ecu)
      generalize upd H5 S (.lst (os.map V.ref ++ [.ref o])) = H6 at *
      obtain ⟨dx6, ho6⟩ := id MO6
      refine ⟨_, rfl, o, dx6, _, rfl, ho6, mno _ _ (by decide +kernel) (by decide +kernel), _, rfl, o, sm, m, i, j, qs, rfl, MO6, G6, ij, jm, ec, fun g2 H7 s7 ng2 G7 => ?_⟩
      refine ⟨_, rfl, g2, m - 1, mrgP i j qs, rfl, G7, fun D8 H8 us8 s8 nD8 L8 eu8 => ?_⟩
      refine ⟨m - 1, by omega, _, _, _, g2, D8, us8, st ++ [((i : Int), (j : Int))], mrgP i j qs, rfl, (s6.trans s7).trans s8, (CL6.same s7).same s8, G7.same s8, L8, eu8, ?_, ?_, fun z => ?_⟩
      · rw [List.length_append, List.length_singleton]
        omega
      · have q3 := lst_step hd
        rw [eij] at q3
        rw [eq, q3, List.append_assoc]
        rfl
      · simp at z
set_option maxHeartbeats 8000000 in
theorem ok_cg (F : Fun K "chain_graphs" "chain_graphs" sCG f fd) (T : Bi mg) {tk : Tok} (mx : mg "MAX_STEPS" = some (.int 60 tk)) (mR : C8.Met P w K mg base 4 CM "result" (spMRs C CM) []) : FnOk P w K mg base CX0 (k + 5) f fd ["graph", "chain"] (spCG C CM) := by
  refine F.ok scCG (fun vs H Q E h => ?_) (fun cdv A outer s H vs Q E hr h => ?_)
  · obtain ⟨g, S, n, m, ps, st, qs, rfl, _⟩ := h
    rfl
  · obtain ⟨g, S, n, m, ps, st, qs, rfl, G, CL, ch, l60, q⟩ := h
    obtain ⟨os, c1, c2, c3⟩ := CL
    refine ⟨_, pss_cons (ps_if (pt_cmpR op_gt (pe_callB call_len_seq (by rfl) T.len PySem.boot_len (pa_cons (pv 1) pa_nil)) (pe_glob (v := .int 60) (by rfl) mx ⟨_, rfl⟩) (nomark _)) (pss_one ps_never) pss_nil)
      (pss_cons (ps_set (i := 2) scCG.nd rfl (.inl rfl) (pe_lst (pa_cons (pv 0) pa_nil)))
      (pss_cons (ps_for PassesOwn.never rfl (pi_seqA (pv 1)) (pg_name (i := 3) scCG.nd rfl (.inl rfl))
        (pss_one (ps_expr (pe_bm PySem.F.plainAttrs_list PySem.F.slot_list_append PySem.F.type_list_append mt_append (pv 2) (pa_cons (C8.pe_mt mR hr (by omega) (pv 3) (pa_cons (pe_ix ix_list (pv 2) (pe_un un_neg pe_int) (fun _ _ => rfl)) pa_nil)) pa_nil)))))
      (pss_one (ps_ret (pv 2))))), ?_⟩
    refine ⟨_, rfl, S, _, rfl, .inl (SqL.of c1), _, _, rfl, rfl, _, rfl, if_f (decide_eq_false (by rw [List.length_map]; omega)) ?_⟩
    refine ⟨_, rfl, (by show 1 ≤ sizeLine; decide), fun L hL => ?_⟩
    have s1 := same_upd (o := .lst [.ref g]) hL
    have e1 : upd H L (.lst [.ref g]) L = some (.lst ([] ++ [.ref g])) := upd_same
    generalize upd H L (.lst [.ref g]) = H1 at *
    refine ⟨_, rfl, S, _, SqL, rfl, .inl rfl, SqL.of (s1 _ _ c1), fun J w => ?_⟩
    refine for_it w (fun i σ H' => ∃ (v3 : Option V) (gs : List V) (g' : Addr) (n' : Nat) (ps' : Ps), σ = [some (.ref g), some (.ref S), some (.ref L), v3] ∧ Same H H' ∧ H' L = some (.lst (gs ++ [.ref g'])) ∧ gs.length ≤ i ∧ Gok C H' g' n' ps' ∧ Chn n' ps' (st.drop i) m qs)
      ⟨none, [], g, n, ps, rfl, s1, e1, Nat.le_refl _, G.same s1, ch⟩ (fun i σ H' _ p => by obtain ⟨_, _, _, _, _, _, s, _⟩ := p; exact SqL.of (s _ _ c1)) ?_ ?_
    · rintro i x σ H2 H3 hi ⟨v3, gs, g', n', ps', rfl, s2, e2, lg, G2, ch2⟩ ⟨rfl, gx⟩
      rw [List.length_map] at hi
      rw [List.getElem?_map] at gx
      obtain ⟨o, ho, rfl⟩ := Option.map_eq_some_iff.mp gx
      have hst : i < st.length := by omega
      have ed : st.drop i = st[i] :: st.drop (i + 1) := List.drop_eq_getElem_cons hst
      rcases ch2.split with ⟨z, _⟩ | ⟨a, b, r, er, ab, bn, ec, ch3⟩
      · rw [ed] at z
        cases z
      rw [ed] at er
      injection er with er1 er2
      have MO := (c3 i o (st[i]) ho (List.getElem?_eq_getElem hst)).same s2
      rw [er1] at MO
      obtain ⟨dx, hoo⟩ := id MO
      refine ⟨_, rfl, .inl ⟨rfl, _, SqL.of e2⟩, _, rfl, o, dx, _, rfl, hoo, mno _ _ (by decide +kernel) (by decide +kernel), _, rfl, 1, rfl, L, _, _, .ref g', rfl, rfl, SqL.of e2, at_last, o, g', n', a, b, ps', rfl, MO, G2, ab, bn, ec, fun g3 H4 s4 ng G4 => ?_⟩
      have e4 := s4 _ _ e2
      refine ⟨L, _, _, rfl, rfl, e4, by rw [List.length_append, List.length_singleton]; exact small1000 (by omega), ?_⟩
      refine ⟨_, gs ++ [.ref g'], g3, n' - 1, mrgP a b ps', rfl, ?_, upd_same, ?_, G4.off e4, by rw [er2]; exact ch3⟩
      · intro c u ecu
        rw [upd_ne (ne_of_none ecu hL)]
        exact s4 _ _ (s2 _ _ ecu)
      · rw [List.length_append, List.length_singleton]
        omega
    · rintro σ H2 ⟨v3, gs, g', n', ps', rfl, s2, e2, lg, G2, ch2⟩
      rw [List.length_map, c2, List.drop_length] at ch2
      rcases ch2.split with ⟨_, rfl, rfl⟩ | ⟨a, b, r, er, _⟩
      · exact ⟨_, rfl, q L g' gs H2 s2 e2 G2⟩
      · cases er
theorem ok_cr (F : Fun K "chain_result" "chain_result" sCR f fd) (cG : C8.Cal P w K mg base 5 "chain_graphs" (spCG C CM) []) : FnOk P w K mg base CX0 (k + 6) f fd ["graph", "chain"] (spCR C CM) := by
  refine F.ok scCR (fun vs H Q E h => ?_) (fun cdv A outer s H vs Q E hr h => ?_)
  · obtain ⟨g, S, n, m, ps, st, qs, rfl, _⟩ := h
    rfl
  · obtain ⟨g, S, n, m, ps, st, qs, rfl, G, CL, ch, l60, q⟩ := h
    refine ⟨_, pss_one (ps_ret (pe_ix ix_list (C8.pe_c cG hr (by omega) (by rfl) (pa_cons (pv 0) (pa_cons (pv 1) pa_nil))) (pe_un un_neg pe_int) (fun _ _ => rfl))), ?_⟩
    refine ⟨_, rfl, _, rfl, g, S, n, m, ps, st, qs, rfl, G, CL, ch, l60, fun L g' gs H' s1 e1 G1 => ?_⟩
    exact ⟨1, rfl, L, _, _, .ref g', rfl, rfl, SqL.of e1, at_last, q g' H' s1 G1⟩
theorem ok_gr (F : Fun K "graph_reached" "graph_reached" sGR f fd) (cR : C8.Cal P w K mg base 6 "chain_result" (spCR C CM) []) : FnOk P w K mg base CX0 (k + 7) f fd ["graph", "chain"] (spCR C CM) := by
  refine F.ok scGR (fun vs H Q E h => ?_) (fun cdv A outer s H vs Q E hr h => ?_)
  · obtain ⟨g, S, n, m, ps, st, qs, rfl, _⟩ := h
    rfl
  · obtain ⟨g, S, n, m, ps, st, qs, rfl, G, CL, ch, l60, q⟩ := h
    refine ⟨_, pss_one (ps_try_thru0 (pss_one (ps_ret (C8.pe_c cR hr (by omega) (by rfl) (pa_cons (pv 0) (pa_cons (pv 1) pa_nil)))))), ?_⟩
    exact ⟨_, rfl, _, rfl, g, S, n, m, ps, st, qs, rfl, G, CL, ch, l60, q⟩
theorem ok_lt {fE : Addr} {fdE : FuncData} (F : Fun K "leads_to" "leads_to" sLT f fd) (cR : C8.Cal P w K mg base 7 "graph_reached" (spCR C CM) []) (hE1 : PySem.W.findIn K (.ref C) "__eq__" = some (some (.ref fE))) (hE2 : PySem.W.isFn K (.ref fE) = true) (FE : FnOk P w K mg base CX0 1 fE fdE ["self", "other"] (spGEq K C)) (bE : Binds K fdE ["self", "other"] []) :
    FnOk P w K mg base CX0 (k + 8) f fd ["one", "other", "chain"] (spLT C CM) := by
  refine F.ok scLT (fun vs H Q E h => ?_) (fun cdv A outer s H vs Q E hr h => ?_)
  · obtain ⟨g, g2, S, n, m, ps, st, qs, rfl, _⟩ := h
    rfl
  · obtain ⟨g, g2, S, n, m, ps, st, qs, rfl, G, G2, CL, ch, l60, q⟩ := h
    refine ⟨_, pss_one (ps_ret (pe_cmpR (op_eqO (E := E0) FE hE1 hE2 bE pass0 (hr.mono (by omega))) (C8.pe_c cR hr (by omega) (by rfl) (pa_cons (pv 0) (pa_cons (pv 2) pa_nil))) (pv 1) (nomark _))), ?_⟩
    refine ⟨_, rfl, _, rfl, g, S, n, m, ps, st, qs, rfl, G, CL, ch, l60, fun g' H1 s1 G1 => ?_⟩
    obtain ⟨us, GA, eu⟩ := G1.at_
    obtain ⟨vs, GB, ev⟩ := (G2.same s1).at_
    obtain ⟨dxa, ta, ha, _⟩ := GA.ob
    obtain ⟨dxb, tb, hb, _⟩ := GB.ob
    refine ⟨_, rfl, g', g2, dxa, dxb, _, _, rfl, rfl, ha, hb, g', (m : Int), us, _, rfl, GA, .inl ⟨g2, (m : Int), vs, rfl, GB, _, rfl, ?_⟩⟩
    rw [eu, ev, decide_eq_true rfl, decide_eq_true rfl]
    exact q H1 s1
theorem ok_po (F : Fun K "_law_plan_of" "_law_plan_of" sPO f fd) (mE : C8.Met P w K mg base 1 C "edges" (spEdges C) []) (pS : Prp P w K mg base 1 C "states" (spStates C)) : FnOk P w K mg base CX0 (k + 3) f fd ["_law_graph_here"] (spPO C) := by
  refine F.ok scPO (fun vs H Q E h => ?_) (fun cdv A outer s H vs Q E hr h => ?_)
  · obtain ⟨g, n, ps, rfl, _⟩ := h
    rfl
  · obtain ⟨g, n, ps, rfl, G, q⟩ := h
    obtain ⟨us, GA, eu⟩ := G.at_
    obtain ⟨⟨dg, t, h1, h2⟩, ed⟩ := id GA
    refine ⟨_, pss_one (ps_ret (pe_tup (pa_cons (pe_pr pS hr (by omega) (pv 0)) (pa_cons (C8.pe_mt0 mE hr (by omega) (pv 0)) pa_nil)))), ?_⟩
    refine ⟨_, rfl, g, dg, _, rfl, h1, g, (n : Int), us, rfl, GA, _, rfl, g, dg, _, rfl, h1, look_no _ _ (by decide +kernel) (by decide +kernel), g, (n : Int), us, rfl, GA, fun L hL => ?_⟩
    have s1 := same_upd (o := .lst (vsOf us)) hL
    have eL : upd H L (.lst (vsOf us)) L = some (.lst (vsOf us)) := upd_same
    generalize upd H L (.lst (vsOf us)) = H1 at *
    refine ⟨(by show 2 ≤ sizeLine; decide), fun p hp => ?_⟩
    have s2 := same_upd (o := .tup [.int (n : Int), .ref L]) hp
    have n1 := G.n1
    exact q p L us _ (s1.trans s2) ⟨upd_same, s2 _ _ eL, (ed.same s1).same s2, VaP.es (by rw [eu]; exact G.va), by omega⟩ eu
theorem ok_stpM (F : Fun K "_law_step" "_law_step" sStp f fd) (mM : C8.Mak P w K mg base 1 "Merge" CM (spMI CM) []) : FnOk P w K mg base CX0 (k + 3) f fd ["_law_step_here"] (spStpM CM) := by
  refine F.ok scStp (fun vs H Q E h => ?_) (fun cdv A outer s H vs Q E hr h => ?_)
  · obtain ⟨d, a, b, rfl, _⟩ := h
    rfl
  · obtain ⟨d, a, b, rfl, e1, q⟩ := h
    refine ⟨_, pss_cons (ps_if (pt_cmpR op_eq (pe_ix ix_tup (pv 0) pe_int (fun _ _ => rfl)) pe_str (nomark _)) (pss_one ps_never) pss_nil)
      (pss_one (ps_ret (pe_ifExp (pt_cmpR op_eq (pe_ix ix_tup (pv 0) pe_int (fun _ _ => rfl)) pe_str (nomark _)) (C8.pe_mk mM hr (by omega) (by rfl) (pa_cons (pe_ix ix_tup (pv 0) pe_int (fun _ _ => rfl)) (pa_cons (pe_ix ix_tup (pv 0) pe_int (fun _ _ => rfl)) pa_nil))) pe_never))), ?_⟩
    refine ⟨_, rfl, d, _, _, _, rfl, rfl, SqT.of e1, rfl, rfl, _, rfl, if_f dM ?_⟩
    refine ⟨_, rfl, d, _, _, _, rfl, rfl, SqT.of e1, rfl, rfl, _, rfl, if_t dMM ?_⟩
    refine ⟨_, rfl, d, _, _, _, rfl, rfl, SqT.of e1, rfl, _, rfl, d, _, _, _, rfl, rfl, SqT.of e1, rfl, ?_⟩
    intro o dx no ndx nex
    have s4 := make_same (C := CM) no ndx nex
    refine ⟨o, dx, a, b, rfl, upd_same, fun H5 kp MO => ⟨rfl, q o H5 (fun c u ecu => kp c u (ne_of_none ecu no) (s4 _ _ ecu)) no MO⟩⟩
end
end Lw
set_option Elab.async false
set_option linter.all false
set_option maxRecDepth 100000
namespace Lw
open PySem L2
abbrev sLaw : Stmt := top 45
abbrev NL : List Str := ["_law_script", "_law_bag_here", "_law_turn", "_law_plan_here", "_law_graph_here", "_law_due", "_law_found", "_law_steps", "_law_small", "_law_chain", "_law_last", "_law_step_here"]
theorem scLaw : FnScope NL ["_law_script"] (defScope sLaw) := ⟨rfl, rfl, rfl, by decide +kernel, rfl, by decide +kernel, by decide +kernel⟩
structure Lib (P : Program) (w : World) (K : PySem.W.Frag) (mg : Str → Option Value) (base : Heap) (C CM : Addr) : Prop where
  T : Bi mg
  bag : C8.Cal P w K mg base 1 "_law_bag" (spBag K) []
  pull : C8.Cal P w K mg base 1 "_law_pull" spPull []
  plan : C8.Cal P w K mg base 2 "_law_plan" spPlan []
  like : C8.Cal P w K mg base 6 "_law_like" (spLike 5) []
  graph : C8.Cal P w K mg base 4 "_law_graph" (spGraph C) []
  mgrs : C8.Cal P w K mg base 2 "_law_mergers" spMgrs []
  lle : C8.Cal P w K mg base 3 "_law_least" spLLe []
  sps : C8.Cal P w K mg base 4 "_law_splits" spSps []
  stp : C8.Cal P w K mg base 3 "_law_step" (spStpM CM) []
  po : C8.Cal P w K mg base 3 "_law_plan_of" (spPO C) []
  mp : C8.Cal P w K mg base 3 "merge_pairs" (spMP C) []
  le : C8.Cal P w K mg base 5 "least" (spLe C CM) []
  lt : C8.Cal P w K mg base 8 "leads_to" (spLT C CM) []
  mkm : C8.Mak P w K mg base 1 "Merge" CM (spMI CM) []
  mkg : C8.Mak P w K mg base 2 "Graph" C (spInit C) []
  meq : ∃ f fd, PySem.W.findIn K (.ref CM) "__eq__" = some (some (.ref f)) ∧ PySem.W.isFn K (.ref f) = true ∧ FnOk P w K mg base CX0 1 f fd ["self", "other"] (spEq (MEq CM)) ∧ Binds K fd ["self", "other"] []
def spLaw (K : PySem.W.Frag) : Sp := fun vs H Q _ => ∃ (a : Addr) (ns : List Int), vs = [.ref a] ∧ SqL K H a (ns.map V.int) ∧ ns.length ≤ 63 ∧ ∀ H', Q (.bl true) H'
theorem meq_mon {CM : Addr} (a b : Addr) (H H' : Hp) (e : Ext H H') (h : MEq CM a b H) : MEq CM a b H' := by
  obtain ⟨x, y, h1, h2⟩ := h
  exact ⟨x, y, h1.same e, h2.same e⟩
theorem lk_es {H : Hp} {a b : Addr} {us vs : Es} {k : Nat} (h1 : LsAt H a us) (h2 : LsAt H b vs) (e : psOf us = psOf vs) (hl : us.length ≤ 1000) : Lk H (k + 3) (.ref a) (.ref b) := by
  have le : us.length = vs.length := by
    have := congrArg List.length e
    rw [psL_len, psL_len] at this
    exact this
  refine .inr (.inl ⟨a, b, _, _, rfl, rfl, h1.ls, h2.ls, by rw [vsOf_len, vsOf_len, le], by rw [vsOf_len]; exact hl, fun i u v hu hv => ?_⟩)
  obtain ⟨x, hx, rfl⟩ := vsOf_at hu
  obtain ⟨y, hy, rfl⟩ := vsOf_at hv
  have exy : x.2 = y.2 := by
    have a1 := psOf_at hx
    rw [e, psOf_at hy] at a1
    exact (Option.some.inj a1).symm
  have f1 := h1.ed x (List.mem_of_getElem? hx)
  have f2 := h2.ed y (List.mem_of_getElem? hy)
  rw [← exy] at f2
  refine .inr (.inr ⟨x.1, y.1, _, _, rfl, rfl, f1, f2, rfl, (by show 2 ≤ 1000; decide), fun i u v hu hv => ?_⟩)
  rw [hu] at hv
  cases hv
  match i, hu with
  | 0, hu =>
    cases hu
    exact .inl ⟨rfl, rfl⟩
  | 1, hu =>
    cases hu
    exact .inl ⟨rfl, rfl⟩
theorem lk_plan {H : Hp} {p q p' q' : Addr} {n : Int} {us vs : Es} {k : Nat} (h1 : PlanAt H p q n us) (h2 : PlanAt H p' q' n vs) (e : psOf us = psOf vs) (hl : us.length ≤ 1000) : Lk H (k + 4) (.ref p) (.ref p') := by
  refine .inr (.inr ⟨p, p', _, _, rfl, rfl, h1.tp, h2.tp, rfl, (by show 2 ≤ 1000; decide), fun i u v hu hv => ?_⟩)
  match i, hu, hv with
  | 0, hu, hv =>
    cases hu
    cases hv
    exact .inl ⟨rfl, rfl⟩
  | 1, hu, hv =>
    cases hu
    cases hv
    exact lk_es ⟨h1.ls, h1.ed⟩ ⟨h2.ls, h2.ed⟩ e hl
/-- a turn's things -/
structure Tn (C b l : Addr) (ns : List Int) (p q g D : Addr) (n : Nat) (ts ds : Es) (H : Hp) : Prop where
  bag : BagAt H b l ns
  pl : PlanAt H p q (n : Int) ts
  gr : Gok C H g n (psOf ts)
  du : LsAt H D ds
section
variable {C b l p q g D : Addr} {ns : List Int} {n : Nat} {ts ds : Es} {H H' : Hp}
theorem Tn.same (h : Tn C b l ns p q g D n ts ds H) (s : Same H H') : Tn C b l ns p q g D n ts ds H' := ⟨h.bag.same s, h.pl.same s, h.gr.same s, h.du.same s⟩
theorem Tn.off {W : Addr} {ws : List V} {o : HO} (h : Tn C b l ns p q g D n ts ds H) (e : H W = some (.lst ws)) (nb : W ≠ b) (nl : W ≠ l) (nq : W ≠ q) (nD : W ≠ D) : Tn C b l ns p q g D n ts ds (upd H W o) := by
  have ne : ∀ {a : Addr} {xs : List V}, H a = some (.tup xs) → upd H W o a = some (.tup xs) := fun {a xs} h => by
    rw [upd_ne fun w => by rw [w, e] at h; cases h]
    exact h
  have nw : ∀ {a : Addr} {u : HO}, H a = some u → W ≠ a → upd H W o a = some u := fun {a u} h z => (upd_ne (Ne.symm z)).trans h
  obtain ⟨ob, ho, hB⟩ := h.bag.ob
  exact ⟨⟨⟨ob, nw ho nb, hB⟩, nw h.bag.sc nl, h.bag.ln⟩, ⟨ne h.pl.tp, nw h.pl.ls nq, fun x hx => ne (h.pl.ed x hx), h.pl.va, h.pl.n1⟩, h.gr.off e, ⟨nw h.du.ls nD, fun x hx => ne (h.du.ed x hx)⟩⟩
/-- a list that was not there -/
theorem Tn.apart {W : Addr} (h : Tn C b l ns p q g D n ts ds H) (hW : H W = none) : W ≠ b ∧ W ≠ l ∧ W ≠ q ∧ W ≠ D := by
  obtain ⟨ob, ho, hB⟩ := h.bag.ob
  exact ⟨(ne_of_none ho hW).symm, (ne_of_none h.bag.sc hW).symm, (ne_of_none h.pl.ls hW).symm, (ne_of_none h.du.ls hW).symm⟩
end
theorem StL.off {H : Hp} {S W : Addr} {st : Ps} {ws : List V} {o : HO} (h : StL H S st) (e : H W = some (.lst ws)) (ne : S ≠ W) : StL (upd H W o) S st := by
  obtain ⟨ds, h1, h2, h3⟩ := h
  refine ⟨ds, (upd_ne ne).trans h1, h2, fun k d p a b => ?_⟩
  have := h3 k d p a b
  rw [upd_ne fun w => by rw [w, e] at this; cases this]
  exact this
def ps3 : Ps := [(0, 0), (0, 1), (1, 0)]
theorem m3 : mrgs 2 ps3 = [] := by decide +kernel
theorem va3 : VaP 2 ps3 := by
  refine ⟨fun p hp => ?_, fun k k0 k1 => ?_⟩
  · unfold ps3 at hp
    simp only [List.mem_cons, List.not_mem_nil, or_false] at hp
    rcases hp with rfl | rfl | rfl <;> decide
  · rcases (show k = 0 ∨ k = 1 by omega) with rfl | rfl
    · exact ⟨(0, 0), by decide, rfl⟩
    · exact ⟨(1, 0), by decide, rfl⟩
section
variable {P : Program} {w : World} {K : PySem.W.Frag} {mg : Str → Option Value} {base : Heap}
set_option maxHeartbeats 16000000 in
theorem ok_law {f C CM : Addr} {fd : FuncData} (F : Fun K "law" "law" sLaw f fd) (L : Lib P w K mg base C CM) : FnOk P w K mg base CX0 12 f fd ["_law_script"] (spLaw K) := by
  refine F.ok scLaw (fun vs H Q E h => ?_) (fun cdv A outer s H vs Q E hr h => ?_)
  · obtain ⟨a, ns, rfl, _⟩ := h
    rfl
  · obtain ⟨a, ns, rfl, hS, hln, q⟩ := h
    have T := L.T
    obtain ⟨fM, fdM, hM1, hM2, FM, bM⟩ := L.meq
    have monA : Mon (fun x y H => DList DFlat x y H ∨ DSame x y H) := (mon_list mon_flat).or mon_same
    have eqA : EqG (cxOf CX0 P w K mg base NL "law" (defScope sLaw) f cdv A outer s H E).nox 1 (fun x y H => DList DFlat x y H ∨ DSame x y H) := (eqG_list mon_flat eqG_flat).or (eqG_same.mono (by decide))
    refine ⟨_, pss_cons (ps_set (i := 1) scLaw.nd rfl (by first | exact Or.inl rfl | exact Or.inr rfl) (C8.pe_c L.bag hr (by decide) (by rfl) (pa_cons (pv 0) pa_nil))) (pss_cons (ps_for PassesOwn.never rfl (pi_range1 (by rfl) T.range (pa_cons pe_int pa_nil)) (pg_name (i := 2) scLaw.nd rfl (by first | exact Or.inl rfl | exact Or.inr rfl)) (C8.pss_cut (ps_set (i := 3) scLaw.nd rfl (by first | exact Or.inl rfl | exact Or.inr rfl) (C8.pe_c L.sps hr (by decide) (by rfl) (pa_cons (pv 1) (pa_cons (C8.pe_c L.plan hr (by decide) (by rfl) (pa_cons (pv 1) (pa_cons pe_int (pa_cons pe_int pa_nil)))) (pa_cons (C8.pe_c L.pull hr (by decide) (by rfl) (pa_cons (pv 1) (pa_cons pe_int pa_nil))) (pa_cons pe_int pa_nil)))))) (C8.pss_cut (ps_par (i := 4) (j := 5) (by rfl) scLaw.nd rfl rfl (by decide) rfl rfl (pa_cons (C8.pe_c L.graph hr (by decide) (by rfl) (pa_cons (pv 3) pa_nil)) (pa_cons (C8.pe_c L.mgrs hr (by decide) (by rfl) (pa_cons (pv 3) pa_nil)) pa_nil)) (by rfl)) (pss_cons (ps_set (i := 6) scLaw.nd rfl (by first | exact Or.inl rfl | exact Or.inr rfl) (C8.pe_c L.mp hr (by decide) (by rfl) (pa_cons (pv 4) pa_nil))) (pss_cons (ps_if (pt_not (pt_val (C8.pe_c L.like hr (by decide) (by rfl) (pa_cons (pv 6) (pa_cons (pv 5) pa_nil))))) (pss_one (ps_ret pe_bl)) pss_nil) (C8.pss_cut (ps_expr (pe_bm PySem.F.plainAttrs_list PySem.F.slot_list_append PySem.F.type_list_append mt_append (pv 6) (pa_cons (pe_tup (pa_cons pe_int (pa_cons pe_int pa_nil))) pa_nil))) (pss_cons (ps_asg (C8.pe_c L.lle hr (by decide) (by rfl) (pa_cons (pv 3) pa_nil)) (pg_tup rfl (pgs_cons (pg_name (i := 7) scLaw.nd rfl (by first | exact Or.inl rfl | exact Or.inr rfl)) (pgs_cons (pg_name (i := 8) scLaw.nd rfl (by first | exact Or.inl rfl | exact Or.inr rfl)) pgs_nil)))) (C8.pss_cut (ps_asg (C8.pe_c L.le hr (by decide) (by rfl) (pa_cons (pv 4) pa_nil)) (pg_tup rfl (pgs_cons (pg_name (i := 9) scLaw.nd rfl (by first | exact Or.inl rfl | exact Or.inr rfl)) (pgs_cons (pg_name (i := 10) scLaw.nd rfl (by first | exact Or.inl rfl | exact Or.inr rfl)) pgs_nil)))) (C8.pss_cut (ps_if (PW.pt (pw_or (pt_cmpR (op_neG (rnG_list (mon_ins meq_mon) (eqG_ins (E := E0) FM hM1 hM2 bM pass0)) (hr.mono (by decide))) (pv 9) (pe_lc (own := [("_law_step_here", 11)]) (g := gName 11) (tt := tYes) (te := tCall (spStpM CM) [] E0 (tCons (tVar 11) tNil)) rfl scLaw.nd (pi_seqA (pv 7)) (blkOk_by (N := NL) (sc := defScope sLaw) (by decide +kernel)) (fun _ _ _ _ _ => by exact pg_name (i := 11) scLaw.nd rfl (by first | exact Or.inl rfl | exact Or.inr rfl)) (fun _ _ _ _ _ => pts_nil) (fun _ _ _ _ _ => by exact (C8.pe_c L.stp hr (by decide) (by rfl) (pa_cons (pv 11) pa_nil)))) (nomark _)) (pw_or1 (pt_not (pt_val (C8.pe_c L.like hr (by decide) (by rfl) (pa_cons (C8.pe_c L.po hr (by decide) (by rfl) (pa_cons (pv 10) pa_nil)) (pa_cons (pv 8) pa_nil)))))))) (pss_one (ps_ret pe_bl)) pss_nil) (C8.pss_cut (ps_if (PW.pt (pw_or (pt_not (pt_val (C8.pe_c L.like hr (by decide) (by rfl) (pa_cons (C8.pe_c L.mp hr (by decide) (by rfl) (pa_cons (pv 4) pa_nil)) (pa_cons (pv 5) pa_nil))))) (pw_or1 (pt_not (pt_val (C8.pe_c L.lt hr (by decide) (by rfl) (pa_cons (pv 4) (pa_cons (pv 10) (pa_cons (pv 9) pa_nil))))))))) (pss_one (ps_ret pe_bl)) pss_nil) (C8.pss_cut (ps_expr (pe_bm PySem.F.plainAttrs_list PySem.F.slot_list_append PySem.F.type_list_append mt_append (pv 9) (pa_cons (C8.pe_mk L.mkm hr (by decide) (by rfl) (pa_cons pe_int (pa_cons pe_int pa_nil))) pa_nil))) (pss_one (ps_if (PW.pt (pw_or (pt_cmpR (op_neG (rnG_tup monA eqA) (hr.mono (by decide))) (C8.pe_c L.le hr (by decide) (by rfl) (pa_cons (pv 10) pa_nil)) (pe_tup (pa_cons (pe_lst pa_nil) (pa_cons (pv 10) pa_nil))) (nomark _)) (pw_or (pt_cmpR op_ne (pe_callB call_len_seq (by rfl) T.len PySem.boot_len (pa_cons (pe_ix ix_tup (C8.pe_c L.le hr (by decide) (by rfl) (pa_cons (pv 4) pa_nil)) pe_int (fun _ _ => rfl)) pa_nil)) (pe_callB call_len_seq (by rfl) T.len PySem.boot_len (pa_cons (pv 7) pa_nil)) (nomark _)) (pw_or1 (pt_cmpR (op_neD hr.units) (C8.pe_c L.mp hr (by decide) (by rfl) (pa_cons (pv 10) pa_nil)) (pe_lst pa_nil) (nomark _)))))) (pss_one (ps_ret pe_bl)) pss_nil))))))))))))) (pss_one (ps_ret (pe_cmpR (op_eqD hr.units) (C8.pe_c L.mp hr (by decide) (by rfl) (pa_cons (C8.pe_mk L.mkg hr (by decide) (by rfl) (pa_cons pe_int (pa_cons (pe_lst (pa_cons (pe_tup (pa_cons pe_int (pa_cons pe_int pa_nil))) (pa_cons (pe_tup (pa_cons pe_int (pa_cons pe_int pa_nil))) (pa_cons (pe_tup (pa_cons pe_int (pa_cons pe_int pa_nil))) pa_nil)))) pa_nil))) pa_nil)) (pe_lst pa_nil) (nomark _))))), ?_⟩
    have four : ∀ m : Nat, m ≤ 1000 → m ≤ sizeLine := fun m h => Nat.le_of_lt (small1000 h)
    refine ⟨_, rfl, a, ns, rfl, hS, hln, fun b l H1 s1 nb nl B => ?_⟩
    refine ⟨4, rfl, by decide, by decide, ?_⟩
    refine for_it (walk_range (lo := 0) (n := (4 : Int).toNat)) (fun i σ H' => ∃ v2 v3 v4 v5 v6 v7 v8 v9 v10 v11 : Option V, σ = [some (.ref a), some (.ref b), v2, v3, v4, v5, v6, v7, v8, v9, v10, v11] ∧ BagAt H' b l ns) ⟨_, _, _, _, _, _, _, _, _, _, rfl, B⟩ (fun _ _ _ _ _ => True.intro) ?_ ?_
    · rintro i x σ H2 H' hi ⟨v2, v3, v4, v5, v6, v7, v8, v9, v10, v11, rfl, B2⟩ ⟨rfl, rfl⟩
      -- the plan
      refine ⟨fun σ H' => ∃ v2 v4 v5 v6 v7 v8 v9 v10 v11 : Option V, ∃ (p q0 : Addr) (n : Nat) (ts : Es), σ = [some (.ref a), some (.ref b), v2, some (.ref p), v4, v5, v6, v7, v8, v9, v10, v11] ∧ BagAt H' b l ns ∧ PlanAt H' p q0 (n : Int) ts ∧ n ≤ 8 ∧ ts.length ≤ 18, ?_, ?_⟩
      · refine ⟨_, rfl, _, rfl, b, l, ns, 3, 6, rfl, B2, by decide, by decide, by decide, fun p0 q0 n0 ts0 H3 k3 B3 np nq PA hn hl => ?_⟩
        have n1 := PA.n1
        obtain ⟨n, rfl⟩ : ∃ n : Nat, n0 = (n : Int) := ⟨n0.toNat, (Int.toNat_of_nonneg (by omega)).symm⟩
        refine ⟨_, rfl, b, l, ns, 6, rfl, B3, by decide, by decide, fun v o v0 v1 BO => ?_⟩
        obtain ⟨m, rfl⟩ : ∃ m : Nat, v = (m : Int) := ⟨v.toNat, (Int.toNat_of_nonneg v0).symm⟩
        have PA := PA.keep' B3 (.updb (o := o))
        have B4 := B3.upd BO
        generalize upd H3 b o = H4 at *
        refine ⟨b, l, p0, q0, ns, n, m, 18, ts0, rfl, B4, PA, by omega, by omega, by decide, by omega, fun p q1 n2 us H5 k5 B5 PA5 h8 h18 => ?_⟩
        exact ⟨_, _, _, _, _, _, _, _, _, p, q1, n2, us, rfl, B5, PA5, h8, h18⟩
      clear B2
      rintro σ H3 ⟨v2, v4, v5, v6, v7, v8, v9, v10, v11, p, q0, n, ts, rfl, B3, PA, n8, l18⟩
      have n1 := PA.n1
      -- the graph, the pairs
      refine ⟨fun σ H' => ∃ v2 v6 v7 v8 v9 v10 v11 : Option V, ∃ (g D : Addr) (ds : Es), σ = [some (.ref a), some (.ref b), v2, some (.ref p), some (.ref g), some (.ref D), v6, v7, v8, v9, v10, v11] ∧ Tn C b l ns p q0 g D n ts ds H' ∧ psOf ds = mrgs n (psOf ts), ?_, ?_⟩
      · refine ⟨_, rfl, p, q0, (n : Int), ts, rfl, PA, by omega, by omega, fun g us H4 eqp s4 ng GA => ?_⟩
        have PA4 := PA.same s4
        refine ⟨_, rfl, p, q0, (n : Int), ts, rfl, PA4, by omega, fun D H5 ds s5 nD L5 e5 => ?_⟩
        rw [Int.toNat_natCast] at e5
        have G4 : Gok C H4 g n (psOf ts) := ⟨⟨us, GA, eqp⟩, PA.va.ps, by omega, n8, by rw [psL_len]; omega⟩
        exact ⟨_, _, rfl, _, _, _, _, _, _, _, g, D, ds, rfl, ⟨(B3.same s4).same s5, PA4.same s5, G4.same s5, L5⟩, e5⟩
      clear PA B3
      rintro σ H4 ⟨v2, v6, v7, v8, v9, v10, v11, g, D, ds, rfl, Z, ed⟩
      have ld : ds.length ≤ 64 := by
        have h1 := congrArg List.length ed
        have h2 := mrgsTo_len n (psOf ts) n
        have h3 : n * n ≤ 8 * 8 := Nat.mul_le_mul n8 n8
        rw [psL_len] at h1
        unfold mrgs at h1
        omega
      -- what is found
      refine ⟨_, rfl, g, n, psOf ts, rfl, Z.gr, fun Fo H5 fs s5 nF L5 e5 => ?_⟩
      have lf : fs.length ≤ 64 := by
        have h1 := congrArg List.length (e5.trans ed.symm)
        rw [psL_len, psL_len] at h1
        omega
      have ap := Z.apart nF
      have Z5 := Z.same s5
      refine ⟨_, rfl, _, rfl, _, _, rfl, lk_es (k := 2) L5 Z5.du (e5.trans ed.symm) (by omega), fun H6 s6 => ⟨true, rfl, if_f rfl ?_⟩⟩
      have Z6 := Z5.same s6
      have L6 := L5.same s6
      refine ⟨fun σ H' => ∃ v2 v6 v7 v8 v9 v10 v11 : Option V, σ = [some (.ref a), some (.ref b), v2, some (.ref p), some (.ref g), some (.ref D), v6, v7, v8, v9, v10, v11] ∧ Tn C b l ns p q0 g D n ts ds H', ?_, ?_⟩
      · refine ⟨_, rfl, .inl ⟨rfl, _, SqL.of L6.ls⟩, four 2 (by decide), fun t ht => ?_⟩
        have s7 := same_upd (o := .tup [.int 0, .int 0]) ht
        have Z7 := Z6.same s7
        have L7 := L6.same s7
        generalize upd H6 t (.tup [.int 0, .int 0]) = H7 at *
        refine ⟨Fo, _, _, rfl, rfl, L7.ls, by rw [vsOf_len]; exact small1000 (by omega), ?_⟩
        exact ⟨_, _, _, _, _, _, _, rfl, Z7.off L7.ls ap.1 ap.2.1 ap.2.2.1 ap.2.2.2⟩
      clear Z Z5 Z6 L5 L6 s5 s6 e5 nF ap
      rintro σ H5 ⟨v2, v6, v7, v8, v9, v10, v11, rfl, Z⟩
      -- the least plan and the least graph
      obtain ⟨st, m, qs, ex⟩ : ∃ (st : Ps) (m : Nat) (qs : Ps), lst n (psOf ts) = (st, m, qs) := ⟨_, _, _, rfl⟩
      have lst1 : (lst n (psOf ts)).1 = st := by rw [ex]
      have lst2 : (lst n (psOf ts)).2.1 = m := by rw [ex]
      have lst3 : (lst n (psOf ts)).2.2 = qs := by rw [ex]
      have ch := lst_chn n (psOf ts)
      have en := lst_end n (psOf ts)
      have ln := lst_len n (psOf ts)
      rw [lst1, lst2, lst3] at ch
      rw [lst2, lst3] at en
      rw [lst1] at ln
      refine ⟨_, rfl, p, q0, n, ts, rfl, Z.pl, by omega, by omega, fun t S p2 q2 us2 H6 s6 et SL PA2 e2 => ?_⟩
      rw [lst1] at SL
      rw [lst2] at PA2
      rw [lst3] at e2
      refine ⟨t, _, rfl, SqT.of et, rfl, _, _, rfl, _, _, rfl, rfl, ?_⟩
      have Z := Z.same s6
      refine ⟨fun σ H' => ∃ v2 v6 v11 : Option V, ∃ Sc g2 : Addr, σ = [some (.ref a), some (.ref b), v2, some (.ref p), some (.ref g), some (.ref D), v6, some (.ref S), some (.ref p2), some (.ref Sc), some (.ref g2), v11] ∧ Tn C b l ns p q0 g D n ts ds H' ∧ StL H' S st ∧ PlanAt H' p2 q2 (m : Int) us2 ∧ ChL CM H' Sc st ∧ Gok C H' g2 m qs ∧ S ≠ Sc ∧ Sc ≠ b ∧ Sc ≠ l ∧ Sc ≠ q0 ∧ Sc ≠ D, ?_, ?_⟩
      · refine ⟨_, rfl, g, n, psOf ts, rfl, Z.gr, fun t2 Sc g2 H7 s7 et2 nSc CL G2 _ => ?_⟩
        rw [lst1] at CL
        rw [lst2, lst3] at G2
        obtain ⟨es, eS, _⟩ := id SL
        have ap := Z.apart nSc
        exact ⟨t2, _, rfl, SqT.of et2, rfl, _, _, rfl, _, _, rfl, rfl, _, _, _, Sc, g2, rfl, Z.same s7, SL.same s7, PA2.same s7, CL, G2, ne_of_none eS nSc, ap.1, ap.2.1, ap.2.2.1, ap.2.2.2⟩
      clear Z SL PA2
      rintro σ H7 ⟨v2, v6, v11, Sc, g2, rfl, Z, SL, PA2, CL, G2, nSS, a1, a2, a3, a4⟩
      -- the chains are equal
      refine ⟨fun σ H' => ∃ v2 v6 v11 : Option V, σ = [some (.ref a), some (.ref b), v2, some (.ref p), some (.ref g), some (.ref D), v6, some (.ref S), some (.ref p2), some (.ref Sc), some (.ref g2), v11] ∧ Same H7 H', ?_, ?_⟩
      · obtain ⟨es, eS, lS, hSt⟩ := id SL
        refine ⟨_, rfl, _, rfl, S, _, SqL, rfl, .inl rfl, SqL.of eS, fun J w D3 hD3 => ?_⟩
        refine lc_it w (fun k H' => ∃ os : List Addr, Same H7 H' ∧ H' D3 = some (.lst (os.map V.ref)) ∧ os.length = k ∧ ∀ (j : Nat) (o : Addr) (pr : Int × Int), os[j]? = some o → st[j]? = some pr → MgO CM H' o pr.1 pr.2) ⟨[], same_upd hD3, upd_same, rfl, fun j o pr h => by simp at h⟩ (fun k H' _ pp => by obtain ⟨os, s, _⟩ := pp; exact SqL.of (s _ _ eS)) ?_ ?_
        · rintro k x H8 H9 hk ⟨os, s8, e8, l8, h8⟩ ⟨rfl, gx⟩
          rw [List.length_map] at hk
          rw [List.getElem?_map] at gx
          obtain ⟨d, hd, rfl⟩ := Option.map_eq_some_iff.mp gx
          obtain ⟨pr, hpr⟩ : ∃ pr, st[k]? = some pr := ⟨_, List.getElem?_eq_getElem (by omega)⟩
          refine ⟨rfl, ?_⟩
          refine ⟨_, rfl, d, pr.1, pr.2, rfl, s8 _ _ (hSt k d pr hd hpr), fun o Ha sa no MO => ?_⟩
          have ea := sa _ _ e8
          refine ⟨_, ea, by rw [List.length_map]; exact small1000 (by omega), os ++ [o], ?_, by rw [upd_same, List.map_append]; rfl, by simp [l8], fun j o2 p2 h1 h2 => ?_⟩
          · intro c u ecu
            rw [upd_ne (ne_of_none ecu hD3)]
            exact sa _ _ (s8 _ _ ecu)
          · by_cases cj : j < os.length
            · rw [List.getElem?_append_left cj] at h1
              exact ((h8 j o2 p2 h1 h2).same sa).off ea
            · have cj2 : j = os.length := by
                have := (List.getElem?_eq_some_iff.mp h1).1
                rw [List.length_append, List.length_singleton] at this
                omega
              rw [cj2, List.getElem?_concat_length] at h1
              rw [cj2, l8, hpr] at h2
              cases h1
              cases h2
              exact MO.off ea
        · rintro H8 ⟨os, s8, e8, l8, h8⟩
          rw [List.length_map, lS] at l8
          obtain ⟨cs, c1, c2, c3⟩ := CL.same s8
          refine ⟨⟨Sc, D3, _, _, rfl, rfl, c1, e8, by rw [List.length_map, List.length_map, c2, l8], fun j x y hx hy => ?_⟩, fun H9 s9 => ⟨false, rfl, if_f rfl ?_⟩⟩
          · rw [List.getElem?_map] at hx hy
            obtain ⟨o1, ho1, rfl⟩ := Option.map_eq_some_iff.mp hx
            obtain ⟨o2, ho2, rfl⟩ := Option.map_eq_some_iff.mp hy
            have jl := (List.getElem?_eq_some_iff.mp ho2).1
            obtain ⟨pr, hpr⟩ : ∃ pr, st[j]? = some pr := ⟨_, List.getElem?_eq_getElem (by omega)⟩
            have m1 := c3 j o1 pr ho1 hpr
            have m2 := h8 j o2 pr ho2 hpr
            obtain ⟨d1, f1⟩ := id m1
            obtain ⟨d2, f2⟩ := id m2
            exact ⟨o1, o2, d1, d2, _, _, rfl, rfl, f1, f2, pr.1, pr.2, m1, m2⟩
          · have s79 : Same H7 H9 := s8.trans s9
            refine ⟨_, rfl, g2, m, qs, rfl, G2.same s79, fun p3 q3 us3 Ha sa PA3 e3 => ?_⟩
            have PA2a := (PA2.same s79).same sa
            have lu : us3.length ≤ 1000 := by
              have h1 := (lst_valid n (psOf ts) Z.pl.va.ps (by omega)).2.2.2
              rw [lst3, psL_len, ← e3, psL_len] at h1
              omega
            refine ⟨_, rfl, _, _, rfl, lk_plan (k := 1) PA3 PA2a (e3.trans e2.symm) lu, fun Hb sb => ⟨true, rfl, if_f rfl ⟨_, _, _, rfl, (s79.trans sa).trans sb⟩⟩⟩
      rintro σ H8 ⟨v2, v6, v11, rfl, s8⟩
      have Z := Z.same s8
      have SL := SL.same s8
      have CL := CL.same s8
      have G2 := G2.same s8
      clear s8 PA2
      -- again, and the chain leads there
      refine ⟨fun σ H' => ∃ v2 v6 v11 : Option V, σ = [some (.ref a), some (.ref b), v2, some (.ref p), some (.ref g), some (.ref D), v6, some (.ref S), some (.ref p2), some (.ref Sc), some (.ref g2), v11] ∧ Same H8 H', ?_, ?_⟩
      · refine ⟨_, rfl, g, n, psOf ts, rfl, Z.gr, fun Fo H9 fs s9 nF L9 e9 => ?_⟩
        have lf : fs.length ≤ 64 := by
          have h1 := congrArg List.length (e9.trans ed.symm)
          rw [psL_len, psL_len] at h1
          omega
        refine ⟨_, rfl, _, _, rfl, lk_es (k := 2) L9 (Z.same s9).du (e9.trans ed.symm) (by omega), fun Ha sa => ⟨true, rfl, if_f rfl ?_⟩⟩
        have sA := s9.trans sa
        refine ⟨_, rfl, _, rfl, _, rfl, g, g2, Sc, n, m, psOf ts, st, qs, rfl, Z.gr.same sA, G2.same sA, CL.same sA, ch, by omega, fun Hb sb => ⟨true, rfl, if_f rfl ⟨_, _, _, rfl, sA.trans sb⟩⟩⟩
      rintro σ H9 ⟨v2, v6, v11, rfl, s9⟩
      have Z := Z.same s9
      have SL := SL.same s9
      have CL := CL.same s9
      have G2 := G2.same s9
      clear s9
      -- one more merge in the chain
      refine ⟨fun σ H' => ∃ v2 v6 v11 : Option V, σ = [some (.ref a), some (.ref b), v2, some (.ref p), some (.ref g), some (.ref D), v6, some (.ref S), some (.ref p2), some (.ref Sc), some (.ref g2), v11] ∧ Tn C b l ns p q0 g D n ts ds H' ∧ StL H' S st ∧ Gok C H' g2 m qs, ?_, ?_⟩
      · obtain ⟨cs, c1, c2, c3⟩ := CL
        refine ⟨_, rfl, .inl ⟨rfl, _, SqL.of c1⟩, ?_⟩
        intro o dx no ndx nex
        have sa := make_same (C := CM) no ndx nex
        refine ⟨o, dx, 0, 1, rfl, upd_same, fun Hb kp MO => ⟨rfl, ?_⟩⟩
        have sb : Same H9 Hb := fun c u ecu => kp c u (ne_of_none ecu no) (sa _ _ ecu)
        have cb := sb _ _ c1
        refine ⟨Sc, _, _, rfl, rfl, cb, by rw [List.length_map]; exact small1000 (by omega), ?_⟩
        exact ⟨_, _, _, rfl, (Z.same sb).off cb a1 a2 a3 a4, (SL.same sb).off cb nSS, (G2.same sb).off cb⟩
      clear Z SL CL G2
      rintro σ Ha ⟨v2, v6, v11, rfl, Z, SL, G2⟩
      -- the last graph is its own least graph
      refine ⟨_, rfl, g2, m, qs, rfl, G2, fun t3 S3 g3 Hb sb et3 nS3 CL3 G3 own => ?_⟩
      rw [own en] at et3
      rw [lst_done en] at CL3
      obtain ⟨os3, o1, o2, _⟩ := CL3
      have os0 : os3 = [] := List.length_eq_zero_iff.mp o2
      rw [os0] at o1
      refine ⟨(by show 0 ≤ sizeLine; exact Nat.zero_le _), fun Z0 hZ0 => ?_⟩
      have sc := same_upd (o := .lst []) hZ0
      have ez : upd Hb Z0 (.lst []) Z0 = some (.lst []) := upd_same
      generalize upd Hb Z0 (.lst []) = Hc at *
      refine ⟨_, rfl, (by show 2 ≤ sizeLine; decide), fun t4 ht4 => ?_⟩
      have sd := same_upd (o := .tup [.ref Z0, .ref g2]) ht4
      have e4 : upd Hc t4 (.tup [.ref Z0, .ref g2]) t4 = some (.tup [.ref Z0, .ref g2]) := upd_same
      generalize upd Hc t4 (.tup [.ref Z0, .ref g2]) = Hd at *
      have scd := sc.trans sd
      refine ⟨⟨t3, t4, _, _, rfl, rfl, SqT.of (scd _ _ et3), SqT.of e4, .cons (.inl ⟨S3, Z0, [], [], rfl, rfl, scd _ _ o1, sd _ _ ez, .nil⟩) (.cons (.inr ⟨g2, rfl, rfl⟩) .nil)⟩, fun He se => ⟨false, rfl, if_f rfl ?_⟩⟩
      have sE : Same Ha He := (sb.trans scd).trans se
      have Z := Z.same sE
      have SL := SL.same sE
      have G2 := G2.same sE
      refine ⟨_, rfl, g, n, psOf ts, rfl, Z.gr, fun t5 S5 g5 Hf sf et5 nS5 CL5 G5 _ => ?_⟩
      rw [lst1] at CL5
      obtain ⟨os5, p1, p2', _⟩ := CL5
      obtain ⟨es, eS, lS, _⟩ := SL.same sf
      refine ⟨t5, _, _, _, rfl, rfl, SqT.of et5, at0, S5, _, rfl, .inl (SqL.of p1), _, rfl, S, _, rfl, .inl (SqL.of eS), rfl, _, rfl, if_f ?_ ?_⟩
      · rw [List.length_map, List.length_map, p2', lS, decide_eq_true rfl]
        rfl
      refine ⟨_, rfl, g2, m, qs, rfl, G2.same sf, fun D6 Hg us6 sg nD6 L6 e6 => ?_⟩
      rw [en] at e6
      have u0 : us6 = [] := by
        cases us6 with
        | nil => rfl
        | cons x r => cases e6
      subst u0
      refine ⟨(by show 0 ≤ sizeLine; exact Nat.zero_le _), fun Z1 hZ1 => ?_⟩
      have sh := same_upd (o := .lst []) hZ1
      refine ⟨.list [], .list [], .lst (SqL.of (sh _ _ L6.ls)) .nil, .lst (SqL.of upd_same) .nil, sh0, sh0, _, rfl, if_f rfl ?_⟩
      exact ⟨_, _, _, _, _, _, _, _, _, _, rfl, ((Z.same sf).same sg).bag.same sh⟩
    · rintro σ H2 ⟨v2, v3, v4, v5, v6, v7, v8, v9, v10, v11, rfl, B2⟩
      clear B2
      refine ⟨four 2 (by decide), fun t1 ht1 => ?_⟩
      have s1 := same_upd (o := .tup [.int 0, .int 0]) ht1
      have e1 : upd H2 t1 (.tup [.int 0, .int 0]) t1 = some (.tup [.int 0, .int 0]) := upd_same
      generalize upd H2 t1 (.tup [.int 0, .int 0]) = H3 at *
      refine ⟨four 2 (by decide), fun t2 ht2 => ?_⟩
      have s2 := same_upd (o := .tup [.int 0, .int 1]) ht2
      have e2 : upd H3 t2 (.tup [.int 0, .int 1]) t2 = some (.tup [.int 0, .int 1]) := upd_same
      generalize upd H3 t2 (.tup [.int 0, .int 1]) = H4 at *
      refine ⟨four 2 (by decide), fun t3 ht3 => ?_⟩
      have s3 := same_upd (o := .tup [.int 1, .int 0]) ht3
      have e3 : upd H4 t3 (.tup [.int 1, .int 0]) t3 = some (.tup [.int 1, .int 0]) := upd_same
      generalize upd H4 t3 (.tup [.int 1, .int 0]) = H5 at *
      refine ⟨four 3 (by decide), fun e he => ?_⟩
      have s4 := same_upd (o := .lst [.ref t1, .ref t2, .ref t3]) he
      have e4 : upd H5 e (.lst [.ref t1, .ref t2, .ref t3]) e = some (.lst (vsOf [(t1, 0, 0), (t2, 0, 1), (t3, 1, 0)])) := upd_same
      generalize upd H5 e (.lst [.ref t1, .ref t2, .ref t3]) = H6 at *
      intro g dx hg hdx nex
      have s5 := make_same (C := C) hg hdx nex
      have s45 := s4.trans s5
      have s35 := s3.trans s45
      have s25 := s2.trans s35
      have ed : Ed (upd (upd H6 dx (.own g)) g (.ins C dx [])) [(t1, 0, 0), (t2, 0, 1), (t3, 1, 0)] := fun x hx => by
        simp only [List.mem_cons, List.not_mem_nil, or_false] at hx
        rcases hx with rfl | rfl | rfl
        · exact s25 _ _ e1
        · exact s35 _ _ e2
        · exact s45 _ _ e3
      refine ⟨g, dx, e, 2, _, HO.lst, rfl, upd_same, .inl rfl, s5 _ _ e4, ed, VaP.es va3, by decide, by decide, (by show 3 ≤ 24; decide), fun us H7 hus kp GA => ⟨rfl, ?_⟩⟩
      refine ⟨g, 2, ps3, rfl, ⟨⟨us, GA, hus⟩, va3, by decide, by decide, by decide⟩, fun D H8 ds s8 nD L8 e8 => ?_⟩
      rw [m3] at e8
      have d0 : ds = [] := by
        cases ds with
        | nil => rfl
        | cons x r => cases e8
      subst d0
      refine ⟨(by show 0 ≤ sizeLine; exact Nat.zero_le _), fun Z hZ => ?_⟩
      have s9 := same_upd (o := .lst []) hZ
      exact ⟨.list [], .list [], .lst (SqL.of (s9 _ _ L8.ls)) .nil, .lst (SqL.of upd_same) .nil, sh0, sh0, q _⟩
end
end Lw
set_option Elab.async false
set_option linter.all false
set_option maxRecDepth 100000
namespace Lw
open PySem L2
theorem exm_own {K : PySem.W.Frag} {C S : Addr} (h1 : PySem.W.subIn K (.ref S) (.type "BaseException") = some true) (h2 : PySem.W.isClsIn K S = true) (h3 : PySem.W.typeIn K (.ref S) = some (.type "type")) (h4 : PySem.W.subIn K (.ref C) (.ref S) = some true) :
    PySem.W.exmOne K (.ref C) (.ref S) = some true := by
  have e1 : (PySem.W.subIn K (.ref S) (.type "BaseException") == some true) = true := by rw [h1] <;> rfl
  have e2 : ((PySem.W.clsIn K S).isSome && PySem.W.typeIn K (.ref S) == some (.type "type")) = true := by
    have h2' : (PySem.W.clsIn K S).isSome = true := h2
    rw [h2', h3] <;> rfl
  show (if (PySem.W.subIn K (.ref S) (.type "BaseException") == some true) = true then (if ((PySem.W.clsIn K S).isSome && PySem.W.typeIn K (.ref S) == some (.type "type")) = true then PySem.W.subIn K (.ref C) (.ref S) else none) else none) = some true
  rw [if_pos e1, if_pos e2]
  exact h4
theorem hd_at {K : PySem.W.Frag} {c P : Addr} (e : PySem.W.codeHdIn K c P = true) : ∃ (e : Value) (dd : Option Addr) (vs : Array Value) (sl : Array (Option Value)), K.lookup c = some ⟨e, dd, .fields vs, sl⟩ ∧ vs[11]? = some (.ref P) := by
  unfold PySem.W.codeHdIn at e
  split at e
  · rename_i vs _ hk
    simp only [Bool.and_eq_true] at e
    obtain ⟨⟨⟨⟨⟨e1, _⟩, _⟩, _⟩, _⟩, _⟩ := e
    split at e1
    · rename_i P' h11
      have hP : P' = P := beq_iff_eq.mp e1
      subst hP
      exact ⟨_, _, _, _, hk, h11⟩
    · cases e1
  · cases e
theorem kit_no {K : PySem.W.Frag} {C : Addr} {T : String} (h1 : PySem.W.isClsIn K C = true) (h2 : PySem.W.typeIn K (.ref C) = some (.type "type")) (h3 : PySem.W.subIn K (.type T) (.ref C) = some false) : PySem.W.kitOne K (.type T) (.ref C) = some false := by
  have e1 : ((PySem.W.clsIn K C).isSome && PySem.W.typeIn K (.ref C) == some (.type "type")) = true := by
    have h1' : (PySem.W.clsIn K C).isSome = true := h1
    rw [h1', h2]
    rfl
  show (if (Value.type T == Value.ref C) = true then some true else if ((PySem.W.clsIn K C).isSome && PySem.W.typeIn K (.ref C) == some (.type "type")) = true then PySem.W.subIn K (.type T) (.ref C) else none) = some false
  rw [if_neg (show ¬ ((Value.type T == Value.ref C) = true) from Bool.false_ne_true), if_pos e1]
  exact h3
theorem kit_me {K : PySem.W.Frag} {C : Addr} : PySem.W.kitOne K (.ref C) (.ref C) = some true := by
  unfold PySem.W.kitOne
  simp
set_option maxHeartbeats 4000000 in
theorem all_mk {l : PySem.W.OpenLaw} {w : World} {K : PySem.W.Frag} {h : Heap} {mg : Str → Option Value} {fa C f_bag f_pull f_of f_plan f_like f_check f_init f_graph f_cnt f_eds f_edg f_eq p_st f_st CM f_mi f_meq f_mck f_mkp f_mns f_mrs f_mp f_le f_cg f_cr f_gr f_lt f_lcn f_mgr f_mrg f_lle f_lrn f_lsp f_shf f_stf f_std f_sps f_po f_stp f_law : Addr} (X : K.In h) (G : h.Ns mainGlobals mg) (hfa : mg "law" = some (.ref fa))
    {t8 t24 : Tok}
    {od_bag an_bag : Option Addr} {sl_bag : Array (Option Value)} {oc_bag kV_bag dc_bag pm_bag cd_bag ct_bag : Value}
    {od_pull an_pull : Option Addr} {sl_pull : Array (Option Value)} {oc_pull kV_pull dc_pull pm_pull cd_pull ct_pull : Value}
    {od_of an_of : Option Addr} {sl_of : Array (Option Value)} {oc_of kV_of dc_of pm_of cd_of ct_of : Value}
    {od_plan an_plan : Option Addr} {sl_plan : Array (Option Value)} {oc_plan kV_plan dc_plan pm_plan cd_plan ct_plan : Value}
    {od_like an_like : Option Addr} {sl_like : Array (Option Value)} {oc_like kV_like dc_like pm_like cd_like ct_like : Value}
    {od_check an_check : Option Addr} {sl_check : Array (Option Value)} {oc_check kV_check dc_check pm_check cd_check ct_check : Value}
    {od_init an_init : Option Addr} {sl_init : Array (Option Value)} {oc_init kV_init dc_init pm_init cd_init ct_init : Value}
    {od_graph an_graph : Option Addr} {sl_graph : Array (Option Value)} {oc_graph kV_graph dc_graph pm_graph cd_graph ct_graph : Value}
    {od_cnt an_cnt : Option Addr} {sl_cnt : Array (Option Value)} {oc_cnt kV_cnt dc_cnt pm_cnt cd_cnt ct_cnt : Value}
    {od_eds an_eds : Option Addr} {sl_eds : Array (Option Value)} {oc_eds kV_eds dc_eds pm_eds cd_eds ct_eds : Value}
    {od_edg an_edg : Option Addr} {sl_edg : Array (Option Value)} {oc_edg kV_edg dc_edg pm_edg cd_edg ct_edg : Value}
    {od_eq an_eq : Option Addr} {sl_eq : Array (Option Value)} {oc_eq kV_eq dc_eq pm_eq cd_eq ct_eq : Value}
    {re_st : List Value}
    {od_st an_st : Option Addr} {sl_st : Array (Option Value)} {oc_st kV_st dc_st pm_st cd_st ct_st : Value}
    {od_mi an_mi : Option Addr} {sl_mi : Array (Option Value)} {oc_mi kV_mi dc_mi pm_mi cd_mi ct_mi : Value}
    {od_meq an_meq : Option Addr} {sl_meq : Array (Option Value)} {oc_meq kV_meq dc_meq pm_meq cd_meq ct_meq : Value}
    {od_mck an_mck : Option Addr} {sl_mck : Array (Option Value)} {oc_mck kV_mck dc_mck pm_mck cd_mck ct_mck : Value}
    {od_mkp an_mkp : Option Addr} {sl_mkp : Array (Option Value)} {oc_mkp kV_mkp dc_mkp pm_mkp cd_mkp ct_mkp : Value}
    {od_mns an_mns : Option Addr} {sl_mns : Array (Option Value)} {oc_mns kV_mns dc_mns pm_mns cd_mns ct_mns : Value}
    {od_mrs an_mrs : Option Addr} {sl_mrs : Array (Option Value)} {oc_mrs kV_mrs dc_mrs pm_mrs cd_mrs ct_mrs : Value}
    {od_mp an_mp : Option Addr} {sl_mp : Array (Option Value)} {oc_mp kV_mp dc_mp pm_mp cd_mp ct_mp : Value}
    {od_le an_le : Option Addr} {sl_le : Array (Option Value)} {oc_le kV_le dc_le pm_le cd_le ct_le : Value}
    {t60 : Tok}
    {od_cg an_cg : Option Addr} {sl_cg : Array (Option Value)} {oc_cg kV_cg dc_cg pm_cg cd_cg ct_cg : Value}
    {od_cr an_cr : Option Addr} {sl_cr : Array (Option Value)} {oc_cr kV_cr dc_cr pm_cr cd_cr ct_cr : Value}
    {od_gr an_gr : Option Addr} {sl_gr : Array (Option Value)} {oc_gr kV_gr dc_gr pm_gr cd_gr ct_gr : Value}
    {od_lt an_lt : Option Addr} {sl_lt : Array (Option Value)} {oc_lt kV_lt dc_lt pm_lt cd_lt ct_lt : Value}
    {od_lcn an_lcn : Option Addr} {sl_lcn : Array (Option Value)} {oc_lcn kV_lcn dc_lcn pm_lcn cd_lcn ct_lcn : Value}
    {od_mgr an_mgr : Option Addr} {sl_mgr : Array (Option Value)} {oc_mgr kV_mgr dc_mgr pm_mgr cd_mgr ct_mgr : Value}
    {od_mrg an_mrg : Option Addr} {sl_mrg : Array (Option Value)} {oc_mrg kV_mrg dc_mrg pm_mrg cd_mrg ct_mrg : Value}
    {od_lle an_lle : Option Addr} {sl_lle : Array (Option Value)} {oc_lle kV_lle dc_lle pm_lle cd_lle ct_lle : Value}
    {od_lrn an_lrn : Option Addr} {sl_lrn : Array (Option Value)} {oc_lrn kV_lrn dc_lrn pm_lrn cd_lrn ct_lrn : Value}
    {od_lsp an_lsp : Option Addr} {sl_lsp : Array (Option Value)} {oc_lsp kV_lsp dc_lsp pm_lsp cd_lsp ct_lsp : Value}
    {od_shf an_shf : Option Addr} {sl_shf : Array (Option Value)} {oc_shf kV_shf dc_shf pm_shf cd_shf ct_shf : Value}
    {od_stf an_stf : Option Addr} {sl_stf : Array (Option Value)} {oc_stf kV_stf dc_stf pm_stf cd_stf ct_stf : Value}
    {od_std an_std : Option Addr} {sl_std : Array (Option Value)} {oc_std kV_std dc_std pm_std cd_std ct_std : Value}
    {od_sps an_sps : Option Addr} {sl_sps : Array (Option Value)} {oc_sps kV_sps dc_sps pm_sps cd_sps ct_sps : Value}
    {od_po an_po : Option Addr} {sl_po : Array (Option Value)} {oc_po kV_po dc_po pm_po cd_po ct_po : Value}
    {od_stp an_stp : Option Addr} {sl_stp : Array (Option Value)} {oc_stp kV_stp dc_stp pm_stp cd_stp ct_stp : Value}
    {od_law an_law : Option Addr} {sl_law : Array (Option Value)} {oc_law kV_law dc_law pm_law cd_law ct_law : Value}
    (z_len : PySem.W.nsIn K mainGlobals "len" = some none)
    (z_list : PySem.W.nsIn K mainGlobals "list" = some none)
    (z_tuple : PySem.W.nsIn K mainGlobals "tuple" = some none)
    (z_bool : PySem.W.nsIn K mainGlobals "bool" = some none)
    (z_int : PySem.W.nsIn K mainGlobals "int" = some none)
    (z_str : PySem.W.nsIn K mainGlobals "str" = some none)
    (z_isinstance : PySem.W.nsIn K mainGlobals "isinstance" = some none)
    (z_all : PySem.W.nsIn K mainGlobals "all" = some none)
    (z_zip : PySem.W.nsIn K mainGlobals "zip" = some none)
    (z_range : PySem.W.nsIn K mainGlobals "range" = some none)
    (z_enumerate : PySem.W.nsIn K mainGlobals "enumerate" = some none)
    (z_any : PySem.W.nsIn K mainGlobals "any" = some none)
    (aC : PySem.W.nsIn K mainGlobals "Graph" = some (some (.ref C)))
    (gpg : PySem.W.plainGet K C Str.empty = true)
    (ghd : PySem.W.hasDictIn K C = true)
    (gpo : PySem.W.plainOver K C = true)
    (gsa : PySem.W.findIn K (.ref C) "__setattr__" = some (some (.builtin "object.__setattr__")))
    (gmk : PySem.W.makesIn K C = true)
    (gkc : PySem.W.keepIn K (.ref C) = true)
    (gnS : PySem.W.findIn K (.ref C) "state_count" = some none)
    (gnE : PySem.W.findIn K (.ref C) "edge_pairs" = some none)
    (grd : PySem.W.readsIn K C (.type "type") = true)
    (gga : PySem.W.specialIn K (.ref C) "__getattribute__" = some (some (.builtin "type.__getattribute__")))
    (gv8 : PySem.W.findCls K (.ref C) (.type "type") "MAX_STATES" = some (.val (.int 8 t8)))
    (gv24 : PySem.W.findCls K (.ref C) (.type "type") "MAX_EDGES" = some (.val (.int 24 t24)))
    (iha : PySem.W.findIn K (.ref C) "__class__" = some (some (.builtin "object.__class__")))
    (ihn : PySem.W.specialIn K (.builtin "object.__class__") "__get__" = some (some (.builtin "getset_descriptor.__get__")))
    (ihtk : PySem.W.takesIn K (.builtin "object.__class__") = some true)
    (ihm : PySem.W.mroIn K C (.type "object") = some true)
    (iCl : PySem.W.isClsIn K C = true)
    (tyC : PySem.W.typeIn K (.ref C) = some (.type "type"))
    (qn : PySem.W.subIn K (.type "NoneType") (.ref C) = some false)
    (qi : PySem.W.subIn K (.type "int") (.ref C) = some false)
    (ql : PySem.W.subIn K (.type "list") (.ref C) = some false)
    (qt : PySem.W.subIn K (.type "tuple") (.ref C) = some false)
    (a_bag : PySem.W.nsIn K mainGlobals "_law_bag" = some (some (.ref f_bag)))
    (l_bag : K.lookup f_bag = some ⟨oc_bag, od_bag, .func (PySem.W.fnOf "_law_bag" "_law_bag" (defArgs sBag) (defBody sBag) (defScope sBag) .none kV_bag dc_bag pm_bag an_bag cd_bag ct_bag), sl_bag⟩)
    (c_bag : PySem.W.codeIn K cd_bag "_law_bag" = true)
    (k_bag : PySem.W.keepIn K (.ref f_bag) = true)
    (a_pull : PySem.W.nsIn K mainGlobals "_law_pull" = some (some (.ref f_pull)))
    (l_pull : K.lookup f_pull = some ⟨oc_pull, od_pull, .func (PySem.W.fnOf "_law_pull" "_law_pull" (defArgs sPull) (defBody sPull) (defScope sPull) .none kV_pull dc_pull pm_pull an_pull cd_pull ct_pull), sl_pull⟩)
    (c_pull : PySem.W.codeIn K cd_pull "_law_pull" = true)
    (k_pull : PySem.W.keepIn K (.ref f_pull) = true)
    (a_of : PySem.W.nsIn K mainGlobals "_law_of" = some (some (.ref f_of)))
    (l_of : K.lookup f_of = some ⟨oc_of, od_of, .func (PySem.W.fnOf "_law_of" "_law_of" (defArgs sOf) (defBody sOf) (defScope sOf) .none kV_of dc_of pm_of an_of cd_of ct_of), sl_of⟩)
    (c_of : PySem.W.codeIn K cd_of "_law_of" = true)
    (k_of : PySem.W.keepIn K (.ref f_of) = true)
    (a_plan : PySem.W.nsIn K mainGlobals "_law_plan" = some (some (.ref f_plan)))
    (l_plan : K.lookup f_plan = some ⟨oc_plan, od_plan, .func (PySem.W.fnOf "_law_plan" "_law_plan" (defArgs sPlan) (defBody sPlan) (defScope sPlan) .none kV_plan dc_plan pm_plan an_plan cd_plan ct_plan), sl_plan⟩)
    (c_plan : PySem.W.codeIn K cd_plan "_law_plan" = true)
    (k_plan : PySem.W.keepIn K (.ref f_plan) = true)
    (a_like : PySem.W.nsIn K mainGlobals "_law_like" = some (some (.ref f_like)))
    (l_like : K.lookup f_like = some ⟨oc_like, od_like, .func (PySem.W.fnOf "_law_like" "_law_like" (defArgs sLike) (defBody sLike) (defScope sLike) .none kV_like dc_like pm_like an_like cd_like ct_like), sl_like⟩)
    (c_like : PySem.W.codeIn K cd_like "_law_like" = true)
    (k_like : PySem.W.keepIn K (.ref f_like) = true)
    (a_check : PySem.W.nsIn K mainGlobals "check_edges" = some (some (.ref f_check)))
    (l_check : K.lookup f_check = some ⟨oc_check, od_check, .func (PySem.W.fnOf "check_edges" "check_edges" (defArgs sCheck) (defBody sCheck) (defScope sCheck) .none kV_check dc_check pm_check an_check cd_check ct_check), sl_check⟩)
    (c_check : PySem.W.codeIn K cd_check "check_edges" = true)
    (k_check : PySem.W.keepIn K (.ref f_check) = true)
    (a_init : PySem.W.findIn K (.ref C) "__init__" = some (some (.ref f_init)))
    (i_init : PySem.W.isFn K (.ref f_init) = true)
    (l_init : K.lookup f_init = some ⟨oc_init, od_init, .func (PySem.W.fnOf "__init__" "Graph.__init__" (defArgs sInit) (defBody sInit) (defScope sInit) .none kV_init dc_init pm_init an_init cd_init ct_init), sl_init⟩)
    (c_init : PySem.W.codeIn K cd_init "Graph.__init__" = true)
    (k_init : PySem.W.keepIn K (.ref f_init) = true)
    (a_graph : PySem.W.nsIn K mainGlobals "_law_graph" = some (some (.ref f_graph)))
    (l_graph : K.lookup f_graph = some ⟨oc_graph, od_graph, .func (PySem.W.fnOf "_law_graph" "_law_graph" (defArgs sGraph) (defBody sGraph) (defScope sGraph) .none kV_graph dc_graph pm_graph an_graph cd_graph ct_graph), sl_graph⟩)
    (c_graph : PySem.W.codeIn K cd_graph "_law_graph" = true)
    (k_graph : PySem.W.keepIn K (.ref f_graph) = true)
    (a_cnt : PySem.W.findIn K (.ref C) "counts" = some (some (.ref f_cnt)))
    (i_cnt : PySem.W.isFn K (.ref f_cnt) = true)
    (l_cnt : K.lookup f_cnt = some ⟨oc_cnt, od_cnt, .func (PySem.W.fnOf "counts" "Graph.counts" (defArgs sCounts) (defBody sCounts) (defScope sCounts) .none kV_cnt dc_cnt pm_cnt an_cnt cd_cnt ct_cnt), sl_cnt⟩)
    (c_cnt : PySem.W.codeIn K cd_cnt "Graph.counts" = true)
    (k_cnt : PySem.W.keepIn K (.ref f_cnt) = true)
    (a_eds : PySem.W.findIn K (.ref C) "edges" = some (some (.ref f_eds)))
    (i_eds : PySem.W.isFn K (.ref f_eds) = true)
    (l_eds : K.lookup f_eds = some ⟨oc_eds, od_eds, .func (PySem.W.fnOf "edges" "Graph.edges" (defArgs sEdges) (defBody sEdges) (defScope sEdges) .none kV_eds dc_eds pm_eds an_eds cd_eds ct_eds), sl_eds⟩)
    (c_eds : PySem.W.codeIn K cd_eds "Graph.edges" = true)
    (k_eds : PySem.W.keepIn K (.ref f_eds) = true)
    (a_edg : PySem.W.findIn K (.ref C) "edge" = some (some (.ref f_edg)))
    (i_edg : PySem.W.isFn K (.ref f_edg) = true)
    (l_edg : K.lookup f_edg = some ⟨oc_edg, od_edg, .func (PySem.W.fnOf "edge" "Graph.edge" (defArgs sEdge) (defBody sEdge) (defScope sEdge) .none kV_edg dc_edg pm_edg an_edg cd_edg ct_edg), sl_edg⟩)
    (c_edg : PySem.W.codeIn K cd_edg "Graph.edge" = true)
    (k_edg : PySem.W.keepIn K (.ref f_edg) = true)
    (a_eq : PySem.W.findIn K (.ref C) "__eq__" = some (some (.ref f_eq)))
    (i_eq : PySem.W.isFn K (.ref f_eq) = true)
    (l_eq : K.lookup f_eq = some ⟨oc_eq, od_eq, .func (PySem.W.fnOf "__eq__" "Graph.__eq__" (defArgs sEq) (defBody sEq) (defScope sEq) .none kV_eq dc_eq pm_eq an_eq cd_eq ct_eq), sl_eq⟩)
    (c_eq : PySem.W.codeIn K cd_eq "Graph.__eq__" = true)
    (k_eq : PySem.W.keepIn K (.ref f_eq) = true)
    (a_st : PySem.W.findIn K (.ref C) "states" = some (some (.ref p_st)))
    (g_st : PySem.W.specialIn K (.ref p_st) "__get__" = some (some (.builtin "property.__get__")))
    (t_st : PySem.W.takesIn K (.ref p_st) = some true)
    (r_st : PySem.W.recIn K p_st "property" = some (.ref f_st :: re_st))
    (l_st : K.lookup f_st = some ⟨oc_st, od_st, .func (PySem.W.fnOf "states" "Graph.states" (defArgs sStates) (defBody sStates) (defScope sStates) .none kV_st dc_st pm_st an_st cd_st ct_st), sl_st⟩)
    (c_st : PySem.W.codeIn K cd_st "Graph.states" = true)
    (k_st : PySem.W.keepIn K (.ref f_st) = true)
    (aCM : PySem.W.nsIn K mainGlobals "Merge" = some (some (.ref CM)))
    (pgM : PySem.W.plainGet K CM Str.empty = true)
    (hdM : PySem.W.hasDictIn K CM = true)
    (poM : PySem.W.plainOver K CM = true)
    (saM : PySem.W.findIn K (.ref CM) "__setattr__" = some (some (.builtin "object.__setattr__")))
    (mkM : PySem.W.makesIn K CM = true)
    (kcM : PySem.W.keepIn K (.ref CM) = true)
    (haM : PySem.W.findIn K (.ref CM) "__class__" = some (some (.builtin "object.__class__")))
    (hmM : PySem.W.mroIn K CM (.type "object") = some true)
    (nlow_M : PySem.W.findIn K (.ref CM) "low" = some none)
    (nhigh_M : PySem.W.findIn K (.ref CM) "high" = some none)
    (a_mi : PySem.W.findIn K (.ref CM) "__init__" = some (some (.ref f_mi)))
    (i_mi : PySem.W.isFn K (.ref f_mi) = true)
    (l_mi : K.lookup f_mi = some ⟨oc_mi, od_mi, .func (PySem.W.fnOf "__init__" "Merge.__init__" (defArgs sMI) (defBody sMI) (defScope sMI) .none kV_mi dc_mi pm_mi an_mi cd_mi ct_mi), sl_mi⟩)
    (c_mi : PySem.W.codeIn K cd_mi "Merge.__init__" = true)
    (k_mi : PySem.W.keepIn K (.ref f_mi) = true)
    (a_meq : PySem.W.findIn K (.ref CM) "__eq__" = some (some (.ref f_meq)))
    (i_meq : PySem.W.isFn K (.ref f_meq) = true)
    (l_meq : K.lookup f_meq = some ⟨oc_meq, od_meq, .func (PySem.W.fnOf "__eq__" "Merge.__eq__" (defArgs sMEq) (defBody sMEq) (defScope sMEq) .none kV_meq dc_meq pm_meq an_meq cd_meq ct_meq), sl_meq⟩)
    (c_meq : PySem.W.codeIn K cd_meq "Merge.__eq__" = true)
    (k_meq : PySem.W.keepIn K (.ref f_meq) = true)
    (a_mck : PySem.W.findIn K (.ref CM) "check" = some (some (.ref f_mck)))
    (i_mck : PySem.W.isFn K (.ref f_mck) = true)
    (l_mck : K.lookup f_mck = some ⟨oc_mck, od_mck, .func (PySem.W.fnOf "check" "Merge.check" (defArgs sMCk) (defBody sMCk) (defScope sMCk) .none kV_mck dc_mck pm_mck an_mck cd_mck ct_mck), sl_mck⟩)
    (c_mck : PySem.W.codeIn K cd_mck "Merge.check" = true)
    (k_mck : PySem.W.keepIn K (.ref f_mck) = true)
    (a_mkp : PySem.W.findIn K (.ref CM) "kept_edges" = some (some (.ref f_mkp)))
    (i_mkp : PySem.W.isFn K (.ref f_mkp) = true)
    (l_mkp : K.lookup f_mkp = some ⟨oc_mkp, od_mkp, .func (PySem.W.fnOf "kept_edges" "Merge.kept_edges" (defArgs sMKp) (defBody sMKp) (defScope sMKp) .none kV_mkp dc_mkp pm_mkp an_mkp cd_mkp ct_mkp), sl_mkp⟩)
    (c_mkp : PySem.W.codeIn K cd_mkp "Merge.kept_edges" = true)
    (k_mkp : PySem.W.keepIn K (.ref f_mkp) = true)
    (a_mns : PySem.W.findIn K (.ref CM) "new_state" = some (some (.ref f_mns)))
    (i_mns : PySem.W.isFn K (.ref f_mns) = true)
    (l_mns : K.lookup f_mns = some ⟨oc_mns, od_mns, .func (PySem.W.fnOf "new_state" "Merge.new_state" (defArgs sMNs) (defBody sMNs) (defScope sMNs) .none kV_mns dc_mns pm_mns an_mns cd_mns ct_mns), sl_mns⟩)
    (c_mns : PySem.W.codeIn K cd_mns "Merge.new_state" = true)
    (k_mns : PySem.W.keepIn K (.ref f_mns) = true)
    (a_mrs : PySem.W.findIn K (.ref CM) "result" = some (some (.ref f_mrs)))
    (i_mrs : PySem.W.isFn K (.ref f_mrs) = true)
    (l_mrs : K.lookup f_mrs = some ⟨oc_mrs, od_mrs, .func (PySem.W.fnOf "result" "Merge.result" (defArgs sMRs) (defBody sMRs) (defScope sMRs) .none kV_mrs dc_mrs pm_mrs an_mrs cd_mrs ct_mrs), sl_mrs⟩)
    (c_mrs : PySem.W.codeIn K cd_mrs "Merge.result" = true)
    (k_mrs : PySem.W.keepIn K (.ref f_mrs) = true)
    (a_mp : PySem.W.nsIn K mainGlobals "merge_pairs" = some (some (.ref f_mp)))
    (l_mp : K.lookup f_mp = some ⟨oc_mp, od_mp, .func (PySem.W.fnOf "merge_pairs" "merge_pairs" (defArgs sMP) (defBody sMP) (defScope sMP) .none kV_mp dc_mp pm_mp an_mp cd_mp ct_mp), sl_mp⟩)
    (c_mp : PySem.W.codeIn K cd_mp "merge_pairs" = true)
    (k_mp : PySem.W.keepIn K (.ref f_mp) = true)
    (a_le : PySem.W.nsIn K mainGlobals "least" = some (some (.ref f_le)))
    (l_le : K.lookup f_le = some ⟨oc_le, od_le, .func (PySem.W.fnOf "least" "least" (defArgs sLe) (defBody sLe) (defScope sLe) .none kV_le dc_le pm_le an_le cd_le ct_le), sl_le⟩)
    (c_le : PySem.W.codeIn K cd_le "least" = true)
    (k_le : PySem.W.keepIn K (.ref f_le) = true)
    (aMX : PySem.W.nsIn K mainGlobals "MAX_STEPS" = some (some (.int 60 t60)))
    (a_cg : PySem.W.nsIn K mainGlobals "chain_graphs" = some (some (.ref f_cg)))
    (l_cg : K.lookup f_cg = some ⟨oc_cg, od_cg, .func (PySem.W.fnOf "chain_graphs" "chain_graphs" (defArgs sCG) (defBody sCG) (defScope sCG) .none kV_cg dc_cg pm_cg an_cg cd_cg ct_cg), sl_cg⟩)
    (c_cg : PySem.W.codeIn K cd_cg "chain_graphs" = true)
    (k_cg : PySem.W.keepIn K (.ref f_cg) = true)
    (a_cr : PySem.W.nsIn K mainGlobals "chain_result" = some (some (.ref f_cr)))
    (l_cr : K.lookup f_cr = some ⟨oc_cr, od_cr, .func (PySem.W.fnOf "chain_result" "chain_result" (defArgs sCR) (defBody sCR) (defScope sCR) .none kV_cr dc_cr pm_cr an_cr cd_cr ct_cr), sl_cr⟩)
    (c_cr : PySem.W.codeIn K cd_cr "chain_result" = true)
    (k_cr : PySem.W.keepIn K (.ref f_cr) = true)
    (a_gr : PySem.W.nsIn K mainGlobals "graph_reached" = some (some (.ref f_gr)))
    (l_gr : K.lookup f_gr = some ⟨oc_gr, od_gr, .func (PySem.W.fnOf "graph_reached" "graph_reached" (defArgs sGR) (defBody sGR) (defScope sGR) .none kV_gr dc_gr pm_gr an_gr cd_gr ct_gr), sl_gr⟩)
    (c_gr : PySem.W.codeIn K cd_gr "graph_reached" = true)
    (k_gr : PySem.W.keepIn K (.ref f_gr) = true)
    (a_lt : PySem.W.nsIn K mainGlobals "leads_to" = some (some (.ref f_lt)))
    (l_lt : K.lookup f_lt = some ⟨oc_lt, od_lt, .func (PySem.W.fnOf "leads_to" "leads_to" (defArgs sLT) (defBody sLT) (defScope sLT) .none kV_lt dc_lt pm_lt an_lt cd_lt ct_lt), sl_lt⟩)
    (c_lt : PySem.W.codeIn K cd_lt "leads_to" = true)
    (k_lt : PySem.W.keepIn K (.ref f_lt) = true)
    (a_lcn : PySem.W.nsIn K mainGlobals "_law_counts" = some (some (.ref f_lcn)))
    (l_lcn : K.lookup f_lcn = some ⟨oc_lcn, od_lcn, .func (PySem.W.fnOf "_law_counts" "_law_counts" (defArgs sCnts) (defBody sCnts) (defScope sCnts) .none kV_lcn dc_lcn pm_lcn an_lcn cd_lcn ct_lcn), sl_lcn⟩)
    (c_lcn : PySem.W.codeIn K cd_lcn "_law_counts" = true)
    (k_lcn : PySem.W.keepIn K (.ref f_lcn) = true)
    (a_mgr : PySem.W.nsIn K mainGlobals "_law_mergers" = some (some (.ref f_mgr)))
    (l_mgr : K.lookup f_mgr = some ⟨oc_mgr, od_mgr, .func (PySem.W.fnOf "_law_mergers" "_law_mergers" (defArgs sMgrs) (defBody sMgrs) (defScope sMgrs) .none kV_mgr dc_mgr pm_mgr an_mgr cd_mgr ct_mgr), sl_mgr⟩)
    (c_mgr : PySem.W.codeIn K cd_mgr "_law_mergers" = true)
    (k_mgr : PySem.W.keepIn K (.ref f_mgr) = true)
    (a_mrg : PySem.W.nsIn K mainGlobals "_law_merge" = some (some (.ref f_mrg)))
    (l_mrg : K.lookup f_mrg = some ⟨oc_mrg, od_mrg, .func (PySem.W.fnOf "_law_merge" "_law_merge" (defArgs sMrg) (defBody sMrg) (defScope sMrg) .none kV_mrg dc_mrg pm_mrg an_mrg cd_mrg ct_mrg), sl_mrg⟩)
    (c_mrg : PySem.W.codeIn K cd_mrg "_law_merge" = true)
    (k_mrg : PySem.W.keepIn K (.ref f_mrg) = true)
    (a_lle : PySem.W.nsIn K mainGlobals "_law_least" = some (some (.ref f_lle)))
    (l_lle : K.lookup f_lle = some ⟨oc_lle, od_lle, .func (PySem.W.fnOf "_law_least" "_law_least" (defArgs sLLe) (defBody sLLe) (defScope sLLe) .none kV_lle dc_lle pm_lle an_lle cd_lle ct_lle), sl_lle⟩)
    (c_lle : PySem.W.codeIn K cd_lle "_law_least" = true)
    (k_lle : PySem.W.keepIn K (.ref f_lle) = true)
    (a_lrn : PySem.W.nsIn K mainGlobals "_law_renamed" = some (some (.ref f_lrn)))
    (l_lrn : K.lookup f_lrn = some ⟨oc_lrn, od_lrn, .func (PySem.W.fnOf "_law_renamed" "_law_renamed" (defArgs sLRn) (defBody sLRn) (defScope sLRn) .none kV_lrn dc_lrn pm_lrn an_lrn cd_lrn ct_lrn), sl_lrn⟩)
    (c_lrn : PySem.W.codeIn K cd_lrn "_law_renamed" = true)
    (k_lrn : PySem.W.keepIn K (.ref f_lrn) = true)
    (a_lsp : PySem.W.nsIn K mainGlobals "_law_split" = some (some (.ref f_lsp)))
    (l_lsp : K.lookup f_lsp = some ⟨oc_lsp, od_lsp, .func (PySem.W.fnOf "_law_split" "_law_split" (defArgs sLSp) (defBody sLSp) (defScope sLSp) .none kV_lsp dc_lsp pm_lsp an_lsp cd_lsp ct_lsp), sl_lsp⟩)
    (c_lsp : PySem.W.codeIn K cd_lsp "_law_split" = true)
    (k_lsp : PySem.W.keepIn K (.ref f_lsp) = true)
    (a_shf : PySem.W.nsIn K mainGlobals "_law_shuffled" = some (some (.ref f_shf)))
    (l_shf : K.lookup f_shf = some ⟨oc_shf, od_shf, .func (PySem.W.fnOf "_law_shuffled" "_law_shuffled" (defArgs sShuf) (defBody sShuf) (defScope sShuf) .none kV_shf dc_shf pm_shf an_shf cd_shf ct_shf), sl_shf⟩)
    (c_shf : PySem.W.codeIn K cd_shf "_law_shuffled" = true)
    (k_shf : PySem.W.keepIn K (.ref f_shf) = true)
    (a_stf : PySem.W.nsIn K mainGlobals "_law_step_for" = some (some (.ref f_stf)))
    (l_stf : K.lookup f_stf = some ⟨oc_stf, od_stf, .func (PySem.W.fnOf "_law_step_for" "_law_step_for" (defArgs sStF) (defBody sStF) (defScope sStF) .none kV_stf dc_stf pm_stf an_stf cd_stf ct_stf), sl_stf⟩)
    (c_stf : PySem.W.codeIn K cd_stf "_law_step_for" = true)
    (k_stf : PySem.W.keepIn K (.ref f_stf) = true)
    (a_std : PySem.W.nsIn K mainGlobals "_law_stepped" = some (some (.ref f_std)))
    (l_std : K.lookup f_std = some ⟨oc_std, od_std, .func (PySem.W.fnOf "_law_stepped" "_law_stepped" (defArgs sStd) (defBody sStd) (defScope sStd) .none kV_std dc_std pm_std an_std cd_std ct_std), sl_std⟩)
    (c_std : PySem.W.codeIn K cd_std "_law_stepped" = true)
    (k_std : PySem.W.keepIn K (.ref f_std) = true)
    (a_sps : PySem.W.nsIn K mainGlobals "_law_splits" = some (some (.ref f_sps)))
    (l_sps : K.lookup f_sps = some ⟨oc_sps, od_sps, .func (PySem.W.fnOf "_law_splits" "_law_splits" (defArgs sSps) (defBody sSps) (defScope sSps) .none kV_sps dc_sps pm_sps an_sps cd_sps ct_sps), sl_sps⟩)
    (c_sps : PySem.W.codeIn K cd_sps "_law_splits" = true)
    (k_sps : PySem.W.keepIn K (.ref f_sps) = true)
    (a_po : PySem.W.nsIn K mainGlobals "_law_plan_of" = some (some (.ref f_po)))
    (l_po : K.lookup f_po = some ⟨oc_po, od_po, .func (PySem.W.fnOf "_law_plan_of" "_law_plan_of" (defArgs sPO) (defBody sPO) (defScope sPO) .none kV_po dc_po pm_po an_po cd_po ct_po), sl_po⟩)
    (c_po : PySem.W.codeIn K cd_po "_law_plan_of" = true)
    (k_po : PySem.W.keepIn K (.ref f_po) = true)
    (a_stp : PySem.W.nsIn K mainGlobals "_law_step" = some (some (.ref f_stp)))
    (l_stp : K.lookup f_stp = some ⟨oc_stp, od_stp, .func (PySem.W.fnOf "_law_step" "_law_step" (defArgs sStp) (defBody sStp) (defScope sStp) .none kV_stp dc_stp pm_stp an_stp cd_stp ct_stp), sl_stp⟩)
    (c_stp : PySem.W.codeIn K cd_stp "_law_step" = true)
    (k_stp : PySem.W.keepIn K (.ref f_stp) = true)
    (a_law : PySem.W.nsIn K mainGlobals "law" = some (some (.ref f_law)))
    (l_law : K.lookup f_law = some ⟨oc_law, od_law, .func (PySem.W.fnOf "law" "law" (defArgs sLaw) (defBody sLaw) (defScope sLaw) .none kV_law dc_law pm_law an_law cd_law ct_law), sl_law⟩)
    (c_law : PySem.W.codeIn K cd_law "law" = true)
    (k_law : PySem.W.keepIn K (.ref f_law) = true) :
    ∃ fd : FuncData, (∀ (s : Shared) (v : Value), BindsTo s fd ⟨[v], []⟩ [("_law_script", v)]) ∧ ∀ base : Heap, K.In base → base.Ns mainGlobals mg → FnOk l.prog w K mg base CX0 12 fa fd ["_law_script"] (spLaw K) := by
  have e := hfa.symm.trans (PySem.W.mg_of X G a_law)
  cases e
  have T : Bi mg := ⟨PySem.W.mg_none_of X G z_len, PySem.W.mg_none_of X G z_list, PySem.W.mg_none_of X G z_tuple, PySem.W.mg_none_of X G z_bool, PySem.W.mg_none_of X G z_int, PySem.W.mg_none_of X G z_str, PySem.W.mg_none_of X G z_isinstance, PySem.W.mg_none_of X G z_all, PySem.W.mg_none_of X G z_zip, PySem.W.mg_none_of X G z_range⟩
  have cl : Cls K C := ⟨gpg, ghd, gpo, gsa⟩
  have GT : GTxt K mg C (.type "type") := ⟨cl, gnS, gnE, PySem.W.mg_of X G aC, ⟨grd, gga⟩, ⟨_, gv8, ⟨_, rfl⟩⟩, ⟨_, gv24, ⟨_, rfl⟩⟩, PySem.W.mg_none_of X G z_enumerate⟩
  have GI : C8.InsC K C := ⟨cl, iha, ihn, ihtk, ihm, kit_me⟩
  have GS : GIs K C := ⟨GI, kit_no iCl tyC qn, kit_no iCl tyC qi, kit_no iCl tyC ql, kit_no iCl tyC qt⟩
  have F_bag := fun_mk (st := sBag) l_bag c_bag k_bag
  have b_bag := F_bag.binds (ps := ["_law_script"]) fun _ _ _ _ _ _ us hl => match us, hl with | [_], _ => rfl
  have F_pull := fun_mk (st := sPull) l_pull c_pull k_pull
  have b_pull := F_pull.binds (ps := ["_law_bag_here", "_law_many"]) fun _ _ _ _ _ _ us hl => match us, hl with | [_, _], _ => rfl
  have F_of := fun_mk (st := sOf) l_of c_of k_of
  have b_of := F_of.binds (ps := ["_law_bag_here", "_law_things"]) fun _ _ _ _ _ _ us hl => match us, hl with | [_, _], _ => rfl
  have F_plan := fun_mk (st := sPlan) l_plan c_plan k_plan
  have b_plan := F_plan.binds (ps := ["_law_bag_here", "_law_most", "_law_many"]) fun _ _ _ _ _ _ us hl => match us, hl with | [_, _, _], _ => rfl
  have F_like := fun_mk (st := sLike) l_like c_like k_like
  have b_like := F_like.binds (ps := ["_law_found", "_law_due"]) fun _ _ _ _ _ _ us hl => match us, hl with | [_, _], _ => rfl
  have F_check := fun_mk (st := sCheck) l_check c_check k_check
  have b_check := F_check.binds (ps := ["states", "edges"]) fun _ _ _ _ _ _ us hl => match us, hl with | [_, _], _ => rfl
  have F_init := fun_mk (st := sInit) l_init c_init k_init
  have b_init := F_init.binds (ps := ["self", "states", "edges"]) fun _ _ _ _ _ _ us hl => match us, hl with | [_, _, _], _ => rfl
  have F_graph := fun_mk (st := sGraph) l_graph c_graph k_graph
  have b_graph := F_graph.binds (ps := ["_law_plan_here"]) fun _ _ _ _ _ _ us hl => match us, hl with | [_], _ => rfl
  have F_cnt := fun_mk (st := sCounts) l_cnt c_cnt k_cnt
  have b_cnt := F_cnt.binds (ps := ["self"]) fun _ _ _ _ _ _ us hl => match us, hl with | [_], _ => rfl
  have F_eds := fun_mk (st := sEdges) l_eds c_eds k_eds
  have b_eds := F_eds.binds (ps := ["self"]) fun _ _ _ _ _ _ us hl => match us, hl with | [_], _ => rfl
  have F_edg := fun_mk (st := sEdge) l_edg c_edg k_edg
  have b_edg := F_edg.binds (ps := ["self", "number"]) fun _ _ _ _ _ _ us hl => match us, hl with | [_, _], _ => rfl
  have F_eq := fun_mk (st := sEq) l_eq c_eq k_eq
  have b_eq := F_eq.binds (ps := ["self", "other"]) fun _ _ _ _ _ _ us hl => match us, hl with | [_, _], _ => rfl
  have F_st := fun_mk (st := sStates) l_st c_st k_st
  have b_st := F_st.binds (ps := ["self"]) fun _ _ _ _ _ _ us hl => match us, hl with | [_], _ => rfl
  have clM : Cls K CM := ⟨pgM, hdM, poM, saM⟩
  have inM : C8.InsC K CM := ⟨clM, haM, ihn, ihtk, hmM, kit_me⟩
  have MT : MTxt K mg CM := ⟨clM, nlow_M, nhigh_M, PySem.W.mg_of X G aCM⟩
  have F_mi := fun_mk (st := sMI) l_mi c_mi k_mi
  have b_mi := F_mi.binds (ps := ["self", "one", "other"]) fun _ _ _ _ _ _ us hl => match us, hl with | [_, _, _], _ => rfl
  have F_meq := fun_mk (st := sMEq) l_meq c_meq k_meq
  have b_meq := F_meq.binds (ps := ["self", "other"]) fun _ _ _ _ _ _ us hl => match us, hl with | [_, _], _ => rfl
  have F_mck := fun_mk (st := sMCk) l_mck c_mck k_mck
  have b_mck := F_mck.binds (ps := ["self", "graph"]) fun _ _ _ _ _ _ us hl => match us, hl with | [_, _], _ => rfl
  have F_mkp := fun_mk (st := sMKp) l_mkp c_mkp k_mkp
  have b_mkp := F_mkp.binds (ps := ["self", "graph"]) fun _ _ _ _ _ _ us hl => match us, hl with | [_, _], _ => rfl
  have F_mns := fun_mk (st := sMNs) l_mns c_mns k_mns
  have b_mns := F_mns.binds (ps := ["self", "state"]) fun _ _ _ _ _ _ us hl => match us, hl with | [_, _], _ => rfl
  have F_mrs := fun_mk (st := sMRs) l_mrs c_mrs k_mrs
  have b_mrs := F_mrs.binds (ps := ["self", "graph"]) fun _ _ _ _ _ _ us hl => match us, hl with | [_, _], _ => rfl
  have F_mp := fun_mk (st := sMP) l_mp c_mp k_mp
  have b_mp := F_mp.binds (ps := ["graph"]) fun _ _ _ _ _ _ us hl => match us, hl with | [_], _ => rfl
  have F_le := fun_mk (st := sLe) l_le c_le k_le
  have b_le := F_le.binds (ps := ["graph"]) fun _ _ _ _ _ _ us hl => match us, hl with | [_], _ => rfl
  have F_cg := fun_mk (st := sCG) l_cg c_cg k_cg
  have b_cg := F_cg.binds (ps := ["graph", "chain"]) fun _ _ _ _ _ _ us hl => match us, hl with | [_, _], _ => rfl
  have F_cr := fun_mk (st := sCR) l_cr c_cr k_cr
  have b_cr := F_cr.binds (ps := ["graph", "chain"]) fun _ _ _ _ _ _ us hl => match us, hl with | [_, _], _ => rfl
  have F_gr := fun_mk (st := sGR) l_gr c_gr k_gr
  have b_gr := F_gr.binds (ps := ["graph", "chain"]) fun _ _ _ _ _ _ us hl => match us, hl with | [_, _], _ => rfl
  have F_lt := fun_mk (st := sLT) l_lt c_lt k_lt
  have b_lt := F_lt.binds (ps := ["one", "other", "chain"]) fun _ _ _ _ _ _ us hl => match us, hl with | [_, _, _], _ => rfl
  have F_lcn := fun_mk (st := sCnts) l_lcn c_lcn k_lcn
  have b_lcn := F_lcn.binds (ps := ["_law_plan_here"]) fun _ _ _ _ _ _ us hl => match us, hl with | [_], _ => rfl
  have F_mgr := fun_mk (st := sMgrs) l_mgr c_mgr k_mgr
  have b_mgr := F_mgr.binds (ps := ["_law_plan_here"]) fun _ _ _ _ _ _ us hl => match us, hl with | [_], _ => rfl
  have F_mrg := fun_mk (st := sMrg) l_mrg c_mrg k_mrg
  have b_mrg := F_mrg.binds (ps := ["_law_plan_here", "_law_one", "_law_other"]) fun _ _ _ _ _ _ us hl => match us, hl with | [_, _, _], _ => rfl
  have F_lle := fun_mk (st := sLLe) l_lle c_lle k_lle
  have b_lle := F_lle.binds (ps := ["_law_plan_here"]) fun _ _ _ _ _ _ us hl => match us, hl with | [_], _ => rfl
  have F_lrn := fun_mk (st := sLRn) l_lrn c_lrn k_lrn
  have b_lrn := F_lrn.binds (ps := ["_law_plan_here", "_law_states", "_law_edges"]) fun _ _ _ _ _ _ us hl => match us, hl with | [_, _, _], _ => rfl
  have F_lsp := fun_mk (st := sLSp) l_lsp c_lsp k_lsp
  have b_lsp := F_lsp.binds (ps := ["_law_plan_here", "_law_state", "_law_part"]) fun _ _ _ _ _ _ us hl => match us, hl with | [_, _, _], _ => rfl
  have F_shf := fun_mk (st := sShuf) l_shf c_shf k_shf
  have b_shf := F_shf.binds (ps := ["_law_bag_here", "_law_many"]) fun _ _ _ _ _ _ us hl => match us, hl with | [_, _], _ => rfl
  have F_stf := fun_mk (st := sStF) l_stf c_stf k_stf
  have b_stf := F_stf.binds (ps := ["_law_bag_here", "_law_plan_here"]) fun _ _ _ _ _ _ us hl => match us, hl with | [_, _], _ => rfl
  have F_std := fun_mk (st := sStd) l_std c_std k_std
  have b_std := F_std.binds (ps := ["_law_plan_here", "_law_step_here"]) fun _ _ _ _ _ _ us hl => match us, hl with | [_, _], _ => rfl
  have F_sps := fun_mk (st := sSps) l_sps c_sps k_sps
  have b_sps := F_sps.binds (ps := ["_law_bag_here", "_law_plan_here", "_law_many", "_law_most"]) fun _ _ _ _ _ _ us hl => match us, hl with | [_, _, _, _], _ => rfl
  have F_po := fun_mk (st := sPO) l_po c_po k_po
  have b_po := F_po.binds (ps := ["_law_graph_here"]) fun _ _ _ _ _ _ us hl => match us, hl with | [_], _ => rfl
  have F_stp := fun_mk (st := sStp) l_stp c_stp k_stp
  have b_stp := F_stp.binds (ps := ["_law_step_here"]) fun _ _ _ _ _ _ us hl => match us, hl with | [_], _ => rfl
  have F_law := fun_mk (st := sLaw) l_law c_law k_law
  have b_law := F_law.binds (ps := ["_law_script"]) fun _ _ _ _ _ _ us hl => match us, hl with | [_], _ => rfl
  refine ⟨PySem.W.fnOf "law" "law" (defArgs sLaw) (defBody sLaw) (defScope sLaw) .none kV_law dc_law pm_law an_law cd_law ct_law, fun s v => .of_eq rfl, fun base _ _ => ?_⟩
  have cal_bag : C8.Cal l.prog w K mg base 1 "_law_bag" (spBag K) [] := ⟨f_bag, _, _, [], ok_bag (k := 0) F_bag T, PySem.W.mg_of X G a_bag, k_bag, b_bag, .nil⟩
  have cal_pull : C8.Cal l.prog w K mg base 1 "_law_pull" spPull [] := ⟨f_pull, _, _, [], ok_pull (k := 0) F_pull T.len, PySem.W.mg_of X G a_pull, k_pull, b_pull, .nil⟩
  have cal_of : C8.Cal l.prog w K mg base 2 "_law_of" (spOf K) [] := ⟨f_of, _, _, [], ok_of (k := 0) F_of T cal_pull, PySem.W.mg_of X G a_of, k_of, b_of, .nil⟩
  have cal_plan : C8.Cal l.prog w K mg base 2 "_law_plan" spPlan [] := ⟨f_plan, _, _, [], ok_plan (k := 0) F_plan T cal_pull, PySem.W.mg_of X G a_plan, k_plan, b_plan, .nil⟩
  have cal_like : C8.Cal l.prog w K mg base 1 "_law_like" (spLike 0) [] := ⟨f_like, _, _, [], like0 (k := 0) F_like, PySem.W.mg_of X G a_like, k_like, b_like, .nil⟩
  have cal_like : C8.Cal l.prog w K mg base 2 "_law_like" (spLike 1) [] := ⟨f_like, _, _, [], ok_like (n := 1) (k := 0) F_like T (fun _ => cal_like), PySem.W.mg_of X G a_like, k_like, b_like, .nil⟩
  have cal_like : C8.Cal l.prog w K mg base 3 "_law_like" (spLike 2) [] := ⟨f_like, _, _, [], ok_like (n := 2) (k := 1) F_like T (fun _ => cal_like), PySem.W.mg_of X G a_like, k_like, b_like, .nil⟩
  have cal_like : C8.Cal l.prog w K mg base 4 "_law_like" (spLike 3) [] := ⟨f_like, _, _, [], ok_like (n := 3) (k := 2) F_like T (fun _ => cal_like), PySem.W.mg_of X G a_like, k_like, b_like, .nil⟩
  have cal_like : C8.Cal l.prog w K mg base 5 "_law_like" (spLike 4) [] := ⟨f_like, _, _, [], ok_like (n := 4) (k := 3) F_like T (fun _ => cal_like), PySem.W.mg_of X G a_like, k_like, b_like, .nil⟩
  have cal_like : C8.Cal l.prog w K mg base 6 "_law_like" (spLike 5) [] := ⟨f_like, _, _, [], ok_like (n := 5) (k := 4) F_like T (fun _ => cal_like), PySem.W.mg_of X G a_like, k_like, b_like, .nil⟩
  have cal_check : C8.Cal l.prog w K mg base 1 "check_edges" (spCheck K) [] := ⟨f_check, _, _, [], ok_check (k := 0) F_check T GT, PySem.W.mg_of X G a_check, k_check, b_check, .nil⟩
  have mG : C8.Mak l.prog w K mg base 2 "Graph" C (spInit C) [] := ⟨f_init, _, _, [], ⟨gmk, a_init, i_init, gkc⟩, ok_init (k := 0) F_init T GT cal_check, PySem.W.mg_of X G aC, b_init, .nil⟩
  have cal_graph : C8.Cal l.prog w K mg base 4 "_law_graph" (spGraph C) [] := ⟨f_graph, _, _, [], ok_graph (k := 0) F_graph T mG, PySem.W.mg_of X G a_graph, k_graph, b_graph, .nil⟩
  have m_cnt : C8.Met l.prog w K mg base 1 C "counts" (spCounts C) [] := ⟨f_cnt, _, _, [], cl, ⟨a_cnt, i_cnt, k_cnt⟩, ok_counts (k := 0) F_cnt T GT, b_cnt, .nil⟩
  have m_eds : C8.Met l.prog w K mg base 1 C "edges" (spEdges C) [] := ⟨f_eds, _, _, [], cl, ⟨a_eds, i_eds, k_eds⟩, ok_edges (k := 0) F_eds T GT, b_eds, .nil⟩
  have m_edg : C8.Met l.prog w K mg base 1 C "edge" (spEdge0 C) [] := ⟨f_edg, _, _, [], cl, ⟨a_edg, i_edg, k_edg⟩, ok_edge0 (k := 0) F_edg T GT, b_edg, .nil⟩
  have pr_st : Prp l.prog w K mg base 1 C "states" (spStates C) := ⟨p_st, f_st, _, cl, ⟨a_st, g_st, t_st, ⟨_, r_st⟩⟩, ok_states (k := 0) F_st GT, b_st⟩
  have mM : C8.Mak l.prog w K mg base 1 "Merge" CM (spMI CM) [] := ⟨f_mi, _, _, [], ⟨mkM, a_mi, i_mi, kcM⟩, ok_mi (k := 0) F_mi MT, PySem.W.mg_of X G aCM, b_mi, .nil⟩
  have m_mck : C8.Met l.prog w K mg base 3 CM "check" (spMCk C CM) [] := ⟨f_mck, _, _, [], clM, ⟨a_mck, i_mck, k_mck⟩, ok_mck (k := 0) F_mck (PySem.W.mg_none_of X G z_any) MT m_cnt pr_st, b_mck, .nil⟩
  have m_mkp : C8.Met l.prog w K mg base 2 CM "kept_edges" (spMKp C CM) [] := ⟨f_mkp, _, _, [], clM, ⟨a_mkp, i_mkp, k_mkp⟩, ok_mkp (k := 0) F_mkp (PySem.W.mg_none_of X G z_enumerate) MT m_eds, b_mkp, .nil⟩
  have m_mns : C8.Met l.prog w K mg base 1 CM "new_state" (spMNs CM) [] := ⟨f_mns, _, _, [], clM, ⟨a_mns, i_mns, k_mns⟩, ok_mns (k := 0) F_mns MT, b_mns, .nil⟩
  have m_mrs : C8.Met l.prog w K mg base 4 CM "result" (spMRs C CM) [] := ⟨f_mrs, _, _, [], clM, ⟨a_mrs, i_mrs, k_mrs⟩, ok_mrs (k := 0) F_mrs MT m_mck m_mkp m_mns m_edg pr_st mG, b_mrs, .nil⟩
  have cal_mp : C8.Cal l.prog w K mg base 3 "merge_pairs" (spMP C) [] := ⟨f_mp, _, _, [], ok_mp (k := 0) F_mp T m_cnt pr_st, PySem.W.mg_of X G a_mp, k_mp, b_mp, .nil⟩
  have cal_le : C8.Cal l.prog w K mg base 5 "least" (spLe C CM) [] := ⟨f_le, _, _, [], ok_le (k := 0) F_le MT cal_mp mM m_mrs, PySem.W.mg_of X G a_le, k_le, b_le, .nil⟩
  have cal_cg : C8.Cal l.prog w K mg base 5 "chain_graphs" (spCG C CM) [] := ⟨f_cg, _, _, [], ok_cg (k := 0) F_cg T (PySem.W.mg_of X G aMX) m_mrs, PySem.W.mg_of X G a_cg, k_cg, b_cg, .nil⟩
  have cal_cr : C8.Cal l.prog w K mg base 6 "chain_result" (spCR C CM) [] := ⟨f_cr, _, _, [], ok_cr (k := 0) F_cr cal_cg, PySem.W.mg_of X G a_cr, k_cr, b_cr, .nil⟩
  have cal_gr : C8.Cal l.prog w K mg base 7 "graph_reached" (spCR C CM) [] := ⟨f_gr, _, _, [], ok_gr (k := 0) F_gr cal_cr, PySem.W.mg_of X G a_gr, k_gr, b_gr, .nil⟩
  have cal_lt : C8.Cal l.prog w K mg base 8 "leads_to" (spLT C CM) [] := ⟨f_lt, _, _, [], ok_lt (k := 0) F_lt cal_gr a_eq i_eq (ok_eq (k := 0) F_eq T GT GS) b_eq, PySem.W.mg_of X G a_lt, k_lt, b_lt, .nil⟩
  have cal_lcn : C8.Cal l.prog w K mg base 1 "_law_counts" spCnts [] := ⟨f_lcn, _, _, [], ok_cnts (k := 0) F_lcn T, PySem.W.mg_of X G a_lcn, k_lcn, b_lcn, .nil⟩
  have cal_mgr : C8.Cal l.prog w K mg base 2 "_law_mergers" spMgrs [] := ⟨f_mgr, _, _, [], ok_mgrs (k := 0) F_mgr T cal_lcn, PySem.W.mg_of X G a_mgr, k_mgr, b_mgr, .nil⟩
  have cal_mrg : C8.Cal l.prog w K mg base 1 "_law_merge" spMrg [] := ⟨f_mrg, _, _, [], ok_mrg (k := 0) F_mrg T, PySem.W.mg_of X G a_mrg, k_mrg, b_mrg, .nil⟩
  have cal_lle : C8.Cal l.prog w K mg base 3 "_law_least" spLLe [] := ⟨f_lle, _, _, [], ok_lle (k := 0) F_lle T cal_mgr cal_mrg, PySem.W.mg_of X G a_lle, k_lle, b_lle, .nil⟩
  have cal_lrn : C8.Cal l.prog w K mg base 1 "_law_renamed" spLRn [] := ⟨f_lrn, _, _, [], ok_lrn (k := 0) F_lrn T, PySem.W.mg_of X G a_lrn, k_lrn, b_lrn, .nil⟩
  have cal_lsp : C8.Cal l.prog w K mg base 1 "_law_split" spLSp [] := ⟨f_lsp, _, _, [], ok_lsp (k := 0) F_lsp T, PySem.W.mg_of X G a_lsp, k_lsp, b_lsp, .nil⟩
  have cal_shf : C8.Cal l.prog w K mg base 2 "_law_shuffled" spShuf [] := ⟨f_shf, _, _, [], ok_shuf (k := 0) F_shf T cal_pull, PySem.W.mg_of X G a_shf, k_shf, b_shf, .nil⟩
  have cal_stf : C8.Cal l.prog w K mg base 3 "_law_step_for" spStF [] := ⟨f_stf, _, _, [], ok_stf (k := 0) F_stf T cal_pull cal_of cal_mgr cal_shf, PySem.W.mg_of X G a_stf, k_stf, b_stf, .nil⟩
  have cal_std : C8.Cal l.prog w K mg base 2 "_law_stepped" spStd [] := ⟨f_std, _, _, [], ok_std (k := 0) F_std cal_lsp cal_mrg cal_lrn, PySem.W.mg_of X G a_std, k_std, b_std, .nil⟩
  have cal_sps : C8.Cal l.prog w K mg base 4 "_law_splits" spSps [] := ⟨f_sps, _, _, [], ok_sps (k := 0) F_sps T cal_stf cal_std cal_lrn cal_shf, PySem.W.mg_of X G a_sps, k_sps, b_sps, .nil⟩
  have cal_po : C8.Cal l.prog w K mg base 3 "_law_plan_of" (spPO C) [] := ⟨f_po, _, _, [], ok_po (k := 0) F_po m_eds pr_st, PySem.W.mg_of X G a_po, k_po, b_po, .nil⟩
  have cal_stp : C8.Cal l.prog w K mg base 3 "_law_step" (spStpM CM) [] := ⟨f_stp, _, _, [], ok_stpM (k := 0) F_stp mM, PySem.W.mg_of X G a_stp, k_stp, b_stp, .nil⟩
  exact ok_law F_law (C := C) (CM := CM) ⟨T, cal_bag, cal_pull, cal_plan, cal_like, cal_graph, cal_mgr, cal_lle, cal_sps, cal_stp, cal_po, cal_mp, cal_le, cal_lt, mM, mG, ⟨f_meq, _, a_meq, i_meq, ok_meq (k := 0) F_meq T MT inM, b_meq⟩⟩
theorem walk {l : PySem.W.OpenLaw} {q : Program} {loose : List Str} {XP : (Str → Option Value) → Heap → Prop} {YP : World → Heap → Prop} {d : DefRec} {K : Params → PySem.W.Frag} (hn : l.most = some 63) (hdf : d.params.defaults = [])
    (hY : ∀ (w : World) (h : Heap), YP w h → (K w.params).In h)
    (F : ∀ (w : World) (mg : Str → Option Value) (fa : Addr) (h : Heap), (K w.params).In h → h.Ns mainGlobals mg → mg d.name = some (.ref fa) →
      ∃ fd : FuncData, (∀ (s : Shared) (u : Value), BindsTo s fd ⟨[u], []⟩ [("_law_script", u)]) ∧ ∀ base : Heap, (K w.params).In base → base.Ns mainGlobals mg → FnOk l.prog w (K w.params) mg base CX0 12 fa fd ["_law_script"] (spLaw (K w.params))) :
    PySem.W.WalkO q loose XP YP l.row.toRowW d [] (fun f vs => PySem.call f vs) :=
  L2.walk_of (n := 63) (k := 12) (x := "_law_script") (CX := fun _ => CX0) (sp := fun w => spLaw (K w.params)) hn (by decide) hdf ⟨rfl, by decide, by decide⟩ hY F (fun _ _ a ns hl _ hS => ⟨a, ns, rfl, hS, hl, fun _ => rfl⟩) fun _ _ _ _ _ z => z
end Lw
open PySem PySem.W PyProof.Rows
set_option Elab.async false
set_option maxRecDepth 100000 in
set_option maxHeartbeats 0 in
theorem PySem.Challenge.cw_windowkin_k37_states_that_can_be_merged_holds : PySem.Challenge.rw_windowkin_k37_states_that_can_be_merged.Holds := by
  w_on; o_law; k_head; (case hw => w_witness2)
  k_fill
  refine Lw.walk (l := PySem.Challenge.rw_windowkin_k37_states_that_can_be_merged) rfl rfl (fun w h Y => PySem.W.kIn_of Y) ?F
  case F =>
    intro w mg fa h KX G hmg
    refine' Lw.all_mk KX G hmg ?z_len ?z_list ?z_tuple ?z_bool ?z_int ?z_str ?z_isinstance ?z_all ?z_zip ?z_range ?z_enumerate ?z_any ?aC ?gpg ?ghd ?gpo ?gsa ?gmk ?gkc ?gnS ?gnE ?grd ?gga ?gv8 ?gv24 ?iha ?ihn ?ihtk ?ihm ?iCl ?tyC ?qn ?qi ?ql ?qt ?a_bag ?l_bag ?c_bag ?k_bag ?a_pull ?l_pull ?c_pull ?k_pull ?a_of ?l_of ?c_of ?k_of ?a_plan ?l_plan ?c_plan ?k_plan ?a_like ?l_like ?c_like ?k_like ?a_check ?l_check ?c_check ?k_check ?a_init ?i_init ?l_init ?c_init ?k_init ?a_graph ?l_graph ?c_graph ?k_graph ?a_cnt ?i_cnt ?l_cnt ?c_cnt ?k_cnt ?a_eds ?i_eds ?l_eds ?c_eds ?k_eds ?a_edg ?i_edg ?l_edg ?c_edg ?k_edg ?a_eq ?i_eq ?l_eq ?c_eq ?k_eq ?a_st ?g_st ?t_st ?r_st ?l_st ?c_st ?k_st ?aCM ?pgM ?hdM ?poM ?saM ?mkM ?kcM ?haM ?hmM ?nlow_M ?nhigh_M ?a_mi ?i_mi ?l_mi ?c_mi ?k_mi ?a_meq ?i_meq ?l_meq ?c_meq ?k_meq ?a_mck ?i_mck ?l_mck ?c_mck ?k_mck ?a_mkp ?i_mkp ?l_mkp ?c_mkp ?k_mkp ?a_mns ?i_mns ?l_mns ?c_mns ?k_mns ?a_mrs ?i_mrs ?l_mrs ?c_mrs ?k_mrs ?a_mp ?l_mp ?c_mp ?k_mp ?a_le ?l_le ?c_le ?k_le ?aMX ?a_cg ?l_cg ?c_cg ?k_cg ?a_cr ?l_cr ?c_cr ?k_cr ?a_gr ?l_gr ?c_gr ?k_gr ?a_lt ?l_lt ?c_lt ?k_lt ?a_lcn ?l_lcn ?c_lcn ?k_lcn ?a_mgr ?l_mgr ?c_mgr ?k_mgr ?a_mrg ?l_mrg ?c_mrg ?k_mrg ?a_lle ?l_lle ?c_lle ?k_lle ?a_lrn ?l_lrn ?c_lrn ?k_lrn ?a_lsp ?l_lsp ?c_lsp ?k_lsp ?a_shf ?l_shf ?c_shf ?k_shf ?a_stf ?l_stf ?c_stf ?k_stf ?a_std ?l_std ?c_std ?k_std ?a_sps ?l_sps ?c_sps ?k_sps ?a_po ?l_po ?c_po ?k_po ?a_stp ?l_stp ?c_stp ?k_stp ?a_law ?l_law ?c_law ?k_law
    (case z_len => k_is)
    (case z_list => k_is)
    (case z_tuple => k_is)
    (case z_bool => k_is)
    (case z_int => k_is)
    (case z_str => k_is)
    (case z_isinstance => k_is)
    (case z_all => k_is)
    (case z_zip => k_is)
    (case z_range => k_is)
    (case z_enumerate => k_is)
    (case z_any => k_is)
    (case aC => k_is)
    (case gpg => k_is)
    (case ghd => k_is)
    (case gpo => k_is)
    (case gsa => k_is)
    (case gmk => k_is)
    (case gkc => k_is)
    (case gnS => k_is)
    (case gnE => k_is)
    (case grd => k_is)
    (case gga => k_is)
    (case gv8 => k_is)
    (case gv24 => k_is)
    (case iha => k_is)
    (case ihn => k_is)
    (case ihtk => k_is)
    (case ihm => k_is)
    (case iCl => k_is)
    (case tyC => k_is)
    (case qn => k_is)
    (case qi => k_is)
    (case ql => k_is)
    (case qt => k_is)
    (case a_bag => k_is)
    (case l_bag => k_is)
    (case c_bag => k_is)
    (case k_bag => k_is)
    (case a_pull => k_is)
    (case l_pull => k_is)
    (case c_pull => k_is)
    (case k_pull => k_is)
    (case a_of => k_is)
    (case l_of => k_is)
    (case c_of => k_is)
    (case k_of => k_is)
    (case a_plan => k_is)
    (case l_plan => k_is)
    (case c_plan => k_is)
    (case k_plan => k_is)
    (case a_like => k_is)
    (case l_like => k_is)
    (case c_like => k_is)
    (case k_like => k_is)
    (case a_check => k_is)
    (case l_check => k_is)
    (case c_check => k_is)
    (case k_check => k_is)
    (case a_init => k_is)
    (case i_init => k_is)
    (case l_init => k_is)
    (case c_init => k_is)
    (case k_init => k_is)
    (case a_graph => k_is)
    (case l_graph => k_is)
    (case c_graph => k_is)
    (case k_graph => k_is)
    (case a_cnt => k_is)
    (case i_cnt => k_is)
    (case l_cnt => k_is)
    (case c_cnt => k_is)
    (case k_cnt => k_is)
    (case a_eds => k_is)
    (case i_eds => k_is)
    (case l_eds => k_is)
    (case c_eds => k_is)
    (case k_eds => k_is)
    (case a_edg => k_is)
    (case i_edg => k_is)
    (case l_edg => k_is)
    (case c_edg => k_is)
    (case k_edg => k_is)
    (case a_eq => k_is)
    (case i_eq => k_is)
    (case l_eq => k_is)
    (case c_eq => k_is)
    (case k_eq => k_is)
    (case a_st => k_is)
    (case g_st => k_is)
    (case t_st => k_is)
    (case r_st => k_is)
    (case l_st => k_is)
    (case c_st => k_is)
    (case k_st => k_is)
    (case aCM => k_is)
    (case pgM => k_is)
    (case hdM => k_is)
    (case poM => k_is)
    (case saM => k_is)
    (case mkM => k_is)
    (case kcM => k_is)
    (case haM => k_is)
    (case hmM => k_is)
    (case nlow_M => k_is)
    (case nhigh_M => k_is)
    (case a_mi => k_is)
    (case i_mi => k_is)
    (case l_mi => k_is)
    (case c_mi => k_is)
    (case k_mi => k_is)
    (case a_meq => k_is)
    (case i_meq => k_is)
    (case l_meq => k_is)
    (case c_meq => k_is)
    (case k_meq => k_is)
    (case a_mck => k_is)
    (case i_mck => k_is)
    (case l_mck => k_is)
    (case c_mck => k_is)
    (case k_mck => k_is)
    (case a_mkp => k_is)
    (case i_mkp => k_is)
    (case l_mkp => k_is)
    (case c_mkp => k_is)
    (case k_mkp => k_is)
    (case a_mns => k_is)
    (case i_mns => k_is)
    (case l_mns => k_is)
    (case c_mns => k_is)
    (case k_mns => k_is)
    (case a_mrs => k_is)
    (case i_mrs => k_is)
    (case l_mrs => k_is)
    (case c_mrs => k_is)
    (case k_mrs => k_is)
    (case a_mp => k_is)
    (case l_mp => k_is)
    (case c_mp => k_is)
    (case k_mp => k_is)
    (case a_le => k_is)
    (case l_le => k_is)
    (case c_le => k_is)
    (case k_le => k_is)
    (case aMX => k_is)
    (case a_cg => k_is)
    (case l_cg => k_is)
    (case c_cg => k_is)
    (case k_cg => k_is)
    (case a_cr => k_is)
    (case l_cr => k_is)
    (case c_cr => k_is)
    (case k_cr => k_is)
    (case a_gr => k_is)
    (case l_gr => k_is)
    (case c_gr => k_is)
    (case k_gr => k_is)
    (case a_lt => k_is)
    (case l_lt => k_is)
    (case c_lt => k_is)
    (case k_lt => k_is)
    (case a_lcn => k_is)
    (case l_lcn => k_is)
    (case c_lcn => k_is)
    (case k_lcn => k_is)
    (case a_mgr => k_is)
    (case l_mgr => k_is)
    (case c_mgr => k_is)
    (case k_mgr => k_is)
    (case a_mrg => k_is)
    (case l_mrg => k_is)
    (case c_mrg => k_is)
    (case k_mrg => k_is)
    (case a_lle => k_is)
    (case l_lle => k_is)
    (case c_lle => k_is)
    (case k_lle => k_is)
    (case a_lrn => k_is)
    (case l_lrn => k_is)
    (case c_lrn => k_is)
    (case k_lrn => k_is)
    (case a_lsp => k_is)
    (case l_lsp => k_is)
    (case c_lsp => k_is)
    (case k_lsp => k_is)
    (case a_shf => k_is)
    (case l_shf => k_is)
    (case c_shf => k_is)
    (case k_shf => k_is)
    (case a_stf => k_is)
    (case l_stf => k_is)
    (case c_stf => k_is)
    (case k_stf => k_is)
    (case a_std => k_is)
    (case l_std => k_is)
    (case c_std => k_is)
    (case k_std => k_is)
    (case a_sps => k_is)
    (case l_sps => k_is)
    (case c_sps => k_is)
    (case k_sps => k_is)
    (case a_po => k_is)
    (case l_po => k_is)
    (case c_po => k_is)
    (case k_po => k_is)
    (case a_stp => k_is)
    (case l_stp => k_is)
    (case c_stp => k_is)
    (case k_stp => k_is)
    (case a_law => k_is)
    (case l_law => k_is)
    (case c_law => k_is)
    (case k_law => k_is)
