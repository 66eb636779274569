import PyProof.Rows.All
import Wide.All
import OpenK.AllK
import Wide.FinOn
import HandS.ForMost
import HandS.Wide
import HandS.Codes
import PySem.Challenge.RW_windowkin_k09_rows_without_first_edges
import HandS.IsInst
import HandS.Walk
import HandS.Zip
import KE.GoesMore
import HandS.ClsMeth
import HandS.Property
import HandS.FStr
import HandS.Exc
import HandS.ExcOwn
import HandS.WordsExc
import HandS.ExcInit
import HandS.Defaults
import HandS.TryOnly
import HandS.Lambda
import HandS.HotCalls
import HandS.ExcField
import HandS.TupAny
import HandS.TupMul
import HandS.Nested
import KE.KDflt
import HandS.NestedHot
import HandS.ExcCtx
import HandS.MakeKwOnly
import HandS.Conv
import HandS.EndOwn
import KE.KNestM
set_option Elab.async false
set_option linter.all false
set_option maxRecDepth 100000
namespace Lw
open PySem L2
def top (i : Nat) : Stmt := PySem.Challenge.pw_windowkin_k09_rows_without_first_edges.main.body.getD i (.Pass ⟨0, 0, 0, 0⟩)
abbrev sBag : Stmt := top 23
abbrev sPull : Stmt := top 24
abbrev sOf : Stmt := top 25
/-! ### heaps -/
theorem same_upd {H : Hp} {p : Addr} {o : HO} (h : H p = none) : Same H (upd H p o) := fun b x e => by
  rw [upd_ne (ne_of_none e h)]
  exact e
theorem upd_upd {H : Hp} {p : Addr} {o o' : HO} : upd (upd H p o) p o' = upd H p o' := by
  funext c
  by_cases e : c = p
  · subst e
    rw [upd_same, upd_same]
  · rw [upd_ne e, upd_ne e, upd_ne e]
theorem upd_self {H : Hp} {p : Addr} {o : HO} (h : H p = some o) : upd H p o = H := by
  funext c
  by_cases e : c = p
  · subst e
    rw [upd_same, h]
  · rw [upd_ne e]
/-! ### the bag: the script's own list at l, a place, a rest, a salt -/
def BagO (l : Addr) (ns : List Int) (o : HO) : Prop := ∃ (i : Nat) (r s : Int), o = .lst [.ref l, .int (i : Int), .int r, .int s] ∧ i ≤ ns.length ∧ 0 ≤ r ∧ 0 ≤ s ∧ s < 2147483563
structure BagAt (H : Hp) (b l : Addr) (ns : List Int) : Prop where
  ob : ∃ o, H b = some o ∧ BagO l ns o
  sc : H l = some (.lst (ns.map V.int))
  ln : ns.length ≤ 63
theorem BagAt.ne {H : Hp} {b l : Addr} {ns : List Int} (h : BagAt H b l ns) : l ≠ b := fun e => by
  obtain ⟨o, ho, i, r, s, rfl, _⟩ := h.ob
  have h2 := h.sc
  rw [e, ho] at h2
  cases ns with
  | nil => cases h2
  | cons x r => cases h2
theorem BagAt.upd {H : Hp} {b l : Addr} {ns : List Int} {o : HO} (h : BagAt H b l ns) (ho : BagO l ns o) : BagAt (upd H b o) b l ns :=
  ⟨⟨o, upd_same, ho⟩, by rw [upd_ne h.ne]; exact h.sc, h.ln⟩
/-- the bag where all that was tracked stands -/
theorem BagAt.same {H H' : Hp} {b l : Addr} {ns : List Int} (h : BagAt H b l ns) (e : Same H H') : BagAt H' b l ns :=
  ⟨h.ob.imp fun _ z => ⟨e _ _ z.1, z.2⟩, e _ _ h.sc, h.ln⟩
def spPull : Sp := fun vs H Q _ => ∃ (b l : Addr) (ns : List Int) (m : Int), vs = [.ref b, .int m] ∧ BagAt H b l ns ∧ 0 < m ∧ m < 2 ^ 100 ∧
  ∀ (v : Int) (o : HO), 0 ≤ v → v < m → BagO l ns o → Q (.int v) (upd H b o)
def spBag (K : PySem.W.Frag) : Sp := fun vs H Q _ => ∃ (a : Addr) (ns : List Int), vs = [.ref a] ∧ SqL K H a (ns.map V.int) ∧ ns.length ≤ 63 ∧
  ∀ (b l : Addr) (H' : Hp), Same H H' → H b = none → H l = none → BagAt H' b l ns → Q (.ref b) H'
section
variable {P : Program} {w : World} {K : PySem.W.Frag} {mg : Str → Option Value} {base : Heap}
/-! ### _law_pull -/
theorem scPull : FnScope ["_law_bag_here", "_law_many", "_law_cell", "_law_got", "_law_seed"] ["_law_bag_here", "_law_many"] (defScope sPull) := ⟨rfl, rfl, rfl, by decide +kernel, rfl, by decide +kernel, by decide +kernel⟩
theorem at0 {x : V} {r : List V} : atI (x :: r) 0 = some x := by
  have h := atI_nat (xs := x :: r) (j := 0) (v := x) rfl
  exact h
theorem at1 {x y : V} {r : List V} : atI (x :: y :: r) 1 = some y := by
  have h := atI_nat (xs := x :: y :: r) (j := 1) (v := y) rfl
  exact h
theorem at2 {x y z : V} {r : List V} : atI (x :: y :: z :: r) 2 = some z := by
  have h := atI_nat (xs := x :: y :: z :: r) (j := 2) (v := z) rfl
  exact h
theorem at3 {x y z u : V} {r : List V} : atI (x :: y :: z :: u :: r) 3 = some u := by
  have h := atI_nat (xs := x :: y :: z :: u :: r) (j := 3) (v := u) rfl
  exact h
set_option maxHeartbeats 4000000 in
theorem ok_pull {f : Addr} {fd : FuncData} {k : Nat} (F : Fun K "_law_pull" "_law_pull" sPull f fd) (mlen : mg "len" = none) : FnOk P w K mg base CX0 (k + 1) f fd ["_law_bag_here", "_law_many"] spPull := by
  refine F.ok scPull (fun vs H Q E h => ?_) (fun cdv A outer s H vs Q E hr h => ?_)
  · obtain ⟨b, l, ns, m, rfl, _⟩ := h
    rfl
  · obtain ⟨b, l, ns, m, rfl, B, hm, hm2, q⟩ := h
    refine ⟨_, C8.pss_cut (ps_if (PW.pt (pw_and (pt_cmpR op_eq (pe_ix ix_list (pv 0) pe_int (fun _ _ => rfl)) pe_int (nomark _))
        (pw_and1 (pt_cmpR op_lt (pe_ix ix_list (pv 0) pe_int (fun _ _ => rfl)) (pe_callB call_len_seq (by rfl) mlen PySem.boot_len (pa_cons (pe_ix ix_list (pv 0) pe_int (fun _ _ => rfl)) pa_nil)) (nomark _)))))
        (pss_cons (ps_set (i := 2) scPull.nd rfl (Or.inl rfl) (pe_ix ix_list (pe_ix ix_list (pv 0) pe_int (fun _ _ => rfl)) (pe_ix ix_list (pv 0) pe_int (fun _ _ => rfl)) (fun _ _ => rfl)))
        (pss_cons (ps_asg (pe_op op_add (pe_ix ix_list (pv 0) pe_int (fun _ _ => rfl)) pe_int) (pg_sub (pv 0) pe_int set_list))
        (pss_one (ps_if (pt_cmpR op_ge (pv 2) (pe_op op_pow pe_int pe_int) (nomark _))
          (pss_one (ps_asg (pe_op op_sub (pv 2) (pe_op op_pow pe_int pe_int)) (pg_sub (pv 0) pe_int set_list)))
          (pss_one (ps_asg (pe_op op_mod (pe_op op_add (pe_op op_add (pe_op op_mul (pe_ix ix_list (pv 0) pe_int (fun _ _ => rfl)) pe_int) (pe_op op_mul (pe_op op_mod (pv 2) pe_int) pe_int)) pe_int) pe_int) (pg_sub (pv 0) pe_int set_list)))))))
        pss_nil)
      (pss_cons (ps_if (pt_cmpR op_gt (pe_ix ix_list (pv 0) pe_int (fun _ _ => rfl)) pe_int (nomark _))
        (pss_cons (ps_set (i := 3) scPull.nd rfl (Or.inl rfl) (pe_op op_mod (pe_ix ix_list (pv 0) pe_int (fun _ _ => rfl)) (pv 1)))
        (pss_cons (ps_asg (pe_op op_fdivW (pe_ix ix_list (pv 0) pe_int (fun _ _ => rfl)) (pv 1)) (pg_sub (pv 0) pe_int set_list))
        (pss_one (ps_ret (pv 3))))) pss_nil)
      (pss_cons (ps_set (i := 4) scPull.nd rfl (Or.inl rfl) (pe_ix ix_list (pv 0) pe_int (fun _ _ => rfl)))
      (pss_cons (ps_asg (pe_op op_mod (pe_op op_add (pe_op op_add (pe_op op_mul (pe_op op_mul (pv 4) (pv 4)) pe_int) (pe_op op_mul (pv 4) pe_int)) pe_int) pe_int) (pg_sub (pv 0) pe_int set_list))
      (pss_one (ps_ret (pe_op op_mod (pe_op op_add (pe_op op_fdiv (pe_ix ix_list (pv 0) pe_int (fun _ _ => rfl)) pe_int) (pe_op op_mul (pe_op op_mod (pe_ix ix_list (pv 0) pe_int (fun _ _ => rfl)) pe_int) pe_int)) (pv 1))))))), ?_⟩
    obtain ⟨o, ho, i, r, sa, rfl, hi, hr0, hs0, hs1⟩ := B.ob
    refine ⟨fun σ H' => ∃ (v2 : Option V) (o : HO), σ = [some (.ref b), some (.int m), v2, none, none] ∧ H' = upd H b o ∧ BagO l ns o, ?_, ?_⟩
    · refine ⟨_, rfl, b, _, _, _, rfl, rfl, SqL.of ho, at2, rfl, _, rfl, ?_⟩
      have stay : H = upd H b (.lst [.ref l, .int (i : Int), .int r, .int sa]) := (upd_self ho).symm
      refine ite2 (fun c => ?_) (fun c => ?_)
      · have c0 : r = 0 := by
          have c1 := of_decide_eq_true c
          injection c1
        subst c0
        refine ⟨_, rfl, b, _, _, _, rfl, rfl, SqL.of ho, at1, _, rfl, b, _, _, _, rfl, rfl, SqL.of ho, at0, l, _, rfl, .inl (SqL.of B.sc), _, _, rfl, rfl, _, rfl, ?_⟩
        rw [List.length_map]
        refine ite2 (fun c => ?_) (fun c => ?_)
        · have c1 : (i : Int) < (ns.length : Int) := of_decide_eq_true c
          have c2 : i < ns.length := by omega
          have g1 : (ns.map V.int)[i]? = some (.int ns[i]) := by
            rw [List.getElem?_map, List.getElem?_eq_getElem c2]
            rfl
          refine ⟨_, rfl, b, _, _, _, rfl, rfl, SqL.of ho, at0, _, rfl, b, _, _, _, rfl, rfl, SqL.of ho, at1, l, _, _, _, rfl, rfl, SqL.of B.sc, atI_nat g1, ?_⟩
          refine ⟨_, rfl, b, _, _, _, rfl, rfl, SqL.of ho, at1, _, _, rfl, rfl, _, rfl, b, _, _, 1, rfl, rfl, ho, rfl, ?_⟩
          refine ⟨_, rfl, _, _, rfl, rfl, ⟨by decide, by decide, by decide⟩, _, _, rfl, rfl, _, rfl, ?_⟩
          refine ite2 (fun c => ?_) (fun c => ?_)
          · have c3 : (10 : Int) ^ (18 : Int).toNat ≤ ns[i] := of_decide_eq_true c
            refine ⟨_, rfl, _, _, rfl, rfl, ⟨by decide, by decide, by decide⟩, _, _, rfl, rfl, _, rfl, b, _, _, 2, rfl, rfl, upd_same, rfl, ?_⟩
            refine ⟨_, _, rfl, upd_upd, i + 1, ns[i] - 10 ^ (18 : Int).toNat, sa, by rfl, by omega, by omega, hs0, hs1⟩
          · refine ⟨_, rfl, b, _, _, _, rfl, rfl, SqL.of upd_same, at3, _, _, rfl, rfl, .inl ⟨by omega, by omega⟩, _, rfl, _, _, rfl, rfl, (by show (0 : Int) < 2147483563; decide), _, _, rfl, rfl, .inl ⟨by omega, by omega⟩, _, _, rfl, rfl, _, _, rfl, rfl, _, _, rfl, rfl, (by show (0 : Int) < 2147483563; decide), _, rfl, b, _, _, 3, rfl, rfl, upd_same, rfl, ?_⟩
            refine ⟨_, _, rfl, upd_upd, i + 1, 0, _, by rfl, by omega, by omega, ?_, ?_⟩
            · exact Int.emod_nonneg _ (by decide)
            · exact Int.emod_lt_of_pos _ (by decide)
        · refine ⟨none, _, rfl, stay, i, 0, sa, rfl, hi, by omega, hs0, hs1⟩
      · refine iteF ?_
        exact ⟨none, _, rfl, stay, i, r, sa, rfl, hi, hr0, hs0, hs1⟩
    · rintro σ H' ⟨v2, o, rfl, rfl, i, r, sa, rfl, hi, hr0, hs0, hs1⟩
      refine ⟨_, rfl, b, _, _, _, rfl, rfl, SqL.of upd_same, at2, _, _, rfl, rfl, _, rfl, ?_⟩
      refine ite2 (fun c => ?_) (fun c => ?_)
      · have c1 : 0 < r := of_decide_eq_true c
        refine ⟨_, rfl, b, _, _, _, rfl, rfl, SqL.of upd_same, at2, _, rfl, _, _, rfl, rfl, hm, ?_⟩
        refine ⟨_, rfl, b, _, _, _, rfl, rfl, SqL.of upd_same, at2, _, rfl, _, _, rfl, rfl, wide_div hm (b := 100) (by omega) (by decide) (by decide), _, rfl, b, _, _, 2, rfl, rfl, upd_same, rfl, ?_⟩
        refine ⟨_, rfl, ?_⟩
        rw [upd_upd]
        refine q _ _ (Int.emod_nonneg _ (by omega)) (Int.emod_lt_of_pos _ hm) ⟨i, r / m, sa, rfl, hi, Int.ediv_nonneg hr0 (by omega), hs0, hs1⟩
      · refine ⟨_, rfl, b, _, _, _, rfl, rfl, SqL.of upd_same, at3, ?_⟩
        have hq : sa * sa < 2 ^ 64 := by
          have : sa * sa ≤ sa * 2147483563 := Int.mul_le_mul_of_nonneg_left (by omega) hs0
          omega
        have hq0 : 0 ≤ sa * sa := Int.mul_nonneg hs0 hs0
        refine ⟨_, rfl, _, rfl, _, _, rfl, rfl, .inl ⟨by omega, by omega⟩, _, _, rfl, rfl, .inl ⟨by omega, by omega⟩, _, rfl, _, _, rfl, rfl, .inl ⟨by omega, by omega⟩, _, _, rfl, rfl, _, _, rfl, rfl, _, _, rfl, rfl, (by show (0 : Int) < 2147483563; decide), _, rfl, b, _, _, 3, rfl, rfl, upd_same, rfl, ?_⟩
        rw [upd_upd]
        obtain ⟨x, hx⟩ : ∃ x : Int, (sa * sa * 3 + sa * 16807 + 1013904223) % 2147483563 = x := ⟨_, rfl⟩
        have x0 : 0 ≤ x := hx ▸ Int.emod_nonneg _ (by decide)
        have x1 : x < 2147483563 := hx ▸ Int.emod_lt_of_pos _ (by decide)
        refine ⟨_, rfl, b, _, _, _, rfl, rfl, SqL.of upd_same, at3, _, _, rfl, rfl, ⟨by decide, by decide⟩, _, rfl, b, _, _, _, rfl, rfl, SqL.of upd_same, at3, _, _, rfl, rfl, (by show (0 : Int) < 8191; decide), _, _, rfl, rfl, .inl ⟨by omega, by omega⟩, _, _, rfl, rfl, _, rfl, _, _, rfl, rfl, hm, ?_⟩
        exact q _ _ (Int.emod_nonneg _ (by omega)) (Int.emod_lt_of_pos _ hm) ⟨i, r, x, by rw [← hx]; rfl, hi, hr0, x0, x1⟩
end
end Lw

set_option Elab.async false
set_option linter.all false
set_option maxRecDepth 100000
namespace Lw
open PySem L2
abbrev sLike : Stmt := top 26
/-- the built-in names that the law's helpers ask for -/
structure Bi (mg : Str → Option Value) : Prop where
  len : mg "len" = none
  list : mg "list" = none
  tuple : mg "tuple" = none
  bool : mg "bool" = none
  int : mg "int" = none
  str : mg "str" = none
  isi : mg "isinstance" = none
  all : mg "all" = none
  zip : mg "zip" = none
  range : mg "range" = none
def spOf (K : PySem.W.Frag) : Sp := fun vs H Q _ => ∃ (b l t : Addr) (ns : List Int) (xs : List V), vs = [.ref b, .ref t] ∧ BagAt H b l ns ∧ SqL K H t xs ∧ t ≠ b ∧ xs ≠ [] ∧ xs.length ≤ 1000 ∧
  ∀ (i : Nat) (v : V) (o : HO), xs[i]? = some v → BagO l ns o → Q v (upd H b o)
theorem if_t {c : Bool} {A B : Prop} (hc : c = true) (h : A) : if c = true then A else B := by
  rw [if_pos hc]
  exact h
theorem if_f {c : Bool} {A B : Prop} (hc : c = false) (h : B) : if c = true then A else B := by
  rw [hc, if_neg Bool.false_ne_true]
  exact h
theorem cut_all {xs : List V} (h : xs.length ≤ 63) : cutV xs none (some 63) = xs := by
  unfold cutV
  rw [HT.sIx_none, show HT.sIx xs.length xs.length (some 63) = min 63 xs.length from HT.sIx_nat xs.length xs.length 63, Nat.min_eq_right h]
  simp
section
variable {P : Program} {w : World} {K : PySem.W.Frag} {mg : Str → Option Value} {base : Heap}
theorem SqL.upd_ne {H : Hp} {a b : Addr} {xs : List V} {o : HO} (h : SqL K H a xs) (e : a ≠ b) : SqL K (upd H b o) a xs := by
  unfold SqL Rd at h ⊢
  rw [L2.upd_ne e]
  exact h
/-! ### _law_bag -/
theorem scBag : FnScope ["_law_script", "_law_salt", "_law_cell"] ["_law_script"] (defScope sBag) := ⟨rfl, rfl, rfl, by decide +kernel, rfl, by decide +kernel, by decide +kernel⟩
set_option maxHeartbeats 4000000 in
theorem ok_bag {f : Addr} {fd : FuncData} {k : Nat} (F : Fun K "_law_bag" "_law_bag" sBag f fd) (T : Bi mg) : FnOk P w K mg base CX0 (k + 1) f fd ["_law_script"] (spBag K) := by
  refine F.ok scBag (fun vs H Q E h => ?_) (fun cdv A outer s H vs Q E hr h => ?_)
  · obtain ⟨b, ns, rfl, _⟩ := h
    rfl
  · obtain ⟨a, ns, rfl, hS, hl, q⟩ := h
    refine ⟨_, pss_cons (ps_set (i := 1) scBag.nd rfl (Or.inl rfl) pe_int)
      (pss_cons (ps_for PassesOwn.never rfl (pi_list (pe_slice sl_list (pv 0) po_none (po_some pe_int))) (pg_name (i := 2) scBag.nd rfl (Or.inl rfl))
        (pss_one (ps_set (i := 1) scBag.nd rfl (Or.inl rfl) (pe_op op_mod (pe_op op_add (pe_op op_add (pe_op op_mul (pv 1) pe_int) (pe_op op_mod (pv 2) pe_int)) pe_int) pe_int))))
      (pss_one (ps_ret (pe_lst (pa_cons (pe_callTy call_list_of (by rfl) T.list (by decide +kernel) (pa_cons (pe_slice sl_list (pv 0) po_none (po_some pe_int)) pa_nil)) (pa_cons pe_int (pa_cons pe_int (pa_cons (pv 1) pa_nil)))))))), ?_⟩
    have hl' : (ns.map V.int).length ≤ 63 := by rw [List.length_map]; exact hl
    refine ⟨_, rfl, _, rfl, a, _, rfl, hS, fun p hp => ?_⟩
    rw [cut_all hl']
    have s1 : Same H (upd H p (.lst (ns.map V.int))) := same_upd hp
    refine ⟨p, rfl, ⟨_, SqL.of upd_same⟩, for_list (K := K) (a := p) (xs := ns.map V.int) (fun i σ H' => ∃ (v : Option V) (sa : Int), σ = [some (.ref a), some (.int sa), v] ∧ H' = upd H p (.lst (ns.map V.int)) ∧ 0 ≤ sa ∧ sa < 2147483563)
      ⟨none, 3803, rfl, rfl, by decide, by decide⟩ (fun i σ H' _ ⟨_, _, _, e, _⟩ => by subst e; exact SqL.of upd_same) ?_ ?_⟩
    · rintro i y σ H' hi ⟨v, sa, rfl, rfl, h0, h1⟩
      obtain ⟨z, rfl⟩ : ∃ z, y = V.int z := by
        rw [List.getElem?_map] at hi
        cases e : ns[i]? with
        | none =>
          rw [e] at hi
          cases hi
        | some z =>
          rw [e] at hi
          exact ⟨z, (Option.some.inj hi).symm⟩
      refine ⟨_, rfl, _, _, rfl, rfl, .inl ⟨by omega, by omega⟩, _, rfl, _, _, rfl, rfl, (by show (0 : Int) < 2147483563; decide), _, _, rfl, rfl, _, _, rfl, rfl, _, _, rfl, rfl, (by show (0 : Int) < 2147483563; decide), ?_⟩
      exact ⟨_, _, rfl, rfl, Int.emod_nonneg _ (by decide), Int.emod_lt_of_pos _ (by decide)⟩
    · rintro σ H' ⟨v, sa, rfl, rfl, h0, h1⟩
      refine ⟨_, rfl, _, rfl, a, _, rfl, s1.seq hS, fun p2 hp2 => ?_⟩
      rw [cut_all hl']
      refine ⟨p2, _, rfl, .inl (SqL.of upd_same), fun l hl2 => ?_⟩
      have s2 := s1.trans (same_upd (o := .lst (ns.map V.int)) hp2)
      have s3 := s2.trans (same_upd (o := .lst (ns.map V.int)) hl2)
      refine ⟨_, rfl, (by show 4 ≤ sizeLine; decide), fun b hb => ?_⟩
      have nl : H l = none := s2.free hl2
      have nb : H b = none := s3.free hb
      have lb : l ≠ b := fun e => by
        rw [← e, upd_same] at hb
        cases hb
      refine q b l _ (s3.trans (same_upd hb)) nb nl ⟨⟨_, upd_same, 0, 0, sa, rfl, Nat.zero_le _, by decide, h0, h1⟩, ?_, hl⟩
      rw [upd_ne lb, upd_same]
/-! ### _law_of -/
theorem scOf : FnScope ["_law_bag_here", "_law_things"] ["_law_bag_here", "_law_things"] (defScope sOf) := ⟨rfl, rfl, rfl, by decide +kernel, rfl, by decide +kernel, by decide +kernel⟩
set_option maxHeartbeats 4000000 in
theorem ok_of {f : Addr} {fd : FuncData} {k : Nat} (F : Fun K "_law_of" "_law_of" sOf f fd) (T : Bi mg) (cP : C8.Cal P w K mg base 1 "_law_pull" spPull []) : FnOk P w K mg base CX0 (k + 2) f fd ["_law_bag_here", "_law_things"] (spOf K) := by
  refine F.ok scOf (fun vs H Q E h => ?_) (fun cdv A outer s H vs Q E hr h => ?_)
  · obtain ⟨b, l, t, ns, xs, rfl, _⟩ := h
    rfl
  · obtain ⟨b, l, t, ns, xs, rfl, B, hS, ne, nn, hl, q⟩ := h
    refine ⟨_, pss_one (ps_ret (pe_ix ix_list (pv 1) (C8.pe_c cP hr (Nat.le_add_left 1 k) (by rfl) (pa_cons (pv 0) (pa_cons (pe_callB call_len_seq (by rfl) T.len PySem.boot_len (pa_cons (pv 1) pa_nil)) pa_nil))) (fun _ _ => rfl))), ?_⟩
    have l0 : 0 < xs.length := List.length_pos_iff.mpr nn
    refine ⟨_, rfl, _, rfl, _, rfl, t, xs, rfl, .inl hS, b, l, ns, _, rfl, B, by omega, by omega, fun v o v0 v1 BO => ?_⟩
    have hv : v.toNat < xs.length := by omega
    have hvv : ((v.toNat : Nat) : Int) = v := Int.toNat_of_nonneg v0
    have g : atI xs v = some xs[v.toNat] := by
      have := atI_nat (xs := xs) (j := v.toNat) (v := xs[v.toNat]) (List.getElem?_eq_getElem hv)
      rw [hvv] at this
      exact this
    exact ⟨t, xs, v, _, rfl, rfl, SqL.upd_ne hS ne, g, q v.toNat _ o (List.getElem?_eq_getElem hv) BO⟩
/-! ### _law_like of like things is True -/
def atomV : V → Bool
  | .non => true
  | .bl _ => true
  | .int _ => true
  | .str _ => true
  | _ => false
def Lk (H : Hp) : Nat → V → V → Prop
  | 0, _, _ => False
  | n + 1, x, y => (x = y ∧ atomV x = true) ∨
    (∃ (a b : Addr) (xs ys : List V), x = .ref a ∧ y = .ref b ∧ H a = some (.lst xs) ∧ H b = some (.lst ys) ∧ xs.length = ys.length ∧ xs.length ≤ 1000 ∧ ∀ (i : Nat) u v, xs[i]? = some u → ys[i]? = some v → Lk H n u v) ∨
    (∃ (a b : Addr) (xs ys : List V), x = .ref a ∧ y = .ref b ∧ H a = some (.tup xs) ∧ H b = some (.tup ys) ∧ xs.length = ys.length ∧ xs.length ≤ 1000 ∧ ∀ (i : Nat) u v, xs[i]? = some u → ys[i]? = some v → Lk H n u v)
theorem Lk.same {H H' : Hp} (s : Same H H') : ∀ (n : Nat) (x y : V), Lk H n x y → Lk H' n x y
  | 0, _, _, h => h
  | n + 1, x, y, h => by
    rcases h with h | ⟨a, b, xs, ys, e1, e2, e3, e4, e5, e6, h⟩ | ⟨a, b, xs, ys, e1, e2, e3, e4, e5, e6, h⟩
    · exact .inl h
    · exact .inr (.inl ⟨a, b, xs, ys, e1, e2, s _ _ e3, s _ _ e4, e5, e6, fun i u v h1 h2 => Lk.same s n u v (h i u v h1 h2)⟩)
    · exact .inr (.inr ⟨a, b, xs, ys, e1, e2, s _ _ e3, s _ _ e4, e5, e6, fun i u v h1 h2 => Lk.same s n u v (h i u v h1 h2)⟩)
def spLike (n : Nat) : Sp := fun vs H Q _ => ∃ x y, vs = [x, y] ∧ Lk H n x y ∧ ∀ H', Same H H' → Q (.bl true) H'
theorem scLike : FnScope ["_law_found", "_law_due", "_law_one", "_law_other"] ["_law_found", "_law_due"] (defScope sLike) := ⟨rfl, rfl, rfl, by decide +kernel, rfl, by decide +kernel, by decide +kernel⟩
theorem walk_zipT {a b : Addr} {xs ys : List V} {n : Nat} (hn : n = min xs.length ys.length) : Walk (RZ.ItzT K a b) n (fun H => SqT K H a xs ∧ SqT K H b ys) (YPair (fun i => xs[i]?) (fun i => ys[i]?)) := by
  subst hn
  refine ⟨fun i H hi q => ?_, fun H q => ?_, fun i H x H' hi q y => ?_⟩
  · have h1 : i < xs.length := by omega
    have h2 : i < ys.length := by omega
    exact ⟨xs, ys, xs[i], ys[i], q.1, q.2, by simp [h1], by simp [h2]⟩
  · exact ⟨xs, ys, q.1, q.2, by omega⟩
  · obtain ⟨T, u, v, e1, e2, e3, g1, g2⟩ := y
    exact ⟨T, u, v, e1, e2, e3, g1 xs q.1, g2 ys q.2⟩
/-- what the law asks of an atom: its type's name -/
def tyV : V → String
  | .non => "NoneType"
  | .bl _ => "bool"
  | .int _ => "int"
  | .str _ => "str"
  | _ => "none"
theorem tyV_of {H : Hp} {x : V} (h : atomV x = true) : TyX K H x (.type (tyV x)) := by
  cases x with
  | non => exact .base .non
  | bl b => exact .base (.bl b)
  | int i => exact .base (.int i)
  | str z => exact .base (.str z)
  | _ => cases h
theorem tyV_cases {x : V} (h : atomV x = true) : tyV x = "NoneType" ∨ tyV x = "bool" ∨ tyV x = "int" ∨ tyV x = "str" := by
  cases x with
  | non => exact .inl rfl
  | bl b => exact .inr (.inl rfl)
  | int i => exact .inr (.inr (.inl rfl))
  | str z => exact .inr (.inr (.inr rfl))
  | _ => cases h
/-- isinstance of an atom: some answer, by the type alone -/
def isB (x : V) (T : String) : Bool := (kitB (tyV x) T).getD false
theorem isB_of {x : V} {T : String} (h : atomV x = true) (hT : T = "list" ∨ T = "tuple" ∨ T = "bool" ∨ T = "int" ∨ T = "str") : PySem.W.kitOne K (.type (tyV x)) (.type T) = some (isB x T) := by
  refine kit_ty ?_
  unfold isB
  rcases tyV_cases h with e | e | e | e <;> rw [e] <;> rcases hT with e | e | e | e | e <;> rw [e] <;> decide +kernel
theorem isB_no {x : V} (h : atomV x = true) : PySem.W.kitAny K (.type (tyV x)) [.type "list", .type "tuple"] = some false := by
  rcases tyV_cases h with e | e | e | e <;> rw [e]
  all_goals
    refine kitAny_cons (b := false) (kit_ty (by decide +kernel)) (fun _ => ?_) (fun z => by cases z)
    refine kitAny_cons (b := false) (kit_ty (by decide +kernel)) (fun _ => rfl) (fun z => by cases z)
theorem all_true (n : Nat) : (List.replicate n true).all id = true := by
  rw [List.all_replicate]
  simp
theorem like0 {f : Addr} {fd : FuncData} {k : Nat} (F : Fun K "_law_like" "_law_like" sLike f fd) : FnOk P w K mg base CX0 (k + 1) f fd ["_law_found", "_law_due"] (spLike 0) := by
  refine F.ok scLike (fun vs H Q E h => ?_) (fun cdv A outer s H vs Q E hr h => ?_)
  · obtain ⟨x, y, rfl, _⟩ := h
    rfl
  · obtain ⟨x, y, rfl, L, q⟩ := h
    exact L.elim
set_option maxHeartbeats 8000000 in
theorem ok_like {f : Addr} {fd : FuncData} {n k : Nat} (F : Fun K "_law_like" "_law_like" sLike f fd) (T : Bi mg) (c : 0 < n → C8.Cal P w K mg base (k + 1) "_law_like" (spLike (n - 1)) []) : FnOk P w K mg base CX0 (k + 2) f fd ["_law_found", "_law_due"] (spLike n) := by
  refine F.ok scLike (fun vs H Q E h => ?_) (fun cdv A outer s H vs Q E hr h => ?_)
  · obtain ⟨x, y, rfl, _⟩ := h
    rfl
  · obtain ⟨x, y, rfl, L, q⟩ := h
    cases n with
    | zero => exact L.elim
    | succ n =>
      have cc := c (Nat.succ_pos n)
      refine ⟨_, pss_cons (ps_if (pt_val (pe_callB call_isiT (by rfl) T.isi (by decide +kernel) (pa_cons (pv 1) (pa_cons (pe_tup (pa_cons (pe_bltn (v := .ty "list") (by rfl) T.list (by decide +kernel) rfl) (pa_cons (pe_bltn (v := .ty "tuple") (by rfl) T.tuple (by decide +kernel) rfl) pa_nil))) pa_nil))))
          (pss_cons (ps_if (PW.pt (pw_or (pt_cmpR op_ne (pe_callB call_isi (by rfl) T.isi (by decide +kernel) (pa_cons (pv 0) (pa_cons (pe_bltn (v := .ty "list") (by rfl) T.list (by decide +kernel) rfl) pa_nil))) (pe_callB call_isi (by rfl) T.isi (by decide +kernel) (pa_cons (pv 1) (pa_cons (pe_bltn (v := .ty "list") (by rfl) T.list (by decide +kernel) rfl) pa_nil))) (nomark _))
              (pw_or1 (pt_cmpR op_ne (pe_callB call_isi (by rfl) T.isi (by decide +kernel) (pa_cons (pv 0) (pa_cons (pe_bltn (v := .ty "tuple") (by rfl) T.tuple (by decide +kernel) rfl) pa_nil))) (pe_callB call_isi (by rfl) T.isi (by decide +kernel) (pa_cons (pv 1) (pa_cons (pe_bltn (v := .ty "tuple") (by rfl) T.tuple (by decide +kernel) rfl) pa_nil))) (nomark _))))) (pss_one (ps_ret pe_bl)) pss_nil)
          (pss_one (ps_ret (pe_and (pe_cmpR op_eq (pe_callB call_len_seq (by rfl) T.len PySem.boot_len (pa_cons (pv 0) pa_nil)) (pe_callB call_len_seq (by rfl) T.len PySem.boot_len (pa_cons (pv 1) pa_nil)) (nomark _))
            (pe_one (pe_callB (cr_all rfl) (by rfl) T.all (by decide +kernel) (pa_cons
              (pe_lc (own := [("_law_one", 2), ("_law_other", 3)]) (g := gTup K 2 (gCons (gName 2) (gCons (gName 3) gNil))) (tt := tYes) (te := tCall (spLike n) [] E0 (tCons (tVar 2) (tCons (tVar 3) tNil))) rfl scLike.nd (RZ.pi_zipA (by rfl) T.zip (pa_cons (pv 0) (pa_cons (pv 1) pa_nil)))
                (blkOk_by (N := ["_law_found", "_law_due", "_law_one", "_law_other"]) (sc := defScope sLike) (by decide +kernel))
                (fun _ _ _ _ _ => by exact pg_tup rfl (pgs_cons (pg_name (i := 2) scLike.nd rfl (Or.inl rfl)) (pgs_cons (pg_name (i := 3) scLike.nd rfl (Or.inl rfl)) pgs_nil)))
                (fun _ _ _ _ _ => pts_nil)
                (fun _ _ _ _ _ => by exact C8.pe_c cc hr (Nat.le_refl _) (by rfl) (pa_cons (pv 2) (pa_cons (pv 3) pa_nil)))) pa_nil))))))) pss_nil)
        (pss_cons (ps_if (PW.pt (pw_or (pt_cmpR op_isN (pv 0) pe_non (nomark _)) (pw_or1 (pt_cmpR op_isN (pv 1) pe_non (nomark _))))) (pss_one (ps_ret (pe_and (pe_cmpR op_isN (pv 0) pe_non (nomark _)) (pe_one (pe_cmpR op_isN (pv 1) pe_non (nomark _)))))) pss_nil)
        (pss_cons (ps_if (PW.pt (pw_or (pt_cmpR op_ne (pe_callB call_isi (by rfl) T.isi (by decide +kernel) (pa_cons (pv 0) (pa_cons (pe_bltn (v := .ty "bool") (by rfl) T.bool (by decide +kernel) rfl) pa_nil))) (pe_callB call_isi (by rfl) T.isi (by decide +kernel) (pa_cons (pv 1) (pa_cons (pe_bltn (v := .ty "bool") (by rfl) T.bool (by decide +kernel) rfl) pa_nil))) (nomark _))
              (pw_or1 (pt_cmpR op_ne (pe_callB call_isi (by rfl) T.isi (by decide +kernel) (pa_cons (pv 0) (pa_cons (pe_bltn (v := .ty "int") (by rfl) T.int (by decide +kernel) rfl) pa_nil))) (pe_callB call_isi (by rfl) T.isi (by decide +kernel) (pa_cons (pv 1) (pa_cons (pe_bltn (v := .ty "int") (by rfl) T.int (by decide +kernel) rfl) pa_nil))) (nomark _))))) (pss_one (ps_ret pe_bl)) pss_nil)
        (pss_one (ps_ret (pe_and (pe_cmpR op_eq (pe_callB call_isi (by rfl) T.isi (by decide +kernel) (pa_cons (pv 0) (pa_cons (pe_bltn (v := .ty "str") (by rfl) T.str (by decide +kernel) rfl) pa_nil))) (pe_callB call_isi (by rfl) T.isi (by decide +kernel) (pa_cons (pv 1) (pa_cons (pe_bltn (v := .ty "str") (by rfl) T.str (by decide +kernel) rfl) pa_nil))) (nomark _)) (pe_one (pe_cmpR op_eq (pv 0) (pv 1) (nomark _)))))))), ?_⟩
      rcases L with ⟨rfl, ha⟩ | ⟨a, b, xs, ys, rfl, rfl, ea, eb, hl, h1000, hp⟩ | ⟨a, b, xs, ys, rfl, rfl, ea, eb, hl, h1000, hp⟩
      · refine ⟨_, rfl, (by show 2 ≤ sizeLine; decide), fun t ht => ?_⟩
        have s1 := same_upd (o := .tup [.ty "list", .ty "tuple"]) ht
        refine ⟨x, t, _, _, _, _, rfl, upd_same, .cons (.ty _) (.cons (.ty _) .nil), tyV_of ha, isB_no ha, false, rfl, ?_⟩
        refine iteF ?_
        refine ⟨_, rfl, rfl, _, rfl, ?_⟩
        by_cases hx : x = .non
        · subst hx
          refine if_t (decide_eq_true rfl) (iteT ?_)
          exact ⟨_, rfl, rfl, _, rfl, if_t (decide_eq_true rfl) ⟨_, rfl, rfl, q _ s1⟩⟩
        · refine if_f (decide_eq_false hx) ⟨_, rfl, rfl, _, rfl, if_f (decide_eq_false hx) ?_⟩
          refine ⟨_, rfl, x, _, _, _, _, rfl, .ty _, tyV_of ha, isB_of ha (by simp), _, rfl, x, _, _, _, _, rfl, .ty _, tyV_of ha, isB_of ha (by simp), rfl, _, rfl, ?_⟩
          refine if_f (by simp) ?_
          refine ⟨_, rfl, x, _, _, _, _, rfl, .ty _, tyV_of ha, isB_of ha (by simp), _, rfl, x, _, _, _, _, rfl, .ty _, tyV_of ha, isB_of ha (by simp), rfl, _, rfl, ?_⟩
          refine if_f (by simp) ?_
          refine ⟨_, rfl, x, _, _, _, _, rfl, .ty _, tyV_of ha, isB_of ha (by simp), _, rfl, x, _, _, _, _, rfl, .ty _, tyV_of ha, isB_of ha (by simp), rfl, _, rfl, ?_⟩
          refine if_t (by simp) ?_
          refine ⟨_, rfl, _, rfl, ?_, ?_⟩
          · cases x <;> first | rfl | (cases ha)
          · rw [decide_eq_true rfl]
            exact q _ s1
      · refine ⟨_, rfl, (by show 2 ≤ sizeLine; decide), fun t ht => ?_⟩
        have s1 := same_upd (o := .tup [.ty "list", .ty "tuple"]) ht
        have ea1 := s1 _ _ ea
        have eb1 := s1 _ _ eb
        refine ⟨.ref b, t, _, _, _, _, rfl, upd_same, .cons (.ty _) (.cons (.ty _) .nil), .base (.lst eb1), kitAny_cons (b := true) (kit_ty (by decide +kernel)) (fun z => by cases z) (fun _ => rfl), true, rfl, ?_⟩
        refine iteT ?_
        refine ⟨_, rfl, _, _, _, _, true, rfl, .ty _, .base (.lst ea1), kit_ty (by decide +kernel), _, rfl, _, _, _, _, true, rfl, .ty _, .base (.lst eb1), kit_ty (by decide +kernel), rfl, _, rfl, ?_⟩
        refine if_f (by simp) ?_
        refine ⟨_, rfl, _, _, _, _, false, rfl, .ty _, .base (.lst ea1), kit_ty (by decide +kernel), _, rfl, _, _, _, _, false, rfl, .ty _, .base (.lst eb1), kit_ty (by decide +kernel), rfl, _, rfl, ?_⟩
        refine if_f (by simp) ?_
        refine ⟨_, rfl, a, xs, rfl, .inl (SqL.of ea1), _, rfl, b, ys, rfl, .inl (SqL.of eb1), rfl, _, rfl, ?_⟩
        refine if_t (by rw [hl]; exact decide_eq_true rfl) ?_
        refine ⟨_, rfl, _, rfl, a, b, xs, ys, rfl, .inl ⟨SqL.of ea1, SqL.of eb1, fun D hD => ?_⟩⟩
        have s2 := s1.trans (same_upd (o := .lst []) hD)
        refine lc_it (walk_zip (K := K) (a := a) (b := b) (xs := xs) (ys := ys) (n := xs.length) (by omega)) (fun i H' => Same H H' ∧ H' D = some (.lst ((List.replicate i true).map V.bl))) ⟨s2, upd_same⟩ (fun i H' _ p => ⟨SqL.of (p.1 _ _ ea), SqL.of (p.1 _ _ eb)⟩) ?_ ?_
        · rintro i v H1 H' hi ⟨sm, eD⟩ ⟨T, x, y, rfl, hT, rfl, gx, gy⟩
          have s3 := sm.trans (same_upd (o := .tup [x, y]) hT)
          refine ⟨T, _, rfl, SqT.of upd_same, rfl, _, _, rfl, _, _, rfl, rfl, rfl, ?_⟩
          refine ⟨_, rfl, _, rfl, x, y, rfl, Lk.same s3 n _ _ (hp i x y gx gy), fun H4 s4 => ?_⟩
          have eD4 : H4 D = some (.lst ((List.replicate i true).map V.bl)) := s4 _ _ (by rw [upd_ne (ne_of_none eD hT)]; exact eD)
          have nD : H D = none := s1.free hD
          refine ⟨_, eD4, ?_, ?_, ?_⟩
          · rw [List.length_map, List.length_replicate]
            exact small1000 (by omega)
          · intro c o ec
            rw [upd_ne (ne_of_none ec nD)]
            exact s4 _ _ (s3 _ _ ec)
          · rw [upd_same, List.replicate_succ', List.map_append]
            rfl
        · rintro H' ⟨sm, eD⟩
          refine ⟨D, List.replicate xs.length true, rfl, SqL.of eD, ?_⟩
          rw [all_true]
          exact q H' sm
      · refine ⟨_, rfl, (by show 2 ≤ sizeLine; decide), fun t ht => ?_⟩
        have s1 := same_upd (o := .tup [.ty "list", .ty "tuple"]) ht
        have ea1 := s1 _ _ ea
        have eb1 := s1 _ _ eb
        refine ⟨.ref b, t, _, _, _, _, rfl, upd_same, .cons (.ty _) (.cons (.ty _) .nil), .base (.tup eb1), kitAny_cons (b := false) (kit_ty (by decide +kernel)) (fun _ => kitAny_cons (b := true) (kit_ty (by decide +kernel)) (fun z => by cases z) (fun _ => rfl)) (fun z => by cases z), true, rfl, ?_⟩
        refine iteT ?_
        refine ⟨_, rfl, _, _, _, _, false, rfl, .ty _, .base (.tup ea1), kit_ty (by decide +kernel), _, rfl, _, _, _, _, false, rfl, .ty _, .base (.tup eb1), kit_ty (by decide +kernel), rfl, _, rfl, ?_⟩
        refine if_f (by simp) ?_
        refine ⟨_, rfl, _, _, _, _, true, rfl, .ty _, .base (.tup ea1), kit_ty (by decide +kernel), _, rfl, _, _, _, _, true, rfl, .ty _, .base (.tup eb1), kit_ty (by decide +kernel), rfl, _, rfl, ?_⟩
        refine if_f (by simp) ?_
        refine ⟨_, rfl, a, xs, rfl, .inr (SqT.of ea1), _, rfl, b, ys, rfl, .inr (SqT.of eb1), rfl, _, rfl, ?_⟩
        refine if_t (by rw [hl]; exact decide_eq_true rfl) ?_
        refine ⟨_, rfl, _, rfl, a, b, xs, ys, rfl, .inr ⟨SqT.of ea1, SqT.of eb1, fun D hD => ?_⟩⟩
        have s2 := s1.trans (same_upd (o := .lst []) hD)
        refine lc_it (walk_zipT (K := K) (a := a) (b := b) (xs := xs) (ys := ys) (n := xs.length) (by omega)) (fun i H' => Same H H' ∧ H' D = some (.lst ((List.replicate i true).map V.bl))) ⟨s2, upd_same⟩ (fun i H' _ p => ⟨SqT.of (p.1 _ _ ea), SqT.of (p.1 _ _ eb)⟩) ?_ ?_
        · rintro i v H1 H' hi ⟨sm, eD⟩ ⟨T, x, y, rfl, hT, rfl, gx, gy⟩
          have s3 := sm.trans (same_upd (o := .tup [x, y]) hT)
          refine ⟨T, _, rfl, SqT.of upd_same, rfl, _, _, rfl, _, _, rfl, rfl, rfl, ?_⟩
          refine ⟨_, rfl, _, rfl, x, y, rfl, Lk.same s3 n _ _ (hp i x y gx gy), fun H4 s4 => ?_⟩
          have eD4 : H4 D = some (.lst ((List.replicate i true).map V.bl)) := s4 _ _ (by rw [upd_ne (ne_of_none eD hT)]; exact eD)
          have nD : H D = none := s1.free hD
          refine ⟨_, eD4, ?_, ?_, ?_⟩
          · rw [List.length_map, List.length_replicate]
            exact small1000 (by omega)
          · intro c o ec
            rw [upd_ne (ne_of_none ec nD)]
            exact s4 _ _ (s3 _ _ ec)
          · rw [upd_same, List.replicate_succ', List.map_append]
            rfl
        · rintro H' ⟨sm, eD⟩
          refine ⟨D, List.replicate xs.length true, rfl, SqL.of eD, ?_⟩
          rw [all_true]
          exact q H' sm
end
end Lw

set_option Elab.async false
set_option linter.all false
set_option maxRecDepth 100000
namespace Lw
open PySem L2
abbrev sPlan : Stmt := top 29
/-! ### edges: their tuples' places, and their two ends -/
abbrev Es := List (Addr × Int × Int)
def Ed (H : Hp) (ts : Es) : Prop := ∀ e ∈ ts, H e.1 = some (.tup [.int e.2.1, .int e.2.2])
def vsOf (ts : Es) : List V := ts.map fun e => .ref e.1
def psOf (ts : Es) : List (Int × Int) := ts.map (·.2)
/-- all that stood, but at b, stands -/
def KeepB (b : Addr) (H H' : Hp) : Prop := ∀ c o, c ≠ b → H c = some o → H' c = some o
theorem KeepB.rfl' {b : Addr} {H : Hp} : KeepB b H H := fun _ _ _ e => e
theorem KeepB.trans {b : Addr} {H H1 H2 : Hp} (x : KeepB b H H1) (y : KeepB b H1 H2) : KeepB b H H2 := fun c o n e => y c o n (x c o n e)
theorem KeepB.of_same {b : Addr} {H H' : Hp} (s : Same H H') : KeepB b H H' := fun c o _ e => s c o e
theorem KeepB.updb {b : Addr} {H : Hp} {o : HO} : KeepB b H (upd H b o) := fun c o n e => by
  rw [upd_ne n]
  exact e
theorem KeepB.new {b p : Addr} {H H' : Hp} {o : HO} (x : KeepB b H H') (n : H' p = none) : KeepB b H (upd H' p o) := x.trans (.of_same (same_upd n))
/-- a store at what was not there at first -/
theorem KeepB.at {b p : Addr} {H H' : Hp} {o : HO} (x : KeepB b H H') (n : H p = none) : KeepB b H (upd H' p o) := fun c o' nb e => by
  rw [upd_ne (ne_of_none e n)]
  exact x c o' nb e
theorem KeepB.free {b p : Addr} {H H' : Hp} {ob : HO} (x : KeepB b H H') (hb : H' b = some ob) (n : H' p = none) : H p = none := by
  cases e : H p with
  | none => rfl
  | some o =>
    have np : p ≠ b := fun z => by
      rw [z, hb] at n
      cases n
    rw [x p o np e] at n
    cases n
theorem BagAt.at_b {H : Hp} {b l : Addr} {ns : List Int} (B : BagAt H b l ns) : ∃ xs, H b = some (.lst xs) := by
  obtain ⟨o, ho, i, r, s, rfl, _⟩ := B.ob
  exact ⟨_, ho⟩
theorem BagAt.ne_tup {H : Hp} {b l c : Addr} {ns : List Int} {xs : List V} (B : BagAt H b l ns) (h : H c = some (.tup xs)) : c ≠ b := fun e => by
  obtain ⟨ys, hb⟩ := B.at_b
  rw [e, hb] at h
  cases h
theorem BagAt.ne_ins {H : Hp} {b l c C dx : Addr} {ns : List Int} {fs : List (Str × V)} (B : BagAt H b l ns) (h : H c = some (.ins C dx fs)) : c ≠ b := fun e => by
  obtain ⟨ys, hb⟩ := B.at_b
  rw [e, hb] at h
  cases h
theorem BagAt.ne_new {H : Hp} {b l c : Addr} {ns : List Int} (B : BagAt H b l ns) (h : H c = none) : c ≠ b := fun e => by
  obtain ⟨ys, hb⟩ := B.at_b
  rw [e, hb] at h
  cases h
theorem vsOf_cons_ne {l : Addr} {ts : Es} {i : Nat} {r s : Int} : vsOf ts ≠ [.ref l, .int (i : Int), .int r, .int s] := fun e => by
  have h : (vsOf ts)[1]? = some (V.int (i : Int)) := by rw [e]; rfl
  unfold vsOf at h
  rw [List.getElem?_map] at h
  cases g : ts[1]? with
  | none => rw [g] at h; cases h
  | some x => rw [g] at h; cases h
theorem BagAt.ne_vs {H : Hp} {b l c : Addr} {ns : List Int} {ts : Es} (B : BagAt H b l ns) (h : H c = some (.lst (vsOf ts))) : c ≠ b := fun e => by
  obtain ⟨o, ho, i, r, s, rfl, _⟩ := B.ob
  rw [e, ho] at h
  injection h with h
  injection h with h
  exact vsOf_cons_ne h.symm
theorem Ed.keep {H H' : Hp} {b l : Addr} {ns : List Int} {ts : Es} (h : Ed H ts) (B : BagAt H b l ns) (k : KeepB b H H') : Ed H' ts := fun e he => k _ _ (B.ne_tup (h e he)) (h e he)
theorem Ed.same {H H' : Hp} {ts : Es} (h : Ed H ts) (k : Same H H') : Ed H' ts := fun e he => k _ _ (h e he)
theorem Ed.app {H : Hp} {ts us : Es} (h : Ed H ts) (h2 : Ed H us) : Ed H (ts ++ us) := fun e he => (List.mem_append.mp he).elim (h e) (h2 e)
theorem Ed.nil {H : Hp} : Ed H [] := fun e he => nomatch he
theorem Ed.one {H : Hp} {t : Addr} {x y : Int} (h : H t = some (.tup [.int x, .int y])) : Ed H [(t, x, y)] := fun e he => by
  have z := List.mem_singleton.mp he
  subst z
  exact h
/-- the bag where all but the bag stands -/
theorem BagAt.new {H : Hp} {b l p : Addr} {ns : List Int} {o : HO} (B : BagAt H b l ns) (n : H p = none) : BagAt (L2.upd H p o) b l ns := B.same (same_upd n)
theorem BagAt.off {H : Hp} {b l p : Addr} {ns : List Int} {o : HO} (B : BagAt H b l ns) (nb : p ≠ b) (nl : p ≠ l) : BagAt (L2.upd H p o) b l ns := by
  obtain ⟨ob, hob, hB⟩ := B.ob
  exact ⟨⟨ob, by rw [upd_ne nb.symm]; exact hob, hB⟩, by rw [upd_ne nl.symm]; exact B.sc, B.ln⟩
structure Valid (n : Int) (ts : Es) : Prop where
  rg : ∀ e ∈ ts, 0 ≤ e.2.1 ∧ e.2.1 < n ∧ 0 ≤ e.2.2 ∧ e.2.2 < n
  sr : ∀ k : Int, 0 ≤ k → k < n → ∃ e ∈ ts, e.2.1 = k
structure PlanAt (H : Hp) (p q : Addr) (n : Int) (ts : Es) : Prop where
  tp : H p = some (.tup [.int n, .ref q])
  ls : H q = some (.lst (vsOf ts))
  ed : Ed H ts
  va : Valid n ts
  n1 : 1 ≤ n
def spPlan : Sp := fun vs H Q _ => ∃ (b l : Addr) (ns : List Int) (most many : Int), vs = [.ref b, .int most, .int many] ∧ BagAt H b l ns ∧ 1 ≤ most ∧ most ≤ many ∧ many ≤ 100 ∧
  ∀ (p q : Addr) (n : Int) (ts : Es) (H' : Hp), KeepB b H H' → BagAt H' b l ns → H p = none → H q = none → PlanAt H' p q n ts → n ≤ most → (ts.length : Int) ≤ many → Q (.ref p) H'
theorem cut_lo {xs : List V} {k : Nat} (h : k ≤ xs.length) : cutV xs none (some (k : Int)) = xs.take k := by
  unfold cutV
  rw [HT.sIx_none, HT.sIx_nat, Nat.min_eq_left h]
  simp
theorem cut_hi {xs : List V} {k : Nat} (h : k ≤ xs.length) : cutV xs (some (k : Int)) none = xs.drop k := by
  unfold cutV
  rw [HT.sIx_none, HT.sIx_nat, Nat.min_eq_left h]
  rw [List.take_of_length_le]
  rw [List.length_drop]
  exact Nat.le_refl _
section
variable {P : Program} {w : World} {K : PySem.W.Frag} {mg : Str → Option Value} {base : Heap}
theorem scPlan : FnScope ["_law_bag_here", "_law_most", "_law_many", "_law_size", "_law_pairs", "_law_k", "_law_at", "_law_state"] ["_law_bag_here", "_law_most", "_law_many"] (defScope sPlan) := ⟨rfl, rfl, rfl, by decide +kernel, rfl, by decide +kernel, by decide +kernel⟩
set_option maxHeartbeats 8000000 in
theorem ok_plan {f : Addr} {fd : FuncData} {k : Nat} (F : Fun K "_law_plan" "_law_plan" sPlan f fd) (T : Bi mg) (cP : C8.Cal P w K mg base 1 "_law_pull" spPull []) : FnOk P w K mg base CX0 (k + 2) f fd ["_law_bag_here", "_law_most", "_law_many"] spPlan := by
  refine F.ok scPlan (fun vs H Q E h => ?_) (fun cdv A outer s H vs Q E hr h => ?_)
  · obtain ⟨b, l, ns, m1, m2, rfl, _⟩ := h
    rfl
  · obtain ⟨b, l, ns, most, many, rfl, B, hm1, hm2, hm3, q⟩ := h
    have hk : 1 ≤ k + 1 := Nat.le_add_left 1 k
    refine ⟨_, pss_cons (ps_set (i := 3) scPlan.nd rfl (Or.inr rfl) (pe_op op_add pe_int (C8.pe_c cP hr hk (by rfl) (pa_cons (pv 0) (pa_cons (pv 1) pa_nil)))))
      (pss_cons (ps_setLc (i := 4) (own := [("_law_state", 7)]) (g := gName 7) (tt := tYes) (te := tTup (tCons (tVar 7) (tCons (tCall spPull [] E0 (tCons (tVar 0) (tCons (tVar 3) tNil))) tNil))) rfl scPlan.nd rfl rfl (sw_true rfl rfl rfl (by decide +kernel))
          (pi_range1 (by rfl) T.range (pa_cons (pv 3) pa_nil))
          (blkOk_by (N := ["_law_bag_here", "_law_most", "_law_many", "_law_size", "_law_pairs", "_law_k", "_law_at", "_law_state"]) (sc := defScope sPlan) (by decide +kernel))
          (fun _ _ _ _ _ => by exact pg_name (i := 7) scPlan.nd rfl (Or.inl rfl))
          (fun _ _ _ _ _ => pts_nil)
          (fun _ _ _ _ _ => by exact pe_tup (pa_cons (pv 7) (pa_cons (C8.pe_c cP hr hk (by rfl) (pa_cons (pv 0) (pa_cons (pv 3) pa_nil))) pa_nil))))
      (pss_cons (ps_for PassesOwn.never rfl (pi_range1 (by rfl) T.range (pa_cons (C8.pe_c cP hr hk (by rfl) (pa_cons (pv 0) (pa_cons (pe_op op_add (pe_op op_sub (pv 2) (pv 3)) pe_int) pa_nil))) pa_nil)) (pg_name (i := 5) scPlan.nd rfl (Or.inl rfl))
        (pss_cons (ps_set (i := 6) scPlan.nd rfl (Or.inl rfl) (C8.pe_c cP hr hk (by rfl) (pa_cons (pv 0) (pa_cons (pe_op op_add (pe_callB call_len_seq (by rfl) T.len PySem.boot_len (pa_cons (pv 4) pa_nil)) pe_int) pa_nil))))
        (pss_one (ps_set (i := 4) scPlan.nd rfl (Or.inl rfl) (pe_op op_cat (pe_op op_cat (pe_slice sl_list (pv 4) po_none (po_some (pv 6)))
          (pe_lst (pa_cons (pe_tup (pa_cons (C8.pe_c cP hr hk (by rfl) (pa_cons (pv 0) (pa_cons (pv 3) pa_nil))) (pa_cons (C8.pe_c cP hr hk (by rfl) (pa_cons (pv 0) (pa_cons (pv 3) pa_nil))) pa_nil))) pa_nil)))
          (pe_slice sl_list (pv 4) (po_some (pv 6)) po_none))))))
      (pss_one (ps_ret (pe_tup (pa_cons (pv 3) (pa_cons (pv 4) pa_nil))))))), ?_⟩
    -- size
    refine ⟨_, rfl, _, rfl, b, l, ns, most, rfl, B, by omega, by omega, fun v o v0 v1 BO => ?_⟩
    refine ⟨_, _, rfl, rfl, ?_⟩
    have B1 := B.upd BO
    have k1 : KeepB b H (upd H b o) := .updb
    have hv0 : 0 ≤ 1 + v := by omega
    -- pairs: the comprehension
    refine ⟨_, rfl, 1 + v, rfl, by omega, by omega, fun D hD => ?_⟩
    have hbD : D ≠ b := B1.ne_new hD
    have nD : H D = none := by
      rw [upd_ne hbD] at hD
      exact hD
    refine lc_it (walk_range (lo := 0) (n := (1 + v).toNat)) (fun i H' => ∃ ts : Es, ts.length = i ∧ KeepB b H H' ∧ BagAt H' b l ns ∧ H' D = some (.lst (vsOf ts)) ∧ Ed H' ts ∧ ∀ (j : Nat) (e : Addr × Int × Int), ts[j]? = some e → e.2.1 = (j : Int) ∧ 0 ≤ e.2.2 ∧ e.2.2 < 1 + v)
      ⟨[], rfl, k1.new hD, B1.new hD, upd_same, .nil, fun j e he => by simp at he⟩ (fun _ _ _ _ => True.intro) ?_ ?_
    · rintro i x H1 H' hi ⟨ts, hts, kp, Bi, eD, ed, hj⟩ ⟨rfl, rfl⟩
      refine ⟨rfl, ?_⟩
      refine ⟨_, rfl, _, rfl, _, rfl, b, l, ns, _, rfl, Bi, by omega, by omega, fun v2 o2 v20 v21 BO2 => ?_⟩
      refine ⟨(by show 2 ≤ sizeLine; decide), fun t ht => ?_⟩
      have B2 := Bi.upd BO2
      have B3 := B2.new (o := .tup [.int (0 + (i : Int)), .int v2]) ht
      have ed3 : Ed (upd (upd H' b o2) t (.tup [.int (0 + (i : Int)), .int v2])) ts := (ed.keep Bi .updb).same (same_upd ht)
      have eD2 : upd H' b o2 D = some (.lst (vsOf ts)) := by
        rw [upd_ne hbD]
        exact eD
      have tD : D ≠ t := ne_of_none eD2 ht
      refine ⟨vsOf ts, by rw [upd_ne tD]; exact eD2, ?_, ts ++ [(t, (i : Int), v2)], by simp [hts], ?_, ?_, ?_, ?_, ?_⟩
      · unfold vsOf
        rw [List.length_map]
        exact small1000 (by omega)
      · exact ((kp.trans .updb).new ht).at nD
      · exact B3.off hbD (ne_of_none B.sc nD).symm
      · rw [upd_same]
        unfold vsOf
        rw [List.map_append]
        rfl
      · refine Ed.app (fun e he => ?_) (.one ?_)
        · have h1 := ed3 e he
          rw [upd_ne (fun z => ?_)]
          · exact h1
          · rw [z, upd_ne tD, eD2] at h1
            cases h1
        · rw [upd_ne (Ne.symm tD), upd_same]
          show some (HO.tup [V.int (0 + (i : Int)), V.int v2]) = _
          rw [Int.zero_add]
      · intro j e he
        by_cases hlt : j < ts.length
        · rw [List.getElem?_append_left hlt] at he
          exact hj j e he
        · rw [List.getElem?_append_right (by omega)] at he
          cases hz : j - ts.length with
          | zero =>
            rw [hz] at he
            have z : (t, (i : Int), v2) = e := Option.some.inj he
            subst z
            exact ⟨by show (i : Int) = (j : Int); omega, v20, v21⟩
          | succ m =>
            rw [hz] at he
            cases he
    · rintro H1 ⟨ts, hts, kp, Bi, eD, ed, hj⟩
      have va : Valid (1 + v) ts := by
        refine ⟨fun e he => ?_, fun k k0 k1 => ?_⟩
        · obtain ⟨j, hjl, hje⟩ := List.getElem_of_mem he
          have h1 := hj j e (by rw [List.getElem?_eq_getElem hjl, hje])
          exact ⟨by omega, by omega, h1.2.1, h1.2.2⟩
        · have hk' : k.toNat < ts.length := by omega
          have h1 := hj k.toNat ts[k.toNat] (List.getElem?_eq_getElem hk')
          exact ⟨ts[k.toNat], List.getElem_mem hk', by rw [h1.1]; omega⟩
      -- the loop
      have ln1 : (ts.length : Int) = 1 + v := by omega
      refine ⟨_, rfl, _, rfl, _, rfl, _, _, rfl, rfl, _, _, rfl, rfl, b, l, ns, _, rfl, Bi, by omega, by omega, fun r o2 r0 r1 BO2 => ?_⟩
      refine ⟨r, rfl, by omega, by omega, ?_⟩
      refine for_it (walk_range (lo := 0) (n := r.toNat)) (fun i σ H' => ∃ (us : Es) (qa : Addr) (v5 v6 v7 : Option V), σ = [some (.ref b), some (.int most), some (.int many), some (.int (1 + v)), some (.ref qa), v5, v6, v7] ∧
          (us.length : Int) = 1 + v + (i : Int) ∧ KeepB b H H' ∧ BagAt H' b l ns ∧ H qa = none ∧ H' qa = some (.lst (vsOf us)) ∧ Ed H' us ∧ Valid (1 + v) us)
        ⟨ts, D, none, none, none, rfl, by omega, kp.trans .updb, Bi.upd BO2, nD, by rw [upd_ne hbD]; exact eD, ed.keep Bi .updb, va⟩ (fun _ _ _ _ _ => True.intro) ?_ ?_
      · rintro i x σ H2 H' hi ⟨us, qa, v5, v6, v7, rfl, hus, kp2, B2, nq, eq, ed2, va2⟩ ⟨rfl, rfl⟩
        have qb : qa ≠ b := B2.ne_vs eq
        -- at = pull(bag, len(pairs) + 1)
        refine ⟨_, rfl, _, rfl, qa, _, rfl, .inl (SqL.of eq), _, _, rfl, rfl, b, l, ns, _, rfl, B2, ?_, ?_, fun at_ o3 a0 a1 BO3 => ?_⟩
        · show (0 : Int) < ((vsOf us).length : Int) + 1
          omega
        · show ((vsOf us).length : Int) + 1 < 2 ^ 100
          unfold vsOf
          rw [List.length_map]
          omega
        have a1' : at_ < (us.length : Int) + 1 := by
          have z : at_ < ((vsOf us).length : Int) + 1 := a1
          unfold vsOf at z
          rw [List.length_map] at z
          exact z
        have hat : ((at_.toNat : Nat) : Int) = at_ := Int.toNat_of_nonneg a0
        have hatl : at_.toNat ≤ (vsOf us).length := by
          unfold vsOf
          rw [List.length_map]
          omega
        have B3 := B2.upd BO3
        have eq3 : upd H' b o3 qa = some (.lst (vsOf us)) := by
          rw [upd_ne qb]
          exact eq
        have ed3 : Ed (upd H' b o3) us := ed2.keep B2 .updb
        have kp3 : KeepB b H (upd H' b o3) := kp2.trans .updb
        generalize upd H' b o3 = H3 at *
        -- pairs[:at]
        refine ⟨_, rfl, _, rfl, at_, rfl, qa, _, rfl, SqL.of eq3, fun p1 hp1 => ?_⟩
        rw [← hat, cut_lo hatl]
        have B4 := B3.new (o := .lst ((vsOf us).take at_.toNat)) hp1
        have kp4 := kp3.new (o := .lst ((vsOf us).take at_.toNat)) hp1
        have s4 := same_upd (o := .lst ((vsOf us).take at_.toNat)) hp1
        have eq4 := s4 _ _ eq3
        have ed4 := ed3.same s4
        have e14 : upd H3 p1 (.lst ((vsOf us).take at_.toNat)) p1 = some (.lst ((vsOf us).take at_.toNat)) := upd_same
        generalize upd H3 p1 (.lst ((vsOf us).take at_.toNat)) = H4 at *
        -- the new edge
        refine ⟨_, rfl, _, rfl, b, l, ns, _, rfl, B4, by omega, by omega, fun x1 o5 x10 x11 BO5 => ?_⟩
        have B5 := B4.upd BO5
        have p1b : p1 ≠ b := B3.ne_new hp1
        refine ⟨_, rfl, _, rfl, b, l, ns, _, rfl, B5, by omega, by omega, fun x2 o6 x20 x21 BO6 => ?_⟩
        have B6 := B5.upd BO6
        have kp6 : KeepB b H4 (upd (upd H4 b o5) b o6) := KeepB.updb.trans .updb
        have ed6 := ed4.keep B4 kp6
        have eq6 := kp6 _ _ qb eq4
        have e16 := kp6 _ _ p1b e14
        have kp6' := kp4.trans kp6
        generalize upd (upd H4 b o5) b o6 = H6 at *
        refine ⟨(by show 2 ≤ sizeLine; decide), fun t ht => ?_⟩
        have s7 := same_upd (o := .tup [.int x1, .int x2]) ht
        have B7 := B6.same s7
        have e7 : upd H6 t (.tup [.int x1, .int x2]) t = some (.tup [.int x1, .int x2]) := upd_same
        have kp7 := kp6'.trans (.of_same s7)
        have eq7 := s7 _ _ eq6
        have e17 := s7 _ _ e16
        have ed7 := ed6.same s7
        generalize upd H6 t (.tup [.int x1, .int x2]) = H7 at *
        refine ⟨(by show 1 ≤ sizeLine; decide), fun p2 hp2 => ?_⟩
        have s8 := same_upd (o := .lst [.ref t]) hp2
        have e8 : upd H7 p2 (.lst [.ref t]) p2 = some (.lst [.ref t]) := upd_same
        have B8 := B7.same s8
        have kp8 := kp7.trans (.of_same s8)
        have eq8 := s8 _ _ eq7
        have e18 := s8 _ _ e17
        have et8 := s8 _ _ e7
        have ed8 := ed7.same s8
        generalize upd H7 p2 (.lst [.ref t]) = H8 at *
        have hsz : ∀ m : Nat, m ≤ 1000 → m ≤ sizeLine := fun m h => Nat.le_of_lt (small1000 h)
        have lus : us.length ≤ 200 := by omega
        have lvs : (vsOf us).length = us.length := by
          unfold vsOf
          rw [List.length_map]
        refine ⟨p1, p2, _, _, rfl, rfl, e18, e8, hsz _ (by simp; omega), fun p3 hp3 => ?_⟩
        have s9 := same_upd (o := .lst ((vsOf us).take at_.toNat ++ [.ref t])) hp3
        have e9 : upd H8 p3 (.lst ((vsOf us).take at_.toNat ++ [.ref t])) p3 = some (.lst ((vsOf us).take at_.toNat ++ [.ref t])) := upd_same
        have B9 := B8.same s9
        have kp9 := kp8.trans (.of_same s9)
        have eq9 := s9 _ _ eq8
        have et9 := s9 _ _ et8
        have ed9 := ed8.same s9
        generalize upd H8 p3 (.lst ((vsOf us).take at_.toNat ++ [.ref t])) = H9 at *
        refine ⟨_, rfl, _, rfl, _, rfl, qa, _, rfl, SqL.of eq9, fun p4 hp4 => ?_⟩
        rw [cut_hi hatl]
        have s10 := same_upd (o := .lst ((vsOf us).drop at_.toNat)) hp4
        have e10 : upd H9 p4 (.lst ((vsOf us).drop at_.toNat)) p4 = some (.lst ((vsOf us).drop at_.toNat)) := upd_same
        have B10 := B9.same s10
        have kp10 := kp9.trans (.of_same s10)
        have e910 := s10 _ _ e9
        have et10 := s10 _ _ et9
        have ed10 := ed9.same s10
        generalize upd H9 p4 (.lst ((vsOf us).drop at_.toNat)) = H10 at *
        refine ⟨p3, p4, _, _, rfl, rfl, e910, e10, hsz _ (by simp; omega), fun p5 hp5 => ?_⟩
        have s11 := same_upd (o := .lst ((vsOf us).take at_.toNat ++ [.ref t] ++ (vsOf us).drop at_.toNat)) hp5
        obtain ⟨yb, hyb⟩ := B10.at_b
        refine ⟨us.take at_.toNat ++ [(t, x1, x2)] ++ us.drop at_.toNat, p5, _, _, _, rfl, ?_, kp10.trans (.of_same s11), B10.same s11, kp10.free hyb hp5, ?_, ?_, ?_⟩
        · simp
          omega
        · rw [upd_same]
          unfold vsOf
          rw [List.map_append, List.map_append, List.map_take, List.map_drop]
          rfl
        · have f1 : Ed H10 (us.take at_.toNat) := fun e he => ed10 e (List.mem_of_mem_take he)
          have f2 : Ed H10 (us.drop at_.toNat) := fun e he => ed10 e (List.mem_of_mem_drop he)
          exact Ed.same (Ed.app (Ed.app f1 (.one et10)) f2) s11
        · refine ⟨fun e he => ?_, fun kk k0 k1 => ?_⟩
          · rw [List.mem_append, List.mem_append] at he
            rcases he with (he | he) | he
            · exact va2.rg e (List.mem_of_mem_take he)
            · have z := List.mem_singleton.mp he
              subst z
              exact ⟨x10, x11, x20, x21⟩
            · exact va2.rg e (List.mem_of_mem_drop he)
          · obtain ⟨e, he, hk2⟩ := va2.sr kk k0 k1
            refine ⟨e, ?_, hk2⟩
            rw [← List.take_append_drop at_.toNat us, List.mem_append] at he
            rw [List.mem_append, List.mem_append]
            exact he.elim (fun z => .inl (.inl z)) .inr
      · rintro σ H2 ⟨us, qa, v5, v6, v7, rfl, hus, kp2, B2, nq, eq, ed2, va2⟩
        refine ⟨_, rfl, _, rfl, (by show 2 ≤ sizeLine; decide), fun p hp => ?_⟩
        obtain ⟨yb, hyb⟩ := B2.at_b
        have s1 := same_upd (o := .tup [.int (1 + v), .ref qa]) hp
        exact q p qa (1 + v) us _ (kp2.trans (.of_same s1)) (B2.same s1) (kp2.free hyb hp) nq ⟨upd_same, s1 _ _ eq, ed2.same s1, va2, by omega⟩ (by omega) (by omega)
end
end Lw

set_option Elab.async false
set_option linter.all false
set_option maxRecDepth 100000
/-! enumerate(t) of a tuple; enumerate and for over what is a list or a tuple -/
namespace Lw
open PySem PySem.Spec PyProof.Rows L2
/-- the two objects that enumerate(t) makes: the tuple's iterator, the counter over it -/
abbrev itO (l : Addr) : Obj := { cls := .type "tuple_iterator", data := .fields #[.ref l, .int 0 0] }
abbrev enO (i : Addr) : Obj := { cls := .type "enumerate", data := .fields #[.none, .bool false, .ref i, rawInt 0, .none, .none] }
theorem enumT_new (l : Addr) (o : Obj) (items : Array Value) (n : Nat) (hc : o.cls = .type "tuple") (hd : o.data = .seq items n) :
    Meets (Builtin.«enumerate.__new__» ⟨[.type "enumerate", .ref l], []⟩) (fun _ R s => s.heap.get? l = some o ∧
      R (.ok (.ret (.ref (s.heap.push (itO l)).objs.size))) { s with heap := (s.heap.push (itO l)).push (enO s.heap.objs.size) }) := by
  obtain ⟨oc, dct, dt, sl⟩ := o
  dsimp only at hc hd
  subst hc hd
  refine .of_wp fun P w A R s hyp => ?_
  rcases s with ⟨h, gn, dr, tk, os⟩
  rcases hyp with ⟨hl, fin⟩
  have sub := sub_enumerate
  have isT : Heap.IsTuple (Shared.heap ⟨h, gn, dr, tk, os⟩) l items := ⟨_, hl, rfl, n, rfl⟩
  wp_walk using AutoSeq1.wpAny_loadPart' hl
  refine wpAny_stack_any fun st => wpAny_pure ?_
  split
  next c _ _ _ _ _ => cases (c == Value.type "enumerate") <;> (wp_walk using AutoSeq1.wpAny_loadPart' hl, wpAny_pyIter_tuple isT) <;> exact ⟨_, rfl, fin⟩
  next => (wp_walk using AutoSeq1.wpAny_loadPart' hl, wpAny_pyIter_tuple isT) <;> exact ⟨_, rfl, fin⟩
theorem enumT_call {P : Program} {w : World} {A : Around} {E : Value → Shared → Prop} {s : Shared} {l : Addr} {items : Array Value} {Q : Value → Shared → Prop} (hL : s.heap.IsTuple l items)
    (h : IsEnum ((s.heap.push (itO l)).push (enO s.heap.objs.size)) (s.heap.objs.size + 1) s.heap.objs.size 0 .none → Heap.IsTupleIter ((s.heap.push (itO l)).push (enO s.heap.objs.size)) s.heap.objs.size l 0 →
      Q (.ref (s.heap.objs.size + 1)) { s with heap := (s.heap.push (itO l)).push (enO s.heap.objs.size) }) :
    wpAny (model P w) A (call (.type "enumerate") [.ref l]) Q E s := by
  obtain ⟨o, get, cls, n, dat⟩ := hL
  have size1 : (s.heap.push (itO l)).objs.size = s.heap.objs.size + 1 := Heap.size_push ..
  have en : IsEnum ((s.heap.push (itO l)).push (enO s.heap.objs.size)) (s.heap.objs.size + 1) s.heap.objs.size 0 .none := by
    rw [← size1]
    exact Heap.get?_push_size _ rfl
  have it : Heap.IsTupleIter ((s.heap.push (itO l)).push (enO s.heap.objs.size)) s.heap.objs.size l 0 := ⟨itO l, Heap.get?_push_of_some _ (Heap.get?_push_size _ rfl), rfl, rfl⟩
  refine callType_new F.called_enumerate (by decide) (F.typeCall_enumerate_1 _) (F.newCall_enumerate_1 _) (F.args_object_init_2 · _) F.entry_enumerate_new (enumT_new l o items n cls dat) ⟨get, ?_⟩
  rw [size1]
  exact ⟨⟨_, en, rfl⟩, h en it⟩
/-- the turns of enumerate(t): a new pair of the number and the item -/
def IteT (K : PySem.W.Frag) (a : Addr) : It where
  go i H := ∃ (xs : List V) (x : V), SqT K H a xs ∧ xs[i]? = some x
  yld i H v H' := ∃ T x, v = .ref T ∧ H T = none ∧ H' = upd H T (.tup [.int (i : Nat), x]) ∧ ∀ xs, SqT K H a xs → xs[i]? = some x
  stop i H := ∃ xs : List V, SqT K H a xs ∧ xs.length ≤ i
/-- the state of the walk at turn i -/
structure EnAt (a e it : Addr) (i : Nat) (h : Heap) : Prop where
  en : ∃ old, IsEnum h e it ((i : Nat) : Int) old
  itr : h.IsTupleIter it a i
  ne : e ≠ it ∧ e ≠ a
theorem two {e it b : Addr} (h : b ∈ [e, it]) : b = e ∨ b = it := by
  simp only [List.mem_cons, List.not_mem_nil, or_false] at h
  exact h
theorem EnAt.keep {a e it : Addr} {i : Nat} {h h' : Heap} (z : EnAt a e it i h) (k : ∀ b ∈ [e, it], ∀ o, h.get? b = some o → h'.get? b = some o) : EnAt a e it i h' := by
  obtain ⟨old, he⟩ := z.en
  exact ⟨⟨old, k e (.head _) _ he⟩, z.itr.at (k it (.tail _ (.head _))), z.ne⟩
theorem enumT_item {X : Cx} {elts : List Expr} {kk : Nat} {tpos : Pos} {a e it : Addr} (ai : a ≠ it) (calm : X.calm = true) {i : Nat} {pins : List (Addr × Obj)} {s : Shared} {σ : L2.St} {H : Hp} {E : Value → Shared → Prop} (I : Inv X pins σ H s)
    (off : ∀ b ∈ [e, it], FpOk X pins H b) (z : EnAt a e it i s.heap) {xs : List V} {x : V} (hq : SqT X.K H a xs) (hx : xs[i]? = some x) :
    wpAny (model X.prog X.w) X.A (pyNext (.ref e)) (fun r s1 => ∃ u, r = some u ∧ wpAny (model X.prog X.w) X.A (letOwnedTupleGo (.Tuple elts kk tpos) (.ref e) u)
      (fun _ s2 => ∃ y H', Inv X pins σ H' s2 ∧ RelV y u ∧ (IteT X.K a).yld i H y H' ∧ EnAt a e it (i + 1) s2.heap ∧ ∀ b ∈ [e, it], H' b = none) E s1) E s := by
  obtain ⟨old, he⟩ := z.en
  obtain ⟨its, vals, tup, _⟩ := I.tuple hq
  obtain ⟨u, hu, ru⟩ := vals.get hx
  have eb := Heap.lt_size he
  have ib : it < s.heap.objs.size := z.itr.elim fun _ q => Heap.lt_size q.1
  have hi : i < its.toArray.size := by
    rw [List.size_toArray]
    exact (List.getElem?_eq_some_iff.mp hu).1
  have out : e ∉ [it, a] := fun m => (two m).elim z.ne.1 z.ne.2
  refine wpAny_pyNext_enum_itemD (Draws.tuple (A := X.A.in1) (show X.A.in1.handled = none from I.ok.hd calm) it a ai its.toArray) he ⟨z.itr, tup⟩ hi z.ne.1 out ?_
  intro y h' tk hy eo st new _ stay
  obtain rfl : y = u := by
    rw [List.getElem?_toArray, hu] at hy
    exact (Option.some.inj hy).symm
  refine ⟨_, rfl, wpAny_letOwnedTupleGo_enum (s := { s with heap := h', toks := tk + 1 }) eo fun h2 en2 sb => ?_⟩
  have new2 : h2.get? s.heap.objs.size = some { cls := .type "tuple", data := .seq #[.int i tk, y] } := by
    rw [sb.2 _ (Nat.ne_of_gt eb)]
    exact new
  have okN : ObjOk X.prog X.w (upd H s.heap.objs.size (.tup [.int (i : Nat), x])) h2 s.heap.objs.size (.tup [.int (i : Nat), x]) := ⟨by show 2 ≤ sizeLine; decide, _, .cons ⟨_, rfl⟩ (.cons ru .nil), _, new2, rfl, _, rfl⟩
  have rest : ∀ b o, b ∉ [e, it] → s.heap.get? b = some o → h2.get? b = some o := by
    intro b o nb hb
    have be : b ≠ e := fun q => nb (q ▸ .head _)
    have bi : b ≠ it := fun q => nb (q ▸ .tail _ (.head _))
    rw [sb.2 b be]
    exact stay b o be bi hb
  refine ⟨.ref s.heap.objs.size, _, I.turnedNew (ch := [e, it]) rest off (Nat.le_refl _) okN, rfl, ⟨_, x, rfl, I.hok.fresh (Nat.le_refl _), rfl, fun ys hys => I.tuple_inj hys hq ▸ hx⟩, ⟨⟨y, ?_⟩, ?_, z.ne⟩, ?_⟩
  · rw [Int.natCast_succ]
    exact en2
  · exact st.1.at fun o q => by rw [sb.2 it z.ne.1.symm]; exact q
  · intro b hb
    have lt : b < s.heap.objs.size := (two hb).elim (fun q => q ▸ eb) (fun q => q ▸ ib)
    rw [upd_ne (Nat.ne_of_lt lt)]
    exact (off b hb).1
/-- the tuple's iterator at its end -/
theorem over {P : Program} {w : World} {A : Around} (calm : A.handled = none) {it a : Addr} {items : Array Value} {i : Nat} (hi : items.size ≤ i) : Draws P w A it [it, a] i (fun _ _ => True) (fun j h => j = i ∧ h.IsTupleIter it a i ∧ h.IsTuple a items) where
  live _ _ z := z.2.1.elim fun o q => ⟨o, q.1⟩
  frame _ _ _ z k := ⟨z.1, z.2.1.at (k it (.head _)), z.2.2.at (k a (.tail _ (.head _)))⟩
  item j _ _ _ lt z _ := absurd z.1 (Nat.ne_of_lt lt)
  done _ _ _ z h := wpAny_nextOf_tuple_end calm z.2.1 z.2.2 (Array.getElem?_eq_none hi) h
theorem enumT_turn {P : Program} {w : World} {K : PySem.W.Frag} {elts : List Expr} {kk : Nat} {tpos : Pos} {a e it : Addr} (ai : a ≠ it) : Turn P w K (.Tuple elts kk tpos) (IteT K a) [e, it] e (EnAt a e it) where
  mem := .head _
  obj i h z b hb := by
    obtain ⟨old, he⟩ := z.en
    obtain ⟨o, ho, _, hd⟩ := z.itr
    rcases two hb with rfl | rfl
    · exact ⟨_, he, nofun⟩
    · exact ⟨o, ho, by rw [hd]; nofun⟩
  keep i h h' z k := z.keep k
  item := by
    rintro X rfl rfl rfl calm i pins s σ H E I off z ⟨xs, x, hq, hx⟩
    exact enumT_item ai calm I off z hq hx
  done := by
    rintro X rfl rfl rfl calm i pins s σ H E I off z ⟨xs, hq, hx⟩
    obtain ⟨old, he⟩ := z.en
    obtain ⟨its, vals, tup, _⟩ := I.tuple hq
    obtain ⟨f0, f1, _, f3, f4, f5⟩ := off it (.tail _ (.head _))
    have len := vals.length
    refine wpAny_pyNext_enum_endD (over (A := X.A.in1) (show X.A.in1.handled = none from I.ok.hd calm) (items := its.toArray) (by rw [List.size_toArray]; omega)) he ⟨rfl, z.itr, tup⟩ fun h' up => ⟨rfl, I.turned (t' := s.toks) (fun b o hb q => up b o hb q) f0 f1 f3 f4 f5⟩
  self A i s Q E z h := z.en.elim fun _ he => wpAny_pyIter_enum he h
theorem walk_enumT {K : PySem.W.Frag} {a : Addr} {xs : List V} : Walk (IteT K a) xs.length (fun H => SqT K H a xs) (YPair (fun i => some (.int (i : Nat))) (fun i => xs[i]?)) := by
  constructor
  · intro i H hi hq
    exact ⟨xs, xs[i], hq, List.getElem?_eq_getElem hi⟩
  · intro H hq
    exact ⟨xs, hq, Nat.le_refl _⟩
  · rintro i H _ _ hi hq ⟨T, x, rfl, nT, rfl, at_⟩
    exact ⟨T, _, x, rfl, nT, rfl, rfl, at_ xs hq⟩
/-! ### a list or a tuple -/
abbrev SqF := PySem.W.Frag → Hp → Addr → List V → Prop
/-- enumerate(e) -/
def iEnumA (K : PySem.W.Frag) (ta : TA) : TI := fun σ H R => ta σ H fun vs H1 => ∃ (a : Addr) (xs : List V) (S : SqF), vs = [.ref a] ∧ (S = SqL ∨ S = SqT) ∧ S K H1 a xs ∧
  ∀ J, Walk J xs.length (fun H => S K H a xs) (YPair (fun i => some (.int (i : Nat))) (fun i => xs[i]?)) → R J H1
/-- e itself -/
def iSeqA (K : PySem.W.Frag) (tl : TE) : TI := fun σ H R => tl σ H fun x H1 => ∃ (a : Addr) (xs : List V) (S : SqF), x = .ref a ∧ (S = SqL ∨ S = SqT) ∧ S K H1 a xs ∧ ∀ J, Walk J xs.length (fun H => S K H a xs) (YAt xs) → R J H1
section
variable {X : Cx}
/-- new addresses are nobody's -/
theorem new_ok {pins : List (Addr × Obj)} {s : Shared} {σ : L2.St} {H : Hp} {b : Addr} (I : Inv X pins σ H s) (h : s.heap.objs.size ≤ b) : FpOk X pins H b := I.fpOk h (I.hok.fresh h)
theorem pi_enumA {e : Expr} {ta : TA} {p pos tpos : Pos} {elts : List Expr} {kk : Nat} (hg : Gl X "enumerate") (hm : X.mg "enumerate" = none) (ha : PA X [e] ta) (hs : starEach [e] X.env = [(false, eval e X.env)] := by rfl) :
    PI X (.Tuple elts kk tpos) (.Call (.Name "enumerate" p) [e] [] pos) (iEnumA X.K ta) := by
  constructor
  intro pins s σ H R I h
  refine Call_ (ld_blt I hg hm boot_enumerate (PyProof.Rows.callWith_type1 (wpAny_mono (ha.run pos pins s σ H _ I h) ?_ fun _ _ z => z) hs rfl))
  rintro us s1 ⟨_, H1, I1, vals, a, xs, S, rfl, hS, hq, go⟩
  obtain ⟨_, rfl, rfl⟩ : ∃ u, us = [u] ∧ u = Value.ref a := by
    match us, vals with
    | [u], .cons r .nil => exact ⟨u, rfl, r⟩
  have free : ∀ b ∈ [s1.heap.objs.size + 1, s1.heap.objs.size], FpOk X pins H1 b := fun b hb => new_ok I1 ((two hb).elim (fun q => q ▸ Nat.le_succ _) (fun q => q ▸ Nat.le_refl _))
  rcases hS with rfl | rfl
  · obtain ⟨its, rv, lst, _⟩ := I1.list hq
    refine call_enumerate_list lst.isList fun g en it _ up => wpAny_pyIter_enum en ?_
    exact ⟨_, [s1.heap.objs.size + 1, s1.heap.objs.size], _, Ite X.K a, H1, rfl, I1.kept (t' := s1.toks) up, turn_enum a _ _, ⟨⟨.none, en⟩, it, Nat.succ_ne_self _⟩, free, go _ walk_enum⟩
  · obtain ⟨its, rv, tup, _⟩ := I1.tuple hq
    have old : a < s1.heap.objs.size := tup.elim fun _ q => Heap.lt_size q.1
    refine enumT_call (items := its.toArray) tup fun en it => wpAny_pyIter_enum en ?_
    refine ⟨_, [s1.heap.objs.size + 1, s1.heap.objs.size], _, IteT X.K a, H1, rfl, I1.kept (t' := s1.toks) fun b o q => Heap.get?_push_of_some _ (Heap.get?_push_of_some _ q), enumT_turn (Nat.ne_of_lt old), ⟨⟨.none, en⟩, it, Nat.succ_ne_self _, ?_⟩, free, go _ walk_enumT⟩
    exact fun q => absurd old (Nat.not_lt.mpr (q ▸ Nat.le_succ _))
theorem pi_seqA {tg l : Expr} {tl : TE} (hl : PE X l tl) : PI X tg l (iSeqA X.K tl) := by
  constructor
  intro pins s σ H R I h
  refine wpAny_mono (hl.run pins s σ H _ I h) ?_ fun _ _ z => z
  rintro v s1 ⟨_, H1, I1, rv, a, xs, S, rfl, hS, hq, go⟩
  cases rv
  have free : ∀ b ∈ [s1.heap.objs.size], FpOk X pins H1 b := fun b hb => new_ok I1 (List.mem_singleton.mp hb ▸ Nat.le_refl _)
  have keep : ∀ o : Obj, Inv X pins σ H1 { s1 with heap := s1.heap.push o } := fun o => I1.kept (t' := s1.toks) fun b o' q => Heap.get?_push_of_some _ q
  rcases hS with rfl | rfl
  · obtain ⟨its, r, lst, _⟩ := I1.list hq
    exact wpAny_pyIter_list lst.isList ⟨_, _, _, Itl X.K a, H1, rfl, keep _, turn_list a _, ⟨_, Heap.get?_push_size _ rfl, rfl, rfl⟩, free, go _ walk_list⟩
  · obtain ⟨its, r, tup, _⟩ := I1.tuple hq
    exact wpAny_pyIter_tuple (items := its.toArray) tup ⟨_, _, _, Itt X.K a, H1, rfl, keep _, turn_tuple a _, ⟨_, Heap.get?_push_size _ rfl, rfl, rfl⟩, free, go _ walk_tup⟩
end
end Lw

set_option Elab.async false
set_option linter.all false
set_option maxRecDepth 100000
namespace Lw
open PySem L2
abbrev sCheck : Stmt := top 20
abbrev sInit : Stmt := inClass (top 21) 2
/-- what the walk asks of the class Graph -/
structure GTxt (K : PySem.W.Frag) (mg : Str → Option Value) (C : Addr) (mc : Value) : Prop where
  cl : Cls K C
  nS : NoAttr K C "state_count"
  nE : NoAttr K C "edge_pairs"
  mgG : mg "Graph" = some (.ref C)
  rd : ClX.CRead K C mc
  v8 : ∃ u, ClX.CVal K C mc "MAX_STATES" (.int 8) u
  v24 : ∃ u, ClX.CVal K C mc "MAX_EDGES" (.int 24) u
  enum : mg "enumerate" = none
def flds (n : Int) (t : Addr) : List (Str × V) := [("state_count", V.int n), ("edge_pairs", V.ref t)]
def spCheck (K : PySem.W.Frag) : Sp := fun vs H Q _ => ∃ (n : Int) (e : Addr) (ts : Es) (S : SqF), vs = [.int n, .ref e] ∧ (S = SqL ∨ S = SqT) ∧ S K H e (vsOf ts) ∧ Ed H ts ∧ Valid n ts ∧ 1 ≤ n ∧ n ≤ 100 ∧ ts.length ≤ 100 ∧ ∀ H', Same H H' → Q .non H'
structure GraphAt (C : Addr) (H : Hp) (g : Addr) (n : Int) (us : Es) : Prop where
  ob : ∃ dx t, H g = some (.ins C dx (flds n t)) ∧ H t = some (.tup (vsOf us))
  ed : Ed H us
def spInit (C : Addr) : Sp := fun vs H Q _ => ∃ (g dx e : Addr) (n : Int) (ts : Es) (mk : List V → HO), vs = [.ref g, .int n, .ref e] ∧ H g = some (.ins C dx []) ∧ (mk = HO.lst ∨ mk = HO.tup) ∧ H e = some (mk (vsOf ts)) ∧ Ed H ts ∧ Valid n ts ∧ 1 ≤ n ∧ n ≤ 8 ∧ ts.length ≤ 24 ∧
  ∀ (us : Es) (H' : Hp), psOf us = psOf ts → KeepB g H H' → GraphAt C H' g n us → Q .non H'
theorem sq_same {K : PySem.W.Frag} {S : SqF} {H H' : Hp} {e : Addr} {xs : List V} (hS : S = SqL ∨ S = SqT) (h : S K H e xs) (s : Same H H') : S K H' e xs := by
  rcases hS with rfl | rfl
  · exact s.seq h
  · rcases h with (h | ⟨o, h⟩) | h
    · exact .inl (.inl (s _ _ h))
    · exact .inl (.inr ⟨o, s _ _ h⟩)
    · exact .inr h
theorem vsOf_len (ts : Es) : (vsOf ts).length = ts.length := by
  unfold vsOf
  rw [List.length_map]
theorem vsOf_at {ts : Es} {i : Nat} {v : V} (h : (vsOf ts)[i]? = some v) : ∃ e, ts[i]? = some e ∧ v = .ref e.1 := by
  unfold vsOf at h
  rw [List.getElem?_map] at h
  cases g : ts[i]? with
  | none =>
    rw [g] at h
    cases h
  | some e =>
    rw [g] at h
    exact ⟨e, rfl, (Option.some.inj h).symm⟩
section
variable {P : Program} {w : World} {K : PySem.W.Frag} {mg : Str → Option Value} {base : Heap}
theorem scCheck : FnScope ["states", "edges", "place", "source", "target", "sources", "state"] ["states", "edges"] (defScope sCheck) := ⟨rfl, rfl, rfl, by decide +kernel, rfl, by decide +kernel, by decide +kernel⟩
theorem inV_yes {k : Int} {ks : List Int} (h : k ∈ ks) : inV (.int k) (ks.map V.int) = true := by
  unfold inV
  rw [List.any_map, List.any_eq_true]
  exact ⟨k, h, by simp [eqV]⟩
theorem flat_ints (ks : List Int) : (ks.map V.int).all flatV = true := by
  rw [List.all_map, List.all_eq_true]
  intro x _
  rfl
set_option maxHeartbeats 8000000 in
theorem ok_check {f C : Addr} {mc : Value} {fd : FuncData} {k : Nat} (F : Fun K "check_edges" "check_edges" sCheck f fd) (T : Bi mg) (G : GTxt K mg C mc) : FnOk P w K mg base CX0 (k + 1) f fd ["states", "edges"] (spCheck K) := by
  refine F.ok scCheck (fun vs H Q E h => ?_) (fun cdv A outer s H vs Q E hr h => ?_)
  · obtain ⟨n, e, ts, S, rfl, _⟩ := h
    rfl
  · obtain ⟨n, e, ts, S, rfl, hS, hq, ed, va, n1, n8, hl, q⟩ := h
    refine ⟨_, pss_cons (ps_for PassesOwn.never rfl (pi_enumA (by rfl) G.enum (pa_cons (pv 1) pa_nil))
          (pg_tup rfl (pgs_cons (pg_name (i := 2) scCheck.nd rfl (.inl rfl)) (pgs_cons (pg_tup rfl (pgs_cons (pg_name (i := 3) scCheck.nd rfl (.inl rfl)) (pgs_cons (pg_name (i := 4) scCheck.nd rfl (.inl rfl)) pgs_nil))) pgs_nil)))
        (pss_one (ps_if (pt_not (PW.pt (pw_and (pt_chain op_le op_lt pe_int (pv 3) (pv 0)) (pw_and1 (pt_chain op_le op_lt pe_int (pv 4) (pv 0)))))) (pss_one ps_never) pss_nil)))
      (pss_cons (ps_setLc (i := 5) (own := [("source", 3), ("target", 4)]) (g := gTup K 2 (gCons (gName 3) (gCons (gName 4) gNil))) (tt := tYes) (te := tVar 3) rfl scCheck.nd rfl rfl (sw_true rfl rfl rfl (by decide +kernel))
          (pi_seqA (pv 1))
          (blkOk_by (N := ["states", "edges", "place", "source", "target", "sources", "state"]) (sc := defScope sCheck) (by decide +kernel))
          (fun _ _ _ _ _ => by exact pg_tup rfl (pgs_cons (pg_name (i := 3) scCheck.nd rfl (Or.inl rfl)) (pgs_cons (pg_name (i := 4) scCheck.nd rfl (Or.inl rfl)) pgs_nil)))
          (fun _ _ _ _ _ => pts_nil)
          (fun _ _ _ _ _ => by exact pv 3))
      (pss_one (ps_for PassesOwn.never rfl (pi_range1 (by rfl) T.range (pa_cons (pv 0) pa_nil)) (pg_name (i := 6) scCheck.nd rfl (Or.inl rfl))
        (pss_one (ps_if (pt_cmpR op_notIn_seq (pv 6) (pv 5) (by rfl)) (pss_one ps_never) pss_nil))))), ?_⟩
    have gsz : ∀ m : Nat, m ≤ 1000 → m < sizeLine := fun m h => small1000 h
    -- for place, (source, target) in enumerate(edges)
    refine ⟨_, rfl, e, vsOf ts, S, rfl, hS, hq, fun J w => ?_⟩
    refine for_it w (fun i σ H' => ∃ v2 v3 v4 : Option V, σ = [some (.int n), some (.ref e), v2, v3, v4, none, none] ∧ Same H H') ⟨none, none, none, rfl, fun _ _ z => z⟩ (fun i σ H' _ p => by obtain ⟨_, _, _, _, s⟩ := p; exact sq_same hS hq s) ?_ ?_
    · rintro i x σ H1 H' hi ⟨v2, v3, v4, rfl, sm⟩ ⟨Ta, x, y, rfl, hT, rfl, gx, gy⟩
      obtain ⟨ee, hee, rfl⟩ := vsOf_at gy
      have ex : x = .int (i : Nat) := (Option.some.inj gx).symm
      subst ex
      have s1 := sm.trans (same_upd (o := .tup [.int (i : Nat), .ref ee.1]) hT)
      have mem : ee ∈ ts := List.mem_of_getElem? hee
      have r := va.rg ee mem
      refine ⟨Ta, _, rfl, SqT.of upd_same, rfl, _, _, rfl, _, _, rfl, ⟨ee.1, _, rfl, SqT.of (s1 _ _ (ed ee mem)), rfl, _, _, rfl, _, _, rfl, rfl, ?_⟩⟩
      refine ⟨rfl, ?_⟩
      refine ⟨_, rfl, _, _, rfl, rfl, _, rfl, if_t (decide_eq_true r.1) ⟨_, rfl, _, _, rfl, rfl, ?_⟩⟩
      refine ⟨_, rfl, if_t (decide_eq_true r.2.1) ?_⟩
      refine ⟨_, rfl, _, _, rfl, rfl, _, rfl, if_t (decide_eq_true r.2.2.1) ⟨_, rfl, _, _, rfl, rfl, ?_⟩⟩
      refine ⟨_, rfl, ?_⟩
      refine if_f (by rw [decide_eq_true r.2.2.2]; rfl) ?_
      exact ⟨_, _, _, rfl, s1⟩
    · rintro σ H1 ⟨v2, v3, v4, rfl, sm⟩
      -- sources
      refine ⟨_, rfl, e, vsOf ts, S, rfl, hS, sq_same hS hq sm, fun J w => fun D hD => ?_⟩
      have nD : H D = none := sm.free hD
      refine lc_it w (fun i H' => Same H H' ∧ H' D = some (.lst ((ts.take i).map fun e => V.int e.2.1))) ⟨sm.trans (same_upd hD), upd_same⟩ (fun i H' _ p => sq_same hS hq p.1) ?_ ?_
      · rintro i x H2 H' hi ⟨sm2, eD⟩ ⟨rfl, gx⟩
        obtain ⟨ee, hee, rfl⟩ := vsOf_at gx
        have mem : ee ∈ ts := List.mem_of_getElem? hee
        refine ⟨ee.1, _, rfl, SqT.of (sm2 _ _ (ed ee mem)), rfl, _, _, rfl, _, _, rfl, rfl, rfl, ?_⟩
        refine ⟨_, rfl, _, eD, ?_, ?_, ?_⟩
        · rw [List.length_map, List.length_take]
          exact gsz _ (by omega)
        · intro c o ec
          rw [upd_ne (ne_of_none ec nD)]
          exact sm2 _ _ ec
        · rw [upd_same, List.take_add_one, hee, List.map_append]
          rfl
      · rintro H2 ⟨sm2, eD⟩
        rw [vsOf_len, List.take_length] at eD
        refine ⟨_, rfl, n, rfl, by omega, by omega, ?_⟩
        refine for_it (walk_range (lo := 0) (n := n.toNat)) (fun i σ H' => ∃ v2 v3 v4 v6 : Option V, σ = [some (.int n), some (.ref e), v2, v3, v4, some (.ref D), v6] ∧ Same H H' ∧ H' D = some (.lst (ts.map fun e => V.int e.2.1))) ⟨_, _, _, _, rfl, sm2, eD⟩ (fun _ _ _ _ _ => True.intro) ?_ ?_
        · rintro i x σ H3 H' hi ⟨v2, v3, v4, v6, rfl, sm3, eD3⟩ ⟨rfl, rfl⟩
          obtain ⟨ee, hee, hk⟩ := va.sr (i : Int) (by omega) (by omega)
          have e1 : (ts.map fun e => V.int e.2.1) = (ts.map fun e => e.2.1).map V.int := by
            rw [List.map_map]
            rfl
          have e2 : inV (.int (0 + (i : Int))) (ts.map fun e => V.int e.2.1) = true := by
            rw [e1, Int.zero_add, ← hk]
            exact inV_yes (List.mem_map_of_mem (f := fun e : Addr × Int × Int => e.2.1) hee)
          refine ⟨_, rfl, _, rfl, D, _, rfl, .inl (SqL.of eD3), rfl, by rw [e1]; exact flat_ints _, _, rfl, ?_⟩
          refine if_f (by rw [e2]; rfl) ?_
          exact ⟨_, _, _, _, rfl, sm3, eD3⟩
        · rintro σ H3 ⟨v2, v3, v4, v6, rfl, sm3, eD3⟩
          exact q H3 sm3
end
end Lw

set_option Elab.async false
set_option linter.all false
set_option maxRecDepth 100000
namespace Lw
open PySem L2
abbrev sEq : Stmt := inClass (top 21) 4
abbrev sLen : Stmt := inClass (top 21) 5
abbrev sRepr : Stmt := inClass (top 21) 6
abbrev sStates : Stmt := inClass (top 21) 7
abbrev sEdges : Stmt := inClass (top 21) 8
/-! ### edges as data -/
def dEs (ts : Es) : List PyData := ts.map fun e => .tuple [.int e.2.1, .int e.2.2]
theorem dEs_at {K : PySem.W.Frag} {H : Hp} : ∀ {ts : Es}, Ed H ts → DpAll K H (vsOf ts) (dEs ts)
  | [], _ => .nil
  | e :: ts, h => .cons (.tup (SqT.of (h e List.mem_cons_self)) (.cons (.int _) (.cons (.int _) .nil))) (dEs_at (ts := ts) fun x hx => h x (List.mem_cons_of_mem _ hx))
theorem dEs_lay : ∀ ts : Es, PyData.canLayAll0 (dEs ts) = true
  | [] => rfl
  | e :: ts => by
    show (true && PyData.canLayAll0 (dEs ts)) = true
    rw [dEs_lay ts]
    rfl
theorem dEs_depth : ∀ ts : Es, PyData.depthAll (dEs ts) ≤ 1
  | [] => Nat.zero_le _
  | e :: ts => by
    show max 1 (PyData.depthAll (dEs ts)) ≤ 1
    exact Nat.max_le.mpr ⟨Nat.le_refl _, dEs_depth ts⟩
theorem shT (ts : Es) : SeqAt.shaped (.tuple (dEs ts)) = true := by
  show (PyData.canLayAll0 (dEs ts) && decide (PyData.depthAll (dEs ts) + 1 ≤ 64)) = true
  rw [dEs_lay, decide_eq_true (by have := dEs_depth ts; omega)]
  rfl
theorem shL (ts : Es) : SeqAt.shaped (.list (dEs ts)) = true := by
  show (PyData.canLayAll0 (dEs ts) && decide (PyData.depthAll (dEs ts) + 1 ≤ 64)) = true
  rw [dEs_lay, decide_eq_true (by have := dEs_depth ts; omega)]
  rfl
theorem eqv_es : ∀ us ts : Es, PyData.eqvAll (dEs us) (dEs ts) = decide (psOf us = psOf ts)
  | [], [] => rfl
  | [], e :: ts => rfl
  | e :: us, [] => rfl
  | e :: us, f :: ts => by
    have ih := eqv_es us ts
    show ((e.2.1 == f.2.1 && (e.2.2 == f.2.2 && true)) && PyData.eqvAll (dEs us) (dEs ts)) = decide (e.2 :: psOf us = f.2 :: psOf ts)
    rw [ih]
    obtain ⟨a, x, y⟩ := e
    obtain ⟨b, z, u⟩ := f
    by_cases h1 : x = z <;> by_cases h2 : y = u <;> by_cases h3 : psOf us = psOf ts <;> simp [h1, h2, h3]
/-! ### the object -/
theorem ks : ¬ (("state_count" : Str) = "edge_pairs") := by decide +kernel
theorem flds_put1 (n : Int) : putF "state_count" (.int n) [] = ([("state_count", V.int n)] : List (Str × V)) := rfl
theorem flds_put2 (n : Int) (t : Addr) : putF "edge_pairs" (.ref t) ([("state_count", V.int n)] : List (Str × V)) = flds n t := by
  show (if ("state_count" : Str) = "edge_pairs" then _ else (("state_count" : Str), V.int n) :: putF "edge_pairs" (.ref t) []) = flds n t
  rw [if_neg ks]
  rfl
theorem look_s (n : Int) (t : Addr) : (flds n t).lookup ("state_count" : Str) = some (.int n) := by
  unfold flds
  simp [List.lookup]
theorem look_e (n : Int) (t : Addr) : (flds n t).lookup ("edge_pairs" : Str) = some (.ref t) := by
  unfold flds
  have h : (("edge_pairs" : Str) == ("state_count" : Str)) = false := by decide +kernel
  simp [List.lookup, h]
theorem look_no (n : Int) (t : Addr) {m : Str} (h1 : (m == ("state_count" : Str)) = false) (h2 : (m == ("edge_pairs" : Str)) = false) : (flds n t).lookup m = none := by
  unfold flds
  simp [List.lookup, h1, h2]
theorem sq_or {K : PySem.W.Frag} {S : SqF} {H : Hp} {e : Addr} {xs : List V} (hS : S = SqL ∨ S = SqT) (h : S K H e xs) : SqL K H e xs ∨ SqT K H e xs := by
  rcases hS with rfl | rfl
  · exact .inl h
  · exact .inr h
def grText (n m : Int) : Str := ((((("Graph(" : Str) ++ (toString n : Str)) ++ (" states, " : Str)) ++ (toString m : Str)) ++ (" edges)" : Str))
def spLen (C : Addr) : Sp := fun vs H Q _ => ∃ (g : Addr) (n : Int) (us : Es), vs = [.ref g] ∧ GraphAt C H g n us ∧ Q (.int us.length) H
def spStates (C : Addr) : Sp := fun vs H Q _ => ∃ (g : Addr) (n : Int) (us : Es), vs = [.ref g] ∧ GraphAt C H g n us ∧ Q (.int n) H
def spRepr (C : Addr) : Sp := fun vs H Q _ => ∃ (g : Addr) (n : Int) (us : Es), vs = [.ref g] ∧ GraphAt C H g n us ∧ 0 ≤ n ∧ n < 1000 ∧ us.length < 1000 ∧ Q (.str (grText n us.length)) H
def spEdges (C : Addr) : Sp := fun vs H Q _ => ∃ (g : Addr) (n : Int) (us : Es), vs = [.ref g] ∧ GraphAt C H g n us ∧ ∀ p, H p = none → Q (.ref p) (upd H p (.lst (vsOf us)))
section
variable {P : Program} {w : World} {K : PySem.W.Frag} {mg : Str → Option Value} {base : Heap}
theorem scInit : FnScope ["self", "states", "edges", "source", "target"] ["self", "states", "edges"] (defScope sInit) := ⟨rfl, rfl, rfl, by decide +kernel, rfl, by decide +kernel, by decide +kernel⟩
set_option maxHeartbeats 8000000 in
theorem ok_init {f C : Addr} {mc : Value} {fd : FuncData} {k : Nat} (F : Fun K "__init__" "Graph.__init__" sInit f fd) (T : Bi mg) (G : GTxt K mg C mc) (cC : C8.Cal P w K mg base 1 "check_edges" (spCheck K) []) : FnOk P w K mg base CX0 (k + 2) f fd ["self", "states", "edges"] (spInit C) := by
  refine F.ok scInit (fun vs H Q E h => ?_) (fun cdv A outer s H vs Q E hr h => ?_)
  · obtain ⟨g, dx, e, n, ts, mk, rfl, _⟩ := h
    rfl
  · obtain ⟨g, dx, e, n, ts, mk, rfl, hg, hmk, he, ed, va, n1, n8, hl, q⟩ := h
    have ge : e ≠ g := by
      rintro rfl
      rw [hg] at he
      rcases hmk with rfl | rfl <;> cases he
    obtain ⟨S, hS, hq0⟩ : ∃ S : SqF, (S = SqL ∨ S = SqT) ∧ ∀ H', H' e = some (mk (vsOf ts)) → S K H' e (vsOf ts) := by
      rcases hmk with rfl | rfl
      · exact ⟨SqL, .inl rfl, fun H' h => SqL.of h⟩
      · exact ⟨SqT, .inr rfl, fun H' h => SqT.of h⟩
    have hq := hq0 H he
    have hk : 1 ≤ k + 1 := Nat.le_add_left 1 k
    refine ⟨_, pss_cons (ps_if (pt_cmpR op_lt (pv 1) pe_int (nomark _)) (pss_one ps_never) pss_nil)
      (pss_cons (ps_if (pt_cmpR op_gt (pv 1) (ClX.pe_cval (pe_glob (v := .ref C) (by rfl) G.mgG rfl)) (nomark _)) (pss_one ps_never) pss_nil)
      (pss_cons (ps_if (pt_cmpR op_gt (pe_callB call_len_seq (by rfl) T.len PySem.boot_len (pa_cons (pv 2) pa_nil)) (ClX.pe_cval (pe_glob (v := .ref C) (by rfl) G.mgG rfl)) (nomark _)) (pss_one ps_never) pss_nil)
      (pss_cons (ps_expr (C8.pe_c cC hr hk (by rfl) (pa_cons (pv 1) (pa_cons (pv 2) pa_nil))))
      (pss_cons (ps_fld (pv 0) (pv 1) rfl)
      (pss_one (ps_fld (pv 0) (pe_callTy call_tuple_of (by rfl) T.tuple (by decide +kernel) (pa_cons
        (pe_lc (own := [("source", 3), ("target", 4)]) (g := gTup K 2 (gCons (gName 3) (gCons (gName 4) gNil))) (tt := tYes) (te := tTup (tCons (tVar 3) (tCons (tVar 4) tNil))) rfl scInit.nd (pi_seqA (pv 2))
          (blkOk_by (N := ["self", "states", "edges", "source", "target"]) (sc := defScope sInit) (by decide +kernel))
          (fun _ _ _ _ _ => by exact pg_tup rfl (pgs_cons (pg_name (i := 3) scInit.nd rfl (Or.inl rfl)) (pgs_cons (pg_name (i := 4) scInit.nd rfl (Or.inl rfl)) pgs_nil)))
          (fun _ _ _ _ _ => pts_nil)
          (fun _ _ _ _ _ => by exact pe_tup (pa_cons (pv 3) (pa_cons (pv 4) pa_nil)))) pa_nil)) rfl)))))), ?_⟩
    obtain ⟨u8, hv8⟩ := G.v8
    obtain ⟨u24, hv24⟩ := G.v24
    refine ⟨_, rfl, _, _, rfl, rfl, _, rfl, if_f (decide_eq_false (by omega)) ?_⟩
    refine ⟨_, rfl, C, mc, _, _, rfl, G.rd, hv8, _, _, rfl, rfl, _, rfl, if_f (decide_eq_false (by omega)) ?_⟩
    refine ⟨_, rfl, e, _, rfl, sq_or hS hq, C, mc, _, _, rfl, G.rd, hv24, _, _, rfl, rfl, _, rfl, if_f (decide_eq_false (by rw [vsOf_len]; omega)) ?_⟩
    refine ⟨_, rfl, _, rfl, n, e, ts, S, rfl, hS, hq, ed, va, n1, by omega, by omega, fun H1 s1 => ?_⟩
    refine ⟨_, rfl, _, rfl, g, C, dx, [], rfl, s1 _ _ hg, G.cl, G.nS, (by show 0 < 1000; decide), ?_⟩
    rw [flds_put1]
    have k2 : KeepB g H (upd H1 g (.ins C dx [("state_count", V.int n)])) := KeepB.trans (.of_same s1) .updb
    have g2 : upd H1 g (.ins C dx [("state_count", V.int n)]) g = some (.ins C dx [("state_count", V.int n)]) := upd_same
    generalize upd H1 g (.ins C dx [("state_count", V.int n)]) = H2 at *
    refine ⟨_, rfl, e, vsOf ts, S, rfl, hS, hq0 _ (k2 _ _ ge he), fun J w => fun D hD => ?_⟩
    have nDg : D ≠ g := fun z => by
      rw [z, g2] at hD
      cases hD
    have nD : H D = none := k2.free g2 hD
    refine lc_it w (fun i H' => ∃ us : Es, psOf us = psOf (ts.take i) ∧ KeepB g H H' ∧ H' g = some (.ins C dx [("state_count", V.int n)]) ∧ H' D = some (.lst (vsOf us)) ∧ Ed H' us)
      ⟨[], rfl, k2.new hD, by rw [upd_ne nDg.symm]; exact g2, upd_same, .nil⟩ (fun i H' _ p => by obtain ⟨us, _, k3, _⟩ := p; exact hq0 _ (k3 _ _ ge he)) ?_ ?_
    · rintro i x H3 H' hi ⟨us, hus, k3, g3, eD, ed3⟩ ⟨rfl, gx⟩
      obtain ⟨ee, hee, rfl⟩ := vsOf_at gx
      have mem : ee ∈ ts := List.mem_of_getElem? hee
      have eg : ee.1 ≠ g := fun z => by
        have h := ed ee mem
        rw [z, hg] at h
        cases h
      refine ⟨ee.1, _, rfl, SqT.of (k3 _ _ eg (ed ee mem)), rfl, _, _, rfl, _, _, rfl, rfl, rfl, ?_⟩
      refine ⟨_, rfl, _, rfl, (by show 2 ≤ sizeLine; decide), fun t ht => ?_⟩
      have s4 := same_upd (o := .tup [.int ee.2.1, .int ee.2.2]) ht
      have tD : D ≠ t := ne_of_none eD ht
      refine ⟨_, s4 _ _ eD, ?_, us ++ [(t, ee.2)], ?_, ?_, ?_, ?_, ?_⟩
      · have h1 : us.length = (ts.take i).length := by
          have := congrArg List.length hus
          unfold psOf at this
          simpa using this
        rw [vsOf_len, h1, List.length_take]
        exact small1000 (by omega)
      · unfold psOf at hus ⊢
        rw [List.map_append, hus, List.take_add_one, hee, List.map_append]
        rfl
      · exact (k3.new ht).at nD
      · rw [upd_ne nDg.symm]
        exact s4 _ _ g3
      · rw [upd_same]
        unfold vsOf
        rw [List.map_append]
        rfl
      · refine Ed.app (fun x hx => ?_) (.one ?_)
        · have h := s4 _ _ (ed3 x hx)
          rw [upd_ne (fun z => ?_)]
          · exact h
          · rw [z, s4 _ _ eD] at h
            cases h
        · rw [upd_ne (Ne.symm tD), upd_same]
    · rintro H3 ⟨us, hus, k3, g3, eD, ed3⟩
      rw [vsOf_len, List.take_length] at hus
      refine ⟨D, _, rfl, .inl ⟨SqL.of eD, fun t ht => ?_⟩⟩
      have s4 := same_upd (o := .tup (vsOf us)) ht
      have tg : t ≠ g := (ne_of_none g3 ht).symm
      refine ⟨_, rfl, g, C, dx, _, rfl, s4 _ _ g3, G.cl, G.nE, (by show 1 < 1000; decide), ?_⟩
      rw [flds_put2]
      refine q us _ hus ((k3.trans (.of_same s4)).trans .updb) ⟨⟨dx, t, upd_same, by rw [upd_ne tg]; exact upd_same⟩, fun x hx => ?_⟩
      have h := s4 _ _ (ed3 x hx)
      rw [upd_ne (fun z => ?_)]
      · exact h
      · rw [z, s4 _ _ g3] at h
        cases h
/-! ### the small ones -/
theorem scLen : FnScope ["self"] ["self"] (defScope sLen) := ⟨rfl, rfl, rfl, by decide +kernel, rfl, by decide +kernel, by decide +kernel⟩
theorem ok_len {f C : Addr} {mc : Value} {fd : FuncData} {k : Nat} (F : Fun K "__len__" "Graph.__len__" sLen f fd) (T : Bi mg) (G : GTxt K mg C mc) : FnOk P w K mg base CX0 (k + 1) f fd ["self"] (spLen C) := by
  refine F.ok scLen (fun vs H Q E h => ?_) (fun cdv A outer s H vs Q E hr h => ?_)
  · obtain ⟨g, n, us, rfl, _⟩ := h
    rfl
  · obtain ⟨g, n, us, rfl, ⟨⟨dx, t, h1, h2⟩, ed⟩, q⟩ := h
    refine ⟨_, pss_one (ps_ret (pe_callB call_len_seq (by rfl) T.len PySem.boot_len (pa_cons (pe_fld (pv 0) rfl) pa_nil))), ?_⟩
    refine ⟨_, rfl, g, C, dx, _, _, rfl, h1, G.cl, G.nE, look_e _ _, t, _, rfl, .inr (SqT.of h2), ?_⟩
    rw [vsOf_len]
    exact q
theorem scStates : FnScope ["self"] ["self"] (defScope sStates) := ⟨rfl, rfl, rfl, by decide +kernel, rfl, by decide +kernel, by decide +kernel⟩
theorem ok_states {f C : Addr} {mc : Value} {fd : FuncData} {k : Nat} (F : Fun K "states" "Graph.states" sStates f fd) (G : GTxt K mg C mc) : FnOk P w K mg base CX0 (k + 1) f fd ["self"] (spStates C) := by
  refine F.ok scStates (fun vs H Q E h => ?_) (fun cdv A outer s H vs Q E hr h => ?_)
  · obtain ⟨g, n, us, rfl, _⟩ := h
    rfl
  · obtain ⟨g, n, us, rfl, ⟨⟨dx, t, h1, h2⟩, ed⟩, q⟩ := h
    exact ⟨_, pss_one (ps_ret (pe_fld (pv 0) rfl)), _, rfl, g, C, dx, _, _, rfl, h1, G.cl, G.nS, look_s _ _, q⟩
theorem scEdges : FnScope ["self"] ["self"] (defScope sEdges) := ⟨rfl, rfl, rfl, by decide +kernel, rfl, by decide +kernel, by decide +kernel⟩
theorem ok_edges {f C : Addr} {mc : Value} {fd : FuncData} {k : Nat} (F : Fun K "edges" "Graph.edges" sEdges f fd) (T : Bi mg) (G : GTxt K mg C mc) : FnOk P w K mg base CX0 (k + 1) f fd ["self"] (spEdges C) := by
  refine F.ok scEdges (fun vs H Q E h => ?_) (fun cdv A outer s H vs Q E hr h => ?_)
  · obtain ⟨g, n, us, rfl, _⟩ := h
    rfl
  · obtain ⟨g, n, us, rfl, ⟨⟨dx, t, h1, h2⟩, ed⟩, q⟩ := h
    exact ⟨_, pss_one (ps_ret (pe_callTy call_list_of (by rfl) T.list (by decide +kernel) (pa_cons (pe_fld (pv 0) rfl) pa_nil))), _, rfl, g, C, dx, _, _, rfl, h1, G.cl, G.nE, look_e _ _, t, _, rfl, .inr (SqT.of h2), q⟩
theorem scRepr : FnScope ["self"] ["self"] (defScope sRepr) := ⟨rfl, rfl, rfl, by decide +kernel, rfl, by decide +kernel, by decide +kernel⟩
theorem log_small {n : Int} (h0 : 0 ≤ n) (h1 : n < 1000) : n.natAbs.log2 < 1920 := by
  have h : n.natAbs < 2 ^ 10 := by omega
  by_cases hz : n.natAbs = 0
  · rw [hz]
    decide
  · have := (Nat.log2_lt hz).mpr h
    omega
theorem len_small {n : Int} (h0 : 0 ≤ n) (h1 : n < 1000) : (Str.ofString (toString n)).length ≤ 3 := PyProof.Rows.toString_length_le h0 (by decide) (by omega)
theorem len_app (x y : Str) : (x ++ y).length = x.length + y.length := by
  show (x.cps ++ y.cps).size = x.cps.size + y.cps.size
  exact Array.size_append
theorem ok_repr {f C : Addr} {mc : Value} {fd : FuncData} {k : Nat} (F : Fun K "__repr__" "Graph.__repr__" sRepr f fd) (T : Bi mg) (G : GTxt K mg C mc) : FnOk P w K mg base CX0 (k + 1) f fd ["self"] (spRepr C) := by
  refine F.ok scRepr (fun vs H Q E h => ?_) (fun cdv A outer s H vs Q E hr h => ?_)
  · obtain ⟨g, n, us, rfl, _⟩ := h
    rfl
  · obtain ⟨g, n, us, rfl, ⟨⟨dx, t, h1, h2⟩, ed⟩, n0, n1, hl, q⟩ := h
    refine ⟨_, pss_one (ps_ret (pe_joined (.cons pe_str (.cons (pe_fmt (pe_fld (pv 0) rfl)) (.cons pe_str (.cons (pe_fmt (pe_callB call_len_seq (by rfl) T.len PySem.boot_len (pa_cons (pe_fld (pv 0) rfl) pa_nil))) (.cons pe_str .nil))))))), ?_⟩
    have hsz : ∀ m : Nat, m ≤ 1000 → m ≤ sizeLine := fun m h => Nat.le_of_lt (small1000 h)
    have l0 : (0 : Int) ≤ (us.length : Int) := by omega
    have l1 : (us.length : Int) < 1000 := by omega
    have a1 := len_small n0 n1
    have a2 := len_small l0 l1
    have z1 : (Str.ofString "Graph(").length = 6 := by decide +kernel
    have z2 : (Str.ofString " states, ").length = 9 := by decide +kernel
    have z3 : (Str.ofString " edges)").length = 7 := by decide +kernel
    have z0 : Str.empty ++ Str.ofString "Graph(" = Str.ofString "Graph(" := by decide +kernel
    refine ⟨_, rfl, hsz _ (by rw [z0]; omega), _, rfl, g, C, dx, _, _, rfl, h1, G.cl, G.nS, look_s _ _, .inr ⟨n, rfl, log_small n0 n1, _, rfl, hsz _ ?_, ?_⟩⟩
    · rw [z0, len_app]; omega
    refine ⟨_, rfl, hsz _ ?_, ?_⟩
    · rw [z0, len_app, len_app]; omega
    refine ⟨_, rfl, g, C, dx, _, _, rfl, h1, G.cl, G.nE, look_e _ _, t, _, rfl, .inr (SqT.of h2), .inr ⟨_, rfl, ?_, _, rfl, hsz _ ?_, ?_⟩⟩
    · rw [vsOf_len]; exact log_small l0 l1
    · rw [vsOf_len, z0, len_app, len_app, len_app]; omega
    refine ⟨_, rfl, hsz _ ?_, ?_⟩
    · rw [vsOf_len, z0, len_app, len_app, len_app, len_app]; omega
    rw [vsOf_len, z0]
    exact q
end
end Lw

set_option Elab.async false
set_option linter.all false
set_option maxRecDepth 100000
namespace Lw
open PySem L2
/-- what isinstance asks of the class, and that the built-in kinds are not of it -/
structure GIs (K : PySem.W.Frag) (C : Addr) : Prop where
  ins : C8.InsC K C
  non : PySem.W.kitOne K (.type "NoneType") (.ref C) = some false
  int : PySem.W.kitOne K (.type "int") (.ref C) = some false
  lst : PySem.W.kitOne K (.type "list") (.ref C) = some false
  tup : PySem.W.kitOne K (.type "tuple") (.ref C) = some false
def spGEq (K : PySem.W.Frag) (C : Addr) : Sp := fun vs H Q _ => ∃ (g : Addr) (n : Int) (us : Es) (y : V), vs = [.ref g, y] ∧ GraphAt C H g n us ∧
  ((∃ (g2 : Addr) (n2 : Int) (us2 : Es), y = .ref g2 ∧ GraphAt C H g2 n2 us2 ∧ Q (.bl (decide (n = n2) && decide (psOf us = psOf us2))) H) ∨ ((∃ t, TyX K H y t ∧ PySem.W.kitOne K t (.ref C) = some false) ∧ Q (.bl false) H))
theorem spGEq_mono {K : PySem.W.Frag} {C : Addr} (vs : List V) (H : Hp) (Q Q' : VK) (E : XK) (h : ∀ v H', Q v H' → Q' v H') (s : spGEq K C vs H Q E) : spGEq K C vs H Q' E := by
  obtain ⟨g, n, us, y, e, G, s⟩ := s
  rcases s with ⟨g2, n2, us2, e2, G2, q⟩ | ⟨t, q⟩
  · exact ⟨g, n, us, y, e, G, .inl ⟨g2, n2, us2, e2, G2, h _ _ q⟩⟩
  · exact ⟨g, n, us, y, e, G, .inr ⟨t, h _ _ q⟩⟩
theorem GraphAt.same {C : Addr} {H H' : Hp} {g : Addr} {n : Int} {us : Es} (h : GraphAt C H g n us) (s : Same H H') : GraphAt C H' g n us := by
  obtain ⟨⟨dx, t, h1, h2⟩, ed⟩ := h
  exact ⟨⟨dx, t, s _ _ h1, s _ _ h2⟩, ed.same s⟩
theorem PlanAt.same {H H' : Hp} {p q : Addr} {n : Int} {ts : Es} (h : PlanAt H p q n ts) (s : Same H H') : PlanAt H' p q n ts := ⟨s _ _ h.tp, s _ _ h.ls, h.ed.same s, h.va, h.n1⟩
section
variable {P : Program} {w : World} {K : PySem.W.Frag} {mg : Str → Option Value} {base : Heap}
theorem scEq : FnScope ["self", "other"] ["self", "other"] (defScope sEq) := ⟨rfl, rfl, rfl, by decide +kernel, rfl, by decide +kernel, by decide +kernel⟩
set_option maxHeartbeats 4000000 in
theorem ok_eq {f C : Addr} {mc : Value} {fd : FuncData} {k : Nat} (F : Fun K "__eq__" "Graph.__eq__" sEq f fd) (T : Bi mg) (G : GTxt K mg C mc) (S : GIs K C) : FnOk P w K mg base CX0 (k + 1) f fd ["self", "other"] (spGEq K C) := by
  refine F.ok scEq (fun vs H Q E h => ?_) (fun cdv A outer s H vs Q E hr h => ?_)
  · obtain ⟨g, n, us, y, rfl, _⟩ := h
    rfl
  · obtain ⟨g, n, us, y, rfl, ⟨⟨dx, t, h1, h2⟩, ed⟩, hh⟩ := h
    refine ⟨_, pss_one (ps_ret (pe_and (pe_callB call_isi (by rfl) T.isi (by decide +kernel) (pa_cons (pv 1) (pa_cons (pe_glob (v := .ref C) (by rfl) G.mgG rfl) pa_nil)))
      (pe_and (pe_cmpR op_eq (pe_fld (pv 0) rfl) (pe_fld (pv 1) rfl) (nomark _)) (pe_one (pe_cmpR (op_eqD hr.units) (pe_fld (pv 0) rfl) (pe_fld (pv 1) rfl) (nomark _)))))), ?_⟩
    rcases hh with ⟨g2, n2, us2, rfl, ⟨⟨dx2, t2, h12, h22⟩, ed2⟩, q⟩ | ⟨⟨ty, hty, hk⟩, q⟩
    · refine ⟨_, rfl, _, _, _, _, true, rfl, .own _, .base (.ins h12 S.ins.cl S.ins.ha S.ins.hn S.ins.htk S.ins.hm), S.ins.me, true, rfl, iteT ?_⟩
      refine ⟨_, rfl, g, C, dx, _, _, rfl, h1, G.cl, G.nS, look_s _ _, _, rfl, g2, C, dx2, _, _, rfl, h12, G.cl, G.nS, look_s _ _, rfl, _, rfl, ?_⟩
      by_cases hn : n = n2
      · refine if_t (decide_eq_true (by rw [hn])) ?_
        refine ⟨_, rfl, g, C, dx, _, _, rfl, h1, G.cl, G.nE, look_e _ _, _, rfl, g2, C, dx2, _, _, rfl, h12, G.cl, G.nE, look_e _ _, _, _, .tup (SqT.of h2) (dEs_at ed), .tup (SqT.of h22) (dEs_at ed2), shT _, shT _, ?_⟩
        rw [decide_eq_true hn, Bool.true_and, ← eqv_es] at q
        exact q
      · refine if_f (decide_eq_false (fun z => hn (by injection z))) ?_
        rw [decide_eq_false hn, Bool.false_and] at q
        exact q
    · exact ⟨_, rfl, _, _, _, _, false, rfl, .own _, hty, hk, false, rfl, iteF q⟩
end
end Lw

set_option Elab.async false
set_option linter.all false
set_option maxRecDepth 100000
namespace Lw
open PySem L2
abbrev sGraph : Stmt := top 30
def spGraph (C : Addr) : Sp := fun vs H Q _ => ∃ (p q : Addr) (n : Int) (ts : Es), vs = [.ref p] ∧ PlanAt H p q n ts ∧ n ≤ 8 ∧ ts.length ≤ 24 ∧ ∀ (g : Addr) (us : Es) (H' : Hp), psOf us = psOf ts → Same H H' → H g = none → GraphAt C H' g n us → Q (.ref g) H'
section
variable {P : Program} {w : World} {K : PySem.W.Frag} {mg : Str → Option Value} {base : Heap}
theorem scGraph : FnScope ["_law_plan_here"] ["_law_plan_here"] (defScope sGraph) := ⟨rfl, rfl, rfl, by decide +kernel, rfl, by decide +kernel, by decide +kernel⟩
theorem at0t {x y : V} : atI [x, y] 0 = some x := at0
set_option maxHeartbeats 4000000 in
theorem ok_graph {f C : Addr} {fd : FuncData} {k : Nat} (F : Fun K "_law_graph" "_law_graph" sGraph f fd) (T : Bi mg) (cG : C8.Mak P w K mg base 2 "Graph" C (spInit C) []) : FnOk P w K mg base CX0 (k + 4) f fd ["_law_plan_here"] (spGraph C) := by
  refine F.ok scGraph (fun vs H Q E h => ?_) (fun cdv A outer s H vs Q E hr h => ?_)
  · obtain ⟨p, q, n, ts, rfl, _⟩ := h
    rfl
  · obtain ⟨p, q0, n, ts, rfl, PA, n8, l24, q⟩ := h
    refine ⟨_, pss_one (ps_ret (C8.pe_mk cG hr (by omega) (by rfl) (pa_cons (pe_ix ix_tup (pv 0) pe_int (fun _ _ => rfl)) (pa_cons (pe_callTy call_list_of (by rfl) T.list (by decide +kernel) (pa_cons (pe_ix ix_tup (pv 0) pe_int (fun _ _ => rfl)) pa_nil)) pa_nil)))), ?_⟩
    refine ⟨_, rfl, p, _, _, _, rfl, rfl, SqT.of PA.tp, at0, _, rfl, p, _, _, _, rfl, rfl, SqT.of PA.tp, at1, q0, _, rfl, .inl (SqL.of PA.ls), fun e he => ?_⟩
    have s1 := same_upd (o := .lst (vsOf ts)) he
    intro g dx hg hdx nex
    have s2 := s1.trans ((same_upd (o := .own g) hdx))
    have hg2 : upd (upd H e (.lst (vsOf ts))) dx (.own g) g = none := by
      rw [upd_ne (Ne.symm nex)]
      exact hg
    have s3 := s2.trans (same_upd (o := .ins C dx []) hg2)
    have ng : H g = none := s1.free hg
    have e3 : upd (upd (upd H e (.lst (vsOf ts))) dx (.own g)) g (.ins C dx []) e = some (.lst (vsOf ts)) := same_upd hg2 _ _ (same_upd hdx _ _ upd_same)
    refine ⟨g, dx, e, n, ts, HO.lst, rfl, upd_same, .inl rfl, e3, PA.ed.same s3, PA.va, PA.n1, n8, l24, fun us H' hus kp G => ⟨rfl, ?_⟩⟩
    exact q g us H' hus (fun c o ec => kp c o (ne_of_none ec ng) (s3 c o ec)) ng G
end
end Lw

set_option Elab.async false
set_option linter.all false
set_option maxRecDepth 100000
/-! the own errors: a base over ValueError with a word, and errors of one field over it -/
namespace Lw
open PySem PySem.Spec PyProof.Rows L2
section
variable {X : Cx} {CX : CXT} {k : Nat} {C f : Addr} {mc : Value} {fd : FuncData} {ps : List Str} {sp : Sp} {ds : List Value} {dvs : List V} {E : XK} {x m : Str} {e : Expr} {es : List Expr} {ta : TA} {p1 p2 pos : Pos}
/-- C.m(e, ..), m a plain def of the class C -/
theorem pe_clsfn {pl : Sem Bool} (hg : Gl X x) (hm : X.mg x = some (.ref C)) (r : ClX.CRead X.K C mc) (kv : ClX.CVal X.K C mc m (.ref f) (.ref f)) (hk : PySem.W.keepIn X.K (.ref f) = true)
    (F : FnOk X.prog X.w X.K X.mg X.base CX k f fd ps sp) (hr : Room k X.A) (hb : Binds X.K fd ps ds) (hd : Vals dvs ds) (hx : Passes CX X E) (ha : PA X (e :: es) ta)
    (hc : eval (.Call (.Attribute (.Name x p1) m p2) (e :: es) [] pos) X.env = (do
      let ov ← eval (.Name x p1) X.env
      standAt p2.atName
      let (f, first) ← holding [ov] (getMethod ov m pl)
      callWith pos f first (backTo pos (starEach (e :: es) X.env)) (backToKw pos (keywordEach [] X.env))) := by rfl)
    (hdb : (x == ("__debug__" : Str)) = false := by decide) (he : starEach (e :: es) X.env = (false, eval e X.env) :: starEach es X.env := by rfl) (hpl : (backTo pos (starEach es X.env)).any (·.1) = false := by rfl) :
    PE X (.Call (.Attribute (.Name x p1) m p2) (e :: es) [] pos) (tCall sp dvs E ta) := by
  refine ⟨fun pins s σ H Q I h => ?_⟩
  refine PySem.W.methodCall_KW (ld_glob I hg hm ?_ hdb) hc
  refine PySem.W.method_cls I.kIn r.ga (ClX.getcval_ok I r kv fun s' I' => ?_)
  refine PySem.W.callWith_K (h₀ := X.base) I.ok.mod.kin hk (thn (ha.run pos pins s' σ H _ I' h) fun us s2 ⟨vs, H2, I2, rv, q⟩ => ⟨I2.kIn, ?_⟩) he hpl
  exact run_fn F hr hb hd hx I2 rv q
end
abbrev sWin : Stmt := inClass (top 2) 0
/-- a fresh error of the class at C, its dict at d with these fields -/
def spWin (K : PySem.W.Frag) : Sp := fun vs H Q _ => ∃ (a C : Addr) (wd told : Str), vs = [.ref a, .str wd, .str told] ∧ OexC K C ∧ PySem.W.findIn K (.ref C) "word" = some none ∧ H a = some (exo a C none) ∧
  ∀ d, H d = none → d ≠ a → Q .non (upd (upd H d (exd d [("word", .str wd)])) a (exo a C (some d)))
/-- the fields of an error -/
def erF (fld wd : Str) (n : Int) : List (Str × V) := [(fld, .int n), ("word", .str wd)]
theorem er_w {fld wd : Str} {n : Int} (h : (("word" : Str) == fld) = false) : (erF fld wd n).lookup ("word" : Str) = some (.str wd) := by
  simp [erF, List.lookup, h]
theorem er_n {fld wd : Str} {n : Int} : (erF fld wd n).lookup fld = some (.int n) := by
  simp [erF, List.lookup]
def spErr (C : Addr) (fld wd : Str) : Sp := fun vs H Q _ => ∃ (a : Addr) (n : Int), vs = [.ref a, .int n] ∧ n.natAbs < 10 ^ 100 ∧ H a = some (exo a C none) ∧
  ∀ d, H d = none → d ≠ a → Q .non (upd (upd (upd H d (exd d [("word", .str wd)])) a (exo a C (some d))) d (exd d (erF fld wd n)))
/-- an own error that can be raised by its name -/
structure ErrIn (P : Program) (w : World) (K : PySem.W.Frag) (mg : Str → Option Value) (base : Heap) (x : Str) (C : Addr) (fld wd : Str) : Prop where
  O : OexC K C
  mx : mg x = some (.ref C)
  ini : ∃ (fI : Addr) (fd : FuncData), PySem.W.findIn K (.ref C) "__init__" = some (some (.ref fI)) ∧ PySem.W.typeIn K (.ref fI) = some (.type "function") ∧ FnOk P w K mg base CX0 2 fI fd ["self", fld] (spErr C fld wd) ∧ Binds K fd ["self", fld] []
/-- what raising such an error asks, once its argument is read -/
theorem er_tail {H : Hp} {C : Addr} {n : Int} {fld wd : Str} {E : XK} (hn : n.natAbs < 10 ^ 100) (k : ∀ d, H d = none → E (.ref C) (some d) (upd H d (.xd (erF fld wd n)))) :
    [V.int n].length ≤ 1000 ∧ ∀ a, H a = none → spErr C fld wd (.ref a :: ([V.int n] ++ [])) (upd H a (exo a C none))
      (fun v H2 => v = .non ∧ ∃ (d : Addr) (fs : List (Str × V)), H2 a = some (exo a C (some d)) ∧ H2 d = some (exd d fs) ∧ H d = none ∧ E (.ref C) (some d) (upd (del H2 a) d (.xd fs))) (fun _ _ _ => False) := by
  refine ⟨by show 1 ≤ 1000; decide, fun a na => ⟨a, n, rfl, hn, upd_same, fun d hd ne => ⟨rfl, d, _, ?_, upd_same, ?_, ?_⟩⟩⟩
  · rw [upd_ne ne.symm]
    exact upd_same
  · rw [upd_ne ne] at hd
    exact hd
  · have hd' : H d = none := by
      rw [upd_ne ne] at hd
      exact hd
    have e : upd (del (upd (upd (upd (upd H a (exo a C none)) d (exd d [("word", .str wd)])) a (exo a C (some d))) d (exd d (erF fld wd n))) a) d (.xd (erF fld wd n)) = upd H d (.xd (erF fld wd n)) := by
      funext x
      by_cases e1 : x = d
      · subst e1
        rw [upd_same, upd_same]
      · rw [upd_ne e1, upd_ne e1]
        by_cases e2 : x = a
        · subst e2
          rw [del_same, na]
        · rw [del_ne e2, upd_ne e1, upd_ne e2, upd_ne e1, upd_ne e2]
    rw [e]
    exact k d hd'
theorem ps_raiseE {X : Cx} {W : WX} {x : Str} {C : Addr} {fld wd : Str} {j : Nat} {e : Expr} {ta : TA} {p pos pos2 : Pos} (hc : X.calm = true) (tk : Takes X W) (R : ErrIn X.prog X.w X.K X.mg X.base x C fld wd) (hr : Room j X.A) (hj : 3 ≤ j) (hg : Gl X x) (ha : PA X [e] ta)
    (hdb : (x == ("__debug__" : Str)) = false := by decide) (he : starEach [e] X.env = (false, eval e X.env) :: starEach [] X.env := by rfl) (hpl : (backTo pos (starEach [] X.env)).any (·.1) = false := by rfl) :
    PS X (.Raise (some (.Call (.Name x p) [e] [] pos)) none pos2) (fun _ σ H => tMkO C (spErr C fld wd) [] ta σ H fun cls d H' => W cls d σ H') := by
  obtain ⟨fI, fd, h1, h2, F, b⟩ := R.ini
  exact ps_raise hc tk (pmk_oex R.O h1 h2 F (hr.mono hj) b .nil pass0 hg R.mx ha hdb he hpl)
section
variable {P : Program} {w : World} {K : PySem.W.Frag} {mg : Str → Option Value} {base : Heap}
theorem scWin : FnScope ["self", "word", "told"] ["self", "word", "told"] (defScope sWin) := ⟨rfl, rfl, rfl, by decide +kernel, rfl, by decide +kernel, by decide +kernel⟩
theorem ok_win {f : Addr} {fd : FuncData} {k : Nat} {dvs : List V} (F : FunD K "__init__" "WindowError.__init__" (defArgs sWin) (defBody sWin) (defScope sWin) dvs [] f fd) (mVE : mg "ValueError" = none)
    (vV : PySem.W.findCls K (.type "ValueError") (.type "type") "__init__" = some (.val (.builtin "ValueError.__init__"))) : FnOk P w K mg base CX0 (k + 1) f fd ["self", "word", "told"] (spWin K) := by
  refine F.ok scWin (fun vs H Q E h => ?_) (fun cdv A outer s H vs Q E hr h => ?_)
  · obtain ⟨a, C, wd, told, rfl, _⟩ := h
    rfl
  · obtain ⟨a, C, wd, told, rfl, T, nw, ha, q⟩ := h
    refine ⟨_, pss_cons (ps_expr (pe_veinit (by rfl) mVE vV (pa_cons (pv 0) (pa_cons (pv 2) pa_nil)))) (pss_one (ps_ost (pv 0) (pv 1))), ?_⟩
    refine ⟨_, rfl, _, rfl, a, C, _, rfl, (by show 1 ≤ 1000; decide), T, ha, ?_⟩
    exact ⟨_, rfl, _, rfl, a, C, rfl, T, nw, .inl ⟨ha, fun d hd ne => q d hd ne⟩⟩
theorem log_big {n : Int} (h : n.natAbs < 10 ^ 100) : n.natAbs.log2 < 1920 := by
  by_cases hz : n.natAbs = 0
  · rw [hz]
    decide
  · exact (Nat.log2_lt hz).mpr (Nat.lt_trans h (by decide +kernel))
theorem len_app0 (x y : Str) : (x ++ y).length = x.length + y.length := by
  show (x.cps ++ y.cps).size = x.cps.size + y.cps.size
  exact Array.size_append
end
end Lw

set_option Elab.async false
set_option linter.all false
set_option maxRecDepth 100000
/-! try .. except C as n: .., with any clauses behind, where all that the body raises is of C -/
namespace Lw
open PySem PySem.Spec PyProof.Rows L2
section
variable {X : Cx} {pins : List (Addr × Obj)} {σ : L2.St} {H : Hp}
/-- an error on the ground: its object, the frame's state, and the state of a suite that handles it -/
theorem ground {a : Addr} {cls : Value} {d : Option Addr} {B h : Heap} {sI s' : Shared} (fo : X.env.frame = some X.env.locals) (J : Inv X pins σ H sI)
    (old : ∀ b o, sI.heap.get? b = some o → b ∉ frs X.stack → B.get? b = some o) (up : sI.heap.UpToSlots h) (os : s'.os = sI.os) (bare : AllBare s'.gens) (na : H a = none)
    (fl : HandSPX.FlyingZ B (X.env :: X.outer) a (Zc cls d) h) :
    ∃ oe, h.get? a = some oe ∧ Zc cls d oe ∧ (∃ vs, oe.data = .fields vs) ∧ Inv X pins σ H { s' with heap := h } ∧ Inv (X.suite a ((a, oe) :: (X.pn ++ pins))) [] σ H { s' with heap := h } := by
  obtain ⟨oe, vs, get, z, dat⟩ := fl.there
  have K : Inv X pins σ H { s' with heap := h } := J.landed old fl.1 up os bare
  have off : a ∉ frs (X.env :: X.outer) := by
    intro m
    obtain ⟨_, o, ho, no⟩ := fl.2.2.1.mem m
    have e : oe = o := Option.some.inj (get.symm.trans ho)
    exact no vs (e ▸ dat)
  refine ⟨oe, get, z, ⟨vs, dat⟩, K, K.suite get dat na (fun e => off ?_) (fun m => off ?_)⟩
  · refine List.mem_filterMap.mpr ⟨X.env, .head _, ?_⟩
    rw [fo, ← e]
  · obtain ⟨en, hen, hfr⟩ := List.mem_filterMap.mp m
    exact List.mem_filterMap.mpr ⟨en, .tail _ hen, hfr⟩
/-- what becomes of an error that leaves the body -/
abbrev Lands (X : Cx) (pins : List (Addr × Obj)) (D : Ends) (hds : List ExceptHandler) : Value → Shared → Prop := fun e s1 =>
  wpAny (model X.prog X.w) X.A (noteFrame e X.env) (fun _ s2 => wpAny (model X.prog X.w) X.A (setFlight e none) (fun _ s3 => wpAny (model X.prog X.w) X.A (handleBy e X.env hds) (SP X pins D) X.xe s3) X.xe s2) X.xe s1
/-- the ends of the suite: its name goes -/
abbrev without (D : Ends) (i : Nat) : Ends := { nx := fun τ G => D.nx (τ.set i none) G, rt := D.rt, bk := fun τ G => D.bk (τ.set i none) G, ct := fun τ G => D.ct (τ.set i none) G }
def wFirst (K : PySem.W.Frag) (c : Value) (i : Nat) (ts : Addr → Value → Option Addr → TS) (D : Ends) : WX := fun cls d τ G =>
  PySem.W.exmOne K cls c = some true ∧ ∀ a, G a = none → ts a cls d (without D i) (τ.set i (some (.ref a))) G
theorem SP.back {P' : Cx} {ps : List (Addr × Obj)} {D : Ends} {f : Flow} {s : Shared} (h : SP P' ps D f s) (k : ∀ {τ G}, Inv P' ps τ G s → Inv X pins τ G s) : SP X pins D f s := by
  match f, h with
  | .next, ⟨τ, G, J, q⟩ => exact ⟨τ, G, k J, q⟩
  | .brk, ⟨τ, G, J, q⟩ => exact ⟨τ, G, k J, q⟩
  | .cont, ⟨τ, G, J, q⟩ => exact ⟨τ, G, k J, q⟩
  | .ret u, ⟨v, τ, G, J, r, q⟩ => exact ⟨v, τ, G, k J, r, q⟩
end
section
variable {X : Cx} {x n : Str} {c : Value} {i : Nat} {body suite : List Stmt} {b0 : Stmt} {np pos pos' : Pos} {tb : WX → TS} {ts : Addr → Value → Option Addr → TS} {more : List ExceptHandler}
theorem ps_try_first (so : X.stack = X.env :: X.outer) (fo : X.env.frame = some X.env.locals) (nd : X.N.Nodup) (hi : X.N[i]? = some n) (loc : X.env.kindOf n = some .local) (nam : Names X x c)
    (inBody : ∀ (W : WX) (pn : List (Addr × Obj)) (xe : Value → Shared → Prop), Takes (X.tr pn xe) W → PassesOwn (model X.prog X.w) X.A X.env xe →
      PSs (X.tr pn xe) body (tb W))
    (inSuite : ∀ (a : Addr) (oe : Obj) (cls : Value) (d : Option Addr) (pn : List (Addr × Obj)), Zc cls d oe → (∃ vs, oe.data = .fields vs) →
      PSs (X.suite a ((a, oe) :: pn)) (b0 :: suite) (ts a cls d)) :
    PS X (.Try body (.ExceptHandler (some (.Name x np)) (some n) (b0 :: suite) pos' :: more) [] [] pos) (fun D σ H => tb (wFirst X.K c i ts D) D σ H) := by
  constructor
  intro pins s σ H D I h
  have frames : X.A.frames = some (X.env :: X.outer) := I.ok.frames.trans (congrArg some so)
  refine wpAny_Try_except (wpAny_mono ((inBody (wFirst X.K c i ts D) (X.pn ++ pins) (Lands X pins D (.ExceptHandler (some (.Name x np)) (some n) (b0 :: suite) pos' :: more)) ?_ PassesOwn.looking).run [] s σ H D (I.toTry _) h) ?_ fun _ _ z => z)
  · -- an error leaves the body: it lands, it is of c, the suite runs
    rintro _ s' ⟨a, B, sI, ps, τ, G, cls, d, rfl, J0, old, up, sky, na, os, bare, hit, run⟩
    have J : Inv X pins τ G sI := J0.ofTry I.ok
    refine Sky.land Zc.steady frames fo (show Sky B (X.env :: X.outer) a (Zc cls d) X.env.locals s'.heap from so ▸ sky) fun g fl up1 => ?_
    obtain ⟨oe, get, z, _, K, S⟩ := ground fo J old (up.trans up1) os bare na fl
    have isC : PySem.W.Looks (model X.prog X.w) g (typeOf (.ref a)) cls := fun A' Q' E' t keep q => wpAny_typeOf_ref (keep _ _ get) (z.1.symm ▸ q)
    refine wpAny_handleBy_cons (codeAny_handlers_test ?_) nofun
    have ask : ∀ {Q E : Value → Shared → Prop}, Q c { s' with heap := g } → wpAny (model X.prog X.w) (X.A.mark (some (.ref a))) (eval (.Name x np) X.env) Q E { s' with heap := g } := by
      intro Q' E' q
      rcases nam.2.2 with m | ⟨m, bt, ne⟩
      · exact ld_glob (X := X.suite a ((a, oe) :: (X.pn ++ pins))) S nam.1 m q nam.2.1
      · exact ld_blt (X := X.suite a ((a, oe) :: (X.pn ++ pins))) S nam.1 m bt q ne nam.2.1
    refine ask ((PySem.W.exm_one (M := model X.prog X.w) K.kIn isC hit).here (codeAny_handlers_suite_as (HandSPX.lands_againZ fl fun g2 fl2 up2 => ?_)))
    obtain ⟨oe2, _, z2, flds, _, S2⟩ := ground fo J old ((up.trans up1).trans up2) os bare na fl2
    refine store_ok (X := X.suite a ((a, oe2) :: (X.pn ++ pins))) (v := .ref a) S2 nd hi (.inl loc) rfl (fun s5 S5 => ?_) (.inr loc)
    refine wpAny_mono ((inSuite a oe2 cls d (X.pn ++ pins) z2 flds).run [] s5 _ G _ S5 (run a na)) ?_ fun _ _ z => z.elim
    have gone : ∀ {τ6 G6 s6} {Q : Shared → Prop}, Inv (X.suite a ((a, oe2) :: (X.pn ++ pins))) [] τ6 G6 s6 → (∀ s7, Inv X pins (τ6.set i none) G6 s7 → Q s7) → wpAny (model X.prog X.w) X.A (do bindName X.env n .none; unbindBehindTheSuite X.env n pos') (fun _ s7 => Q s7) X.xe s6 :=
      fun S6 after => gone_ok (S6.unsuite I.ok) nd hi loc after
    intro f s6 fin
    match f, fin with
    | .next, ⟨τ6, G6, S6, q⟩ => exact gone S6 fun s7 J7 => ⟨_, _, J7, q⟩
    | .brk, ⟨τ6, G6, S6, q⟩ => exact gone S6 fun s7 J7 => ⟨_, _, J7, q⟩
    | .cont, ⟨τ6, G6, S6, q⟩ => exact gone S6 fun s7 J7 => ⟨_, _, J7, q⟩
    | .ret u, ⟨v, τ6, G6, S6, r, q⟩ => exact gone S6 fun s7 J7 => ⟨_, _, _, J7, r, q⟩
  · -- the body ends by itself
    intro f s1 fin
    have fin := SP.back (X := X) (pins := pins) fin fun J => J.ofTry I.ok
    match f, fin with
    | .next, fin => exact wpAny_execs_nil fin
    | .brk, fin => exact fin
    | .cont, fin => exact fin
    | .ret u, fin => exact fin
end
end Lw

set_option Elab.async false
set_option linter.all false
set_option maxRecDepth 100000
/-! a def that raises nothing, called while an error is handled: p is the handled one, of which Z is known -/
namespace Lw
open PySem PySem.Spec PyProof.Rows L2
structure FnC (P : Program) (w : World) (K : PySem.W.Frag) (mg : Str → Option Value) (base : Heap) (k : Nat) (f : Addr) (fd : FuncData) (ps : List Str) (Z : Addr × Obj → Prop) (sp : Sp) : Prop where
  len : ∀ vs H Q E, sp vs H Q E → vs.length = ps.length
  run : ∀ (A : Around) (outer : List Env) (s : Shared) (H : Hp) (args : Args) (us : List Value) (vs : List V) (Q : VK) (E : XK) (p : Addr × Obj), L2H.RoomH k A → Z p → L2H.PinOk outer H s p → Env0 P w K mg base A outer s H → BindsTo s fd args (ps.zip us) → Vals vs us → sp vs H Q E →
    codeAny (model P w) A (.call (.ref f) args) (CR CX0 outer P w H s Q E) s
theorem fn_ofC {P : Program} {w : World} {K : PySem.W.Frag} {mg : Str → Option Value} {base : Heap} {k : Nat} {x qual : Str} {st : Stmt} {f : Addr} {fd : FuncData} {N ps : List Str} {Z : Addr × Obj → Prop} {sp : Sp} (F : Fun K x qual st f fd) (S : FnScope N ps (defScope st))
    (len : ∀ vs H Q E, sp vs H Q E → vs.length = ps.length)
    (hbody : ∀ (cdv : Value) (A : Around) (outer : List Env) (s : Shared) (H : Hp) (vs : List V) (Q : VK) (E : XK) (p : Addr × Obj), Z p → L2H.RoomH k (A.deeper (envOfC qual (defScope st) s.heap.objs.size f cdv)) → sp vs H Q E →
      ∃ t, PSs (L2H.cxH CX0 P w K mg base N qual (defScope st) f cdv A outer s H E p) (defBody st) t ∧ t { nx := fun _ H' => Q .non H', rt := Q } (L2.start N vs) H) : FnC P w K mg base (k + 1) f fd ps Z sp := by
  obtain ⟨oc, od, kV, doc, pm, an, cdv, ct, osl, rfl, lk, hcd⟩ := F.ex
  refine ⟨len, fun A outer s H args us vs Q E p hr hz hpin e0 hb r hsp => ?_⟩
  have hl := len _ _ _ _ hsp
  have up : ∀ b o, base.get? b = some o → s.heap.get? b = some o := fun b o e => (e0.bs b o e).1
  have KX : K.In s.heap := e0.mod.kin.keeps up
  refine codeAny_call_function hr.depth (KX _ _ lk) rfl S.co S.gen rfl (PySem.W.codeRec_of KX hcd) (hb _ _ _ _ ?_)
  refine wpAny_newFunctionEnv_cells S.kind (fun y hy => ?_) fun env he s1 x => ?_
  · exact (S.par y.1 (List.of_mem_zip hy).1).imp id fun q => ⟨q, PySem.W.cellsFrom_some _ _ _ (.inl q)⟩
  · subst he
    refine ⟨(e0.mod.nolimit.keeps up).keeps x.toInCall.keep, codeAny_func ?_⟩
    obtain ⟨t, ht, hq⟩ := hbody cdv A outer s H vs Q E p hz (hr.deeper _) hsp
    refine wpAny_mono (ht.run [] s1 (L2.start N vs) H _ (L2H.inv_startH S hpin e0 hl r x) hq) (fun fl s' hs => ?_) fun e s' hs => hs
    cases fl with
    | ret u =>
      obtain ⟨v, σ', H', J, rv, q⟩ := hs
      exact ⟨v, H', J.os, J.bare, J.base, J.hok, rv, q⟩
    | next =>
      obtain ⟨σ', H', J, q⟩ := hs
      exact ⟨.non, H', J.os, J.bare, J.base, J.hok, rfl, q⟩
    | brk => exact hs.elim fun _ z => z.elim fun _ z => z.2.elim
    | cont => exact hs.elim fun _ z => z.elim fun _ z => z.2.elim
section
variable {X : Cx} {k : Nat} {f : Addr} {fd : FuncData} {ps : List Str} {Z : Addr × Obj → Prop} {sp : Sp} {x : Str} {q pos : Pos} {e : Expr} {es : List Expr} {ta : TA} {p : Addr × Obj}
theorem pe_callC (F : FnC X.prog X.w X.K X.mg X.base k f fd ps Z sp) (hr : L2H.RoomH k X.A) (hp : p ∈ X.pn) (hz : Z p) (hg : Gl X x) (hm : X.mg x = some (.ref f)) (hk : PySem.W.keepIn X.K (.ref f) = true) (hb : Binds X.K fd ps [])
    (ha : PA X (e :: es) ta) (hdb : (x == ("__debug__" : Str)) = false := by decide) (he : starEach (e :: es) X.env = (false, eval e X.env) :: starEach es X.env := by rfl) (hpl : (backTo pos (starEach es X.env)).any (·.1) = false := by rfl) :
    PE X (.Call (.Name x q) (e :: es) [] pos) (tCall sp [] E0 ta) := by
  refine ⟨fun pins s σ H Q I h => wpAny_Call_Name_kw (ld_glob I hg hm ?_ hdb)⟩
  refine PySem.W.callWith_K (h₀ := X.base) I.ok.mod.kin hk (thn (ha.run pos pins s σ H _ I h) fun us s1 ⟨vs, H1, I1, r, q⟩ => ⟨I1.kIn, ?_⟩) he hpl
  replace q : sp (vs ++ []) H1 Q E0 := q
  rw [List.append_nil] at q
  have b := hb s1 us I1.kIn (by rw [List.append_nil, ← r.length]; exact F.len _ _ _ _ q)
  rw [List.append_nil] at b
  have P1 := I1.pin p (List.mem_append_left _ hp)
  refine wpAny_call (codeAny_mono (F.run X.A X.stack s1 H1 ⟨us, []⟩ us vs Q E0 p hr hz ⟨P1.1, P1.2.1, fun hm => (List.mem_cons.mp (I1.stkSub p.1 hm)).elim P1.2.2.1 P1.2.2.2.1, P1.2.2.2.2⟩ I1.env0 b r q) fun r s' hq => ?_)
  cases r with
  | error e => exact (show False from hq).elim
  | ok fl =>
    cases fl with
    | ret u => exact I1.after hq
    | next => exact False.elim hq
    | brk => exact False.elim hq
    | cont => exact False.elim hq
/-- a field of the handled error, wherever it is pinned -/
theorem pe_xfP {a C : Addr} {oe : Obj} {dd : Addr} {te : TE} {n : Str} (T : XfC X.K C) (hno : PySem.W.findIn X.K (.ref C) n = some none) (hz : Zc (.ref C) (some dd) oe) (hf : ∃ vs, oe.data = .fields vs) (hp : (a, oe) ∈ X.pn) (he : PE X e te)
    (hb : attributeBase e n X.env (eval e X.env) = eval e X.env := by rfl) :
    PE X (.Attribute e n pos) (fun σ H Q => te σ H fun y H1 => y = .ref a ∧ ∃ (fs : List (Str × V)) (v : V), H1 dd = some (.xd fs) ∧ fs.lookup n = some v ∧ Q v H1) := by
  refine ⟨fun pins s σ H Q I h => attr_of hb (thn (he.run pins s σ H _ I h) fun u s1 hh => ?_)⟩
  obtain ⟨y, H1, I1, ry, rfl, fs, v, ed, l, q⟩ := hh
  obtain rfl : u = Value.ref a := ry
  obtain ⟨ha, _⟩ := I1.pin (a, oe) (List.mem_append_left _ hp)
  obtain ⟨vs, hd⟩ := hf
  obtain ⟨mA, hns, hr⟩ := (show ObjOk X.prog X.w H1 s1.heap dd (.xd fs) from I1.hok dd _ ed)
  obtain ⟨od, ho, hl⟩ := lookIn_ns hns
  obtain ⟨u, hu, ru⟩ := RelO.some_of (v := v) (o := mA n) (by rw [← l]; exact hr n)
  have J : PySem.W.InstAt s1.heap a oe C (some od) := ⟨ha, hz.1, by unfold PySem.W.notCls; rw [hd] <;> rfl, by rw [hz.2]; exact ho⟩
  exact HandSPX.exc_get I1.kIn J T.ga T.gg T.exC (PySem.W.findObj_own T.hdC hno rfl (by rw [hl, hu])) (handed_of ru) ⟨v, H1, I1.tok _, ru, q⟩
end
end Lw

set_option Elab.async false
set_option linter.all false
set_option maxRecDepth 100000
namespace Lw
open PySem PySem.Spec PyProof.Rows L2
abbrev sField : Stmt := top 27
abbrev sTried : Stmt := top 28
/-- the handled error at a: of the class at C, its dict at dd -/
def Zh (C a dd : Addr) : Addr × Obj → Prop := fun p => p.1 = a ∧ Zc (.ref C) (some dd) p.2 ∧ ∃ vs, p.2.data = .fields vs
def spField (a dd : Addr) (fld wd : Str) : Sp := fun vs H Q _ => ∃ n : Int, vs = [.ref a] ∧ H dd = some (.xd (erF fld wd n)) ∧ ∀ H', Same H H' → Q (.int n) H'
theorem same_new {H : Hp} {p : Addr} {o : HO} (h : H p = none) : Same H (upd H p o) := fun b x e => by
  rw [upd_ne (ne_of_none e h)]
  exact e
theorem ifT {c : Bool} {A B : Prop} (hc : c = true) (h : A) : if c = true then A else B := by
  rw [if_pos hc]
  exact h
theorem ifF {c : Bool} {A B : Prop} (hc : c = false) (h : B) : if c = true then A else B := by
  rw [if_neg (by rw [hc]; exact Bool.false_ne_true)]
  exact h
section
variable {P : Program} {w : World} {K : PySem.W.Frag} {mg : Str → Option Value} {base : Heap}
theorem scField : FnScope ["_law_e", "_law_fields", "_law_word", "_law_ask"] ["_law_e"] (defScope sField) := ⟨rfl, rfl, rfl, by decide +kernel, rfl, by decide +kernel, by decide +kernel⟩
set_option maxHeartbeats 4000000 in
theorem ok_field_invalidrow {f C a dd : Addr} {fd : FuncData} {k : Nat} (F : Fun K "_law_field" "_law_field" sField f fd) (T : XfC K C) (nw : PySem.W.findIn K (.ref C) "word" = some none) (nn : PySem.W.findIn K (.ref C) "place" = some none) :
    FnC P w K mg base (k + 1) f fd ["_law_e"] (Zh C a dd) (spField a dd "place" "invalidrow") := by
  have w0 : (("word" : Str) == ("place" : Str)) = false := by decide +kernel
  refine fn_ofC F scField (fun vs H Q E h => ?_) (fun cdv A outer s H vs Q E p hz hr h => ?_)
  · obtain ⟨n, rfl, _⟩ := h
    rfl
  · obtain ⟨n, rfl, hd, q⟩ := h
    obtain ⟨pa, po⟩ := p
    obtain ⟨rfl, hzc, hf⟩ := hz
    have hm : (pa, po) ∈ [(pa, po)] := List.mem_singleton.mpr rfl
    refine ⟨_, pss_cons (ps_if (pt_cmpR op_in_seq (pe_xfP T nw hzc hf hm (pv 0)) (pe_lst (pa_cons pe_str (pa_cons pe_str (pa_cons pe_str (pa_cons pe_str pa_nil))))) (by rfl)) (pss_one ps_never) pss_nil) (pss_cons (ps_if (pt_cmpR op_in_seq (pe_xfP T nw hzc hf hm (pv 0)) (pe_lst (pa_cons pe_str (pa_cons pe_str pa_nil))) (by rfl)) (pss_one ps_never) pss_nil) (pss_cons (ps_if (pt_cmpR op_in_seq (pe_xfP T nw hzc hf hm (pv 0)) (pe_lst (pa_cons pe_str (pa_cons pe_str (pa_cons pe_str (pa_cons pe_str pa_nil))))) (by rfl)) (pss_one (ps_ret (pe_xfP T nn hzc hf hm (pv 0)))) pss_nil) (pss_cons ps_never (pss_cons ps_never (pss_cons ps_never (pss_cons ps_never (pss_one ps_never))))))), ?_⟩
    have sz : ∀ m : Nat, m ≤ 10 → m ≤ sizeLine := fun m h => Nat.le_trans h (by rw [sizeLine_eq]; decide)
    have s0 : Same H H := fun _ _ z => z
    refine ⟨_, rfl, rfl, _, _, s0 _ _ hd, er_w w0, sz 4 (by decide), fun l1 h1 => ⟨l1, _, rfl, .inl (SqL.of upd_same), rfl, (by decide +kernel), _, rfl, ifF (by decide +kernel) ?_⟩⟩
    have s1 := s0.trans (same_new (o := .lst [.str "invalidname", .str "duplicatename", .str "nameinuse", .str "unknownname"]) h1)
    refine ⟨_, rfl, rfl, _, _, s1 _ _ hd, er_w w0, sz 2 (by decide), fun l2 h2 => ⟨l2, _, rfl, .inl (SqL.of upd_same), rfl, (by decide +kernel), _, rfl, ifF (by decide +kernel) ?_⟩⟩
    have s2 := s1.trans (same_new (o := .lst [.str "limitexceeded", .str "capacityexceeded"]) h2)
    refine ⟨_, rfl, rfl, _, _, s2 _ _ hd, er_w w0, sz 4 (by decide), fun l3 h3 => ⟨l3, _, rfl, .inl (SqL.of upd_same), rfl, (by decide +kernel), _, rfl, ifT (by decide +kernel) ?_⟩⟩
    have s3 := s2.trans (same_new (o := .lst [.str "invalidgraph", .str "invalidrow", .str "invalidpath", .str "invalidcode"]) h3)
    exact ⟨_, rfl, rfl, _, _, s3 _ _ hd, er_n, q _ s3⟩
set_option maxHeartbeats 4000000 in
theorem ok_field_outofrange {f C a dd : Addr} {fd : FuncData} {k : Nat} (F : Fun K "_law_field" "_law_field" sField f fd) (T : XfC K C) (nw : PySem.W.findIn K (.ref C) "word" = some none) (nn : PySem.W.findIn K (.ref C) "number" = some none) :
    FnC P w K mg base (k + 1) f fd ["_law_e"] (Zh C a dd) (spField a dd "number" "outofrange") := by
  have w0 : (("word" : Str) == ("number" : Str)) = false := by decide +kernel
  refine fn_ofC F scField (fun vs H Q E h => ?_) (fun cdv A outer s H vs Q E p hz hr h => ?_)
  · obtain ⟨n, rfl, _⟩ := h
    rfl
  · obtain ⟨n, rfl, hd, q⟩ := h
    obtain ⟨pa, po⟩ := p
    obtain ⟨rfl, hzc, hf⟩ := hz
    have hm : (pa, po) ∈ [(pa, po)] := List.mem_singleton.mpr rfl
    refine ⟨_, pss_cons (ps_if (pt_cmpR op_in_seq (pe_xfP T nw hzc hf hm (pv 0)) (pe_lst (pa_cons pe_str (pa_cons pe_str (pa_cons pe_str (pa_cons pe_str pa_nil))))) (by rfl)) (pss_one ps_never) pss_nil) (pss_cons (ps_if (pt_cmpR op_in_seq (pe_xfP T nw hzc hf hm (pv 0)) (pe_lst (pa_cons pe_str (pa_cons pe_str pa_nil))) (by rfl)) (pss_one ps_never) pss_nil) (pss_cons (ps_if (pt_cmpR op_in_seq (pe_xfP T nw hzc hf hm (pv 0)) (pe_lst (pa_cons pe_str (pa_cons pe_str (pa_cons pe_str (pa_cons pe_str pa_nil))))) (by rfl)) (pss_one ps_never) pss_nil) (pss_cons (ps_if (pt_cmpR op_in_seq (pe_xfP T nw hzc hf hm (pv 0)) (pe_lst (pa_cons pe_str (pa_cons pe_str (pa_cons pe_str pa_nil)))) (by rfl)) (pss_one (ps_ret (pe_xfP T nn hzc hf hm (pv 0)))) pss_nil) (pss_cons ps_never (pss_cons ps_never (pss_cons ps_never (pss_one ps_never))))))), ?_⟩
    have sz : ∀ m : Nat, m ≤ 10 → m ≤ sizeLine := fun m h => Nat.le_trans h (by rw [sizeLine_eq]; decide)
    have s0 : Same H H := fun _ _ z => z
    refine ⟨_, rfl, rfl, _, _, s0 _ _ hd, er_w w0, sz 4 (by decide), fun l1 h1 => ⟨l1, _, rfl, .inl (SqL.of upd_same), rfl, (by decide +kernel), _, rfl, ifF (by decide +kernel) ?_⟩⟩
    have s1 := s0.trans (same_new (o := .lst [.str "invalidname", .str "duplicatename", .str "nameinuse", .str "unknownname"]) h1)
    refine ⟨_, rfl, rfl, _, _, s1 _ _ hd, er_w w0, sz 2 (by decide), fun l2 h2 => ⟨l2, _, rfl, .inl (SqL.of upd_same), rfl, (by decide +kernel), _, rfl, ifF (by decide +kernel) ?_⟩⟩
    have s2 := s1.trans (same_new (o := .lst [.str "limitexceeded", .str "capacityexceeded"]) h2)
    refine ⟨_, rfl, rfl, _, _, s2 _ _ hd, er_w w0, sz 4 (by decide), fun l3 h3 => ⟨l3, _, rfl, .inl (SqL.of upd_same), rfl, (by decide +kernel), _, rfl, ifF (by decide +kernel) ?_⟩⟩
    have s3 := s2.trans (same_new (o := .lst [.str "invalidgraph", .str "invalidrow", .str "invalidpath", .str "invalidcode"]) h3)
    refine ⟨_, rfl, rfl, _, _, s3 _ _ hd, er_w w0, sz 3 (by decide), fun l4 h4 => ⟨l4, _, rfl, .inl (SqL.of upd_same), rfl, (by decide +kernel), _, rfl, ifT (by decide +kernel) ?_⟩⟩
    have s4 := s3.trans (same_new (o := .lst [.str "outofrange", .str "invalidwidth", .str "invalidcapacity"]) h4)
    exact ⟨_, rfl, rfl, _, _, s4 _ _ hd, er_n, q _ s4⟩

abbrev sInvalidRow : Stmt := inClass (top 6) 0
theorem scInvalidRow : FnScope ["self", "place"] ["self", "place"] (defScope sInvalidRow) := ⟨rfl, rfl, rfl, by decide +kernel, rfl, by decide +kernel, by decide +kernel⟩
theorem ok_invalidrow {f C CW fW : Addr} {mc : Value} {fd fdW : FuncData} {k : Nat} (F : Fun K "__init__" "InvalidRow.__init__" sInvalidRow f fd) (T : OexC K C) (nw : PySem.W.findIn K (.ref C) "word" = some none) (nn : PySem.W.findIn K (.ref C) "place" = some none)
    (gW : mg "WindowError" = some (.ref CW)) (rW : ClX.CRead K CW mc) (vW : ClX.CVal K CW mc "__init__" (.ref fW) (.ref fW)) (kW : PySem.W.keepIn K (.ref fW) = true) (FW : FnOk P w K mg base CX0 1 fW fdW ["self", "word", "told"] (spWin K)) (bW : Binds K fdW ["self", "word", "told"] []) :
    FnOk P w K mg base CX0 (k + 2) f fd ["self", "place"] (spErr C "place" "invalidrow") := by
  refine F.ok scInvalidRow (fun vs H Q E h => ?_) (fun cdv A outer s H vs Q E hr h => ?_)
  · obtain ⟨a, n, rfl, _⟩ := h
    rfl
  · obtain ⟨a, n, rfl, hn, ha, q⟩ := h
    refine ⟨_, pss_cons (ps_expr (pe_clsfn (by rfl) gW rW vW kW FW (hr.mono (Nat.le_add_left 1 k)) bW .nil pass0 (pa_cons (pv 0) (pa_cons pe_str (pa_cons (pe_joined (.cons pe_str (.cons (pe_fmt (pv 1)) .nil))) pa_nil))))) (pss_one (ps_ost (pv 0) (pv 1))), ?_⟩
    have z0 : (Str.empty ++ Str.ofString "no row: place ").length = 14 := by decide +kernel
    have zn := int_text_len_1921 (log_big hn)
    have hsz : ∀ m : Nat, m ≤ 3000 → m ≤ sizeLine := fun m h => Nat.le_trans h (by rw [sizeLine_eq]; decide)
    refine ⟨_, rfl, _, rfl, hsz _ (by rw [z0]; decide), _, rfl, .inr ⟨n, rfl, log_big hn, _, rfl, hsz _ (by rw [len_app0, z0]; omega), ?_⟩⟩
    refine ⟨a, C, _, _, rfl, T, nw, ha, fun d hd ne => ?_⟩
    have ed : upd (upd H d (exd d [("word", .str "invalidrow")])) a (exo a C (some d)) d = some (exd d [("word", .str "invalidrow")]) := by
      rw [upd_ne ne]
      exact upd_same
    exact ⟨_, rfl, _, rfl, a, C, rfl, T, nn, .inr ⟨d, _, upd_same, ed, (by show 1 ≤ 900; decide), q d hd ne⟩⟩
abbrev sOutOfRange : Stmt := inClass (top 5) 0
theorem scOutOfRange : FnScope ["self", "number"] ["self", "number"] (defScope sOutOfRange) := ⟨rfl, rfl, rfl, by decide +kernel, rfl, by decide +kernel, by decide +kernel⟩
theorem ok_outofrange {f C CW fW : Addr} {mc : Value} {fd fdW : FuncData} {k : Nat} (F : Fun K "__init__" "OutOfRange.__init__" sOutOfRange f fd) (T : OexC K C) (nw : PySem.W.findIn K (.ref C) "word" = some none) (nn : PySem.W.findIn K (.ref C) "number" = some none)
    (gW : mg "WindowError" = some (.ref CW)) (rW : ClX.CRead K CW mc) (vW : ClX.CVal K CW mc "__init__" (.ref fW) (.ref fW)) (kW : PySem.W.keepIn K (.ref fW) = true) (FW : FnOk P w K mg base CX0 1 fW fdW ["self", "word", "told"] (spWin K)) (bW : Binds K fdW ["self", "word", "told"] []) :
    FnOk P w K mg base CX0 (k + 2) f fd ["self", "number"] (spErr C "number" "outofrange") := by
  refine F.ok scOutOfRange (fun vs H Q E h => ?_) (fun cdv A outer s H vs Q E hr h => ?_)
  · obtain ⟨a, n, rfl, _⟩ := h
    rfl
  · obtain ⟨a, n, rfl, hn, ha, q⟩ := h
    refine ⟨_, pss_cons (ps_expr (pe_clsfn (by rfl) gW rW vW kW FW (hr.mono (Nat.le_add_left 1 k)) bW .nil pass0 (pa_cons (pv 0) (pa_cons pe_str (pa_cons (pe_joined (.cons pe_str (.cons (pe_fmt (pv 1)) .nil))) pa_nil))))) (pss_one (ps_ost (pv 0) (pv 1))), ?_⟩
    have z0 : (Str.empty ++ Str.ofString "nothing has the number ").length = 23 := by decide +kernel
    have zn := int_text_len_1921 (log_big hn)
    have hsz : ∀ m : Nat, m ≤ 3000 → m ≤ sizeLine := fun m h => Nat.le_trans h (by rw [sizeLine_eq]; decide)
    refine ⟨_, rfl, _, rfl, hsz _ (by rw [z0]; decide), _, rfl, .inr ⟨n, rfl, log_big hn, _, rfl, hsz _ (by rw [len_app0, z0]; omega), ?_⟩⟩
    refine ⟨a, C, _, _, rfl, T, nw, ha, fun d hd ne => ?_⟩
    have ed : upd (upd H d (exd d [("word", .str "outofrange")])) a (exo a C (some d)) d = some (exd d [("word", .str "outofrange")]) := by
      rw [upd_ne ne]
      exact upd_same
    exact ⟨_, rfl, _, rfl, a, C, rfl, T, nn, .inr ⟨d, _, upd_same, ed, (by show 1 ≤ 900; decide), q d hd ne⟩⟩
abbrev sInvalidCount : Stmt := inClass (top 7) 0
theorem scInvalidCount : FnScope ["self", "count"] ["self", "count"] (defScope sInvalidCount) := ⟨rfl, rfl, rfl, by decide +kernel, rfl, by decide +kernel, by decide +kernel⟩
theorem ok_invalidcount {f C CW fW : Addr} {mc : Value} {fd fdW : FuncData} {k : Nat} (F : Fun K "__init__" "InvalidCount.__init__" sInvalidCount f fd) (T : OexC K C) (nw : PySem.W.findIn K (.ref C) "word" = some none) (nn : PySem.W.findIn K (.ref C) "count" = some none)
    (gW : mg "WindowError" = some (.ref CW)) (rW : ClX.CRead K CW mc) (vW : ClX.CVal K CW mc "__init__" (.ref fW) (.ref fW)) (kW : PySem.W.keepIn K (.ref fW) = true) (FW : FnOk P w K mg base CX0 1 fW fdW ["self", "word", "told"] (spWin K)) (bW : Binds K fdW ["self", "word", "told"] []) :
    FnOk P w K mg base CX0 (k + 2) f fd ["self", "count"] (spErr C "count" "invalidcount") := by
  refine F.ok scInvalidCount (fun vs H Q E h => ?_) (fun cdv A outer s H vs Q E hr h => ?_)
  · obtain ⟨a, n, rfl, _⟩ := h
    rfl
  · obtain ⟨a, n, rfl, hn, ha, q⟩ := h
    refine ⟨_, pss_cons (ps_expr (pe_clsfn (by rfl) gW rW vW kW FW (hr.mono (Nat.le_add_left 1 k)) bW .nil pass0 (pa_cons (pv 0) (pa_cons pe_str (pa_cons (pe_joined (.cons pe_str (.cons (pe_fmt (pv 1)) .nil))) pa_nil))))) (pss_one (ps_ost (pv 0) (pv 1))), ?_⟩
    have z0 : (Str.empty ++ Str.ofString "no count: ").length = 10 := by decide +kernel
    have zn := int_text_len_1921 (log_big hn)
    have hsz : ∀ m : Nat, m ≤ 3000 → m ≤ sizeLine := fun m h => Nat.le_trans h (by rw [sizeLine_eq]; decide)
    refine ⟨_, rfl, _, rfl, hsz _ (by rw [z0]; decide), _, rfl, .inr ⟨n, rfl, log_big hn, _, rfl, hsz _ (by rw [len_app0, z0]; omega), ?_⟩⟩
    refine ⟨a, C, _, _, rfl, T, nw, ha, fun d hd ne => ?_⟩
    have ed : upd (upd H d (exd d [("word", .str "invalidcount")])) a (exo a C (some d)) d = some (exd d [("word", .str "invalidcount")]) := by
      rw [upd_ne ne]
      exact upd_same
    exact ⟨_, rfl, _, rfl, a, C, rfl, T, nn, .inr ⟨d, _, upd_same, ed, (by show 1 ≤ 900; decide), q d hd ne⟩⟩

end
end Lw

set_option Elab.async false
set_option linter.all false
set_option maxRecDepth 100000
namespace Lw
open PySem PySem.Spec PyProof.Rows L2
/-- an error that `_law_tried` tells: its word and its field -/
structure ErOk (P : Program) (w : World) (K : PySem.W.Frag) (mg : Str → Option Value) (base : Heap) (CW fF : Addr) (fdF : FuncData) (C : Addr) (fld wd : Str) : Prop where
  ex : PySem.W.exmOne K (.ref C) (.ref CW) = some true
  T : XfC K C
  nw : PySem.W.findIn K (.ref C) "word" = some none
  nf : (("word" : Str) == fld) = false
  FF : ∀ a dd, FnC P w K mg base 1 fF fdF ["_law_e"] (Zh C a dd) (spField a dd fld wd)
/-- what `_law_tried` makes of what it calls: ('', value), or the word and the field of an own error -/
def Tried (Er : Addr → Str → Str → Prop) : (XK → Hp → VK → Prop) → Hp → VK → Prop := fun tl H Q =>
  tl (fun cls d H' => ∃ (C dd : Addr) (fld wd : Str) (n : Int), Er C fld wd ∧ cls = .ref C ∧ d = some dd ∧ H' dd = some (.xd (erF fld wd n)) ∧ ∀ H2 p, Same H' H2 → H' p = none → H2 p = some (.tup [.str wd, .int n]) → Q (.ref p) H2) H
    (fun v H' => [V.str "", v].length ≤ sizeLine ∧ ∀ p, H' p = none → Q (.ref p) (upd H' p (.tup [.str "", v])))
section
variable {X : Cx}
theorem scTried : FnScope ["_law_ask", "_law_e"] ["_law_ask"] (defScope sTried) := ⟨rfl, rfl, rfl, by decide +kernel, rfl, by decide +kernel, by decide +kernel⟩
set_option maxHeartbeats 4000000 in
theorem tried_gives {q : Str} {g CW fF : Addr} {cdg : Value} {fdF : FuncData} (hr : Room 2 X.A) (gW : X.mg "WindowError" = some (.ref CW))
    (gF : X.mg "_law_field" = some (.ref fF)) (kF : PySem.W.keepIn X.K (.ref fF) = true) (bF : L2.Binds X.K fdF ["_law_e"] []) :
    LamX.GivesTo X ["_law_ask", "_law_e"] "_law_tried" (defScope sTried) g cdg (defBody sTried) "_law_ask" q (Tried (ErOk X.prog X.w X.K X.mg X.base CW fF fdF)) := by
  intro f c' s H Q tl act hc h
  have two : 2 ≤ sizeLine := by decide
  refine ⟨_, pss_one (ps_try_first (X := (cxOf C8.CX0 X.prog X.w X.K X.mg X.base ["_law_ask", "_law_e"] "_law_tried" (defScope sTried) g cdg X.A X.stack s H C8.E0).nox) (i := 1) (c := .ref CW)
      (tb := fun W D σ H => ∃ Ech : XK, (∀ cls d σ' H', Ech cls d H' → W cls d σ' H') ∧ σ[0]? = some (some (.ref f)) ∧ H c' = some (LamX.CodeO c' q) ∧ tl Ech H (fun v H' => [V.str "", v].length ≤ sizeLine ∧ ∀ p, H' p = none → D.rt (.ref p) (upd H' p (.tup [.str "", v]))))
      (ts := fun a cls d D σ H => ∃ (C dd : Addr) (fld wd : Str), ErOk X.prog X.w X.K X.mg X.base CW fF fdF C fld wd ∧ cls = .ref C ∧ d = some dd ∧ (∃ σ0 : L2.St, σ = σ0.set 1 (some (.ref a))) ∧ ∃ n : Int, H dd = some (.xd (erF fld wd n)) ∧ ∀ H2 p, Same H H2 → H p = none → H2 p = some (.tup [.str wd, .int n]) → D.rt (.ref p) H2)
      rfl rfl scTried.nd rfl rfl ⟨rfl, by decide, .inl gW⟩ (fun W pn xe tk _ => ?_) (fun a oe cls d pn hz hf => ?_)), ?_⟩
  · refine ⟨fun pins s' σ H' D I h' => ?_⟩
    obtain ⟨Ech, hW, h1, h2, h3⟩ := h'
    exact (pss_one (ps_ret (pe_tup (pa_cons pe_str (pa_cons (act W pn xe Ech _ _ tk hW) pa_nil))))).run pins s' σ H' D I ⟨h1, h2, h3⟩
  · refine ⟨fun pins s' σ H' D I h' => ?_⟩
    obtain ⟨C, dd, fld, wd, ok, rfl, rfl, ⟨σ0, rfl⟩, n, h2, h3⟩ := h'
    have h1 : (σ0.set 1 (some (.ref a)))[1]? = some (some (V.ref a)) := by
      have l2 : (σ0.set 1 (some (.ref a))).length = 2 := I.len
      rw [List.length_set] at l2
      rw [List.getElem?_set_self (by omega)]
    have hrm : L2H.RoomH 1 ((cxOf C8.CX0 X.prog X.w X.K X.mg X.base ["_law_ask", "_law_e"] "_law_tried" (defScope sTried) g cdg X.A X.stack s H C8.E0).nox.suite a ((a, oe) :: pn)).A := ⟨by have := hr.dp; show X.A.depth + 1 + 3 * 1 + 5 < _; omega, by have := hr.un; show X.A.units + 3 + 16 * 1 + 200 < _; omega⟩
    refine (pss_one (ps_ret (pe_tup (pa_cons (pe_xfP (X := ((cxOf C8.CX0 X.prog X.w X.K X.mg X.base ["_law_ask", "_law_e"] "_law_tried" (defScope sTried) g cdg X.A X.stack s H C8.E0).nox.suite a ((a, oe) :: pn))) ok.T ok.nw hz hf List.mem_cons_self (pv 1)) (pa_cons (pe_callC (X := ((cxOf C8.CX0 X.prog X.w X.K X.mg X.base ["_law_ask", "_law_e"] "_law_tried" (defScope sTried) g cdg X.A X.stack s H C8.E0).nox.suite a ((a, oe) :: pn))) (p := (a, oe)) (ok.FF a dd) hrm List.mem_cons_self ⟨rfl, hz, hf⟩ (by rfl) gF kF bF (pa_cons (pv 1) pa_nil)) pa_nil))))).run pins s' _ H' D I ?_
    refine ⟨_, h1, rfl, _, _, h2, er_w ok.nf, _, h1, n, rfl, h2, fun H2 s2 => ⟨two, fun p hp => ?_⟩⟩
    exact h3 _ p (s2.trans (same_new hp)) (s2.free hp) upd_same
  · exact ⟨_, fun cls d σ' H' ⟨C, dd, fld, wd, n, ok, e1, e2, e3, e4⟩ => ⟨by rw [e1]; exact ok.ex, fun a na => ⟨C, dd, fld, wd, ok, e1, e2, ⟨σ', rfl⟩, n, e3, e4⟩⟩, rfl, hc, h⟩
end
end Lw

set_option Elab.async false
set_option linter.all false
set_option maxRecDepth 100000
namespace Lw
open PySem L2
/-- a def that may raise, called by its name -/
structure CalX (P : Program) (w : World) (K : PySem.W.Frag) (mg : Str → Option Value) (base : Heap) (k : Nat) (x : Str) (sp : Sp) : Prop where
  ex : ∃ (f : Addr) (fd : FuncData) (ps : List Str), FnOk P w K mg base (L2.CX P w) k f fd ps sp ∧ mg x = some (.ref f) ∧ PySem.W.keepIn K (.ref f) = true ∧ Binds K fd ps []
theorem pe_cX {X : Cx} {W : WX} {E : XK} {k j : Nat} {x : Str} {sp : Sp} {e : Expr} {es : List Expr} {t : TA} {p pos : Pos} (c : CalX X.prog X.w X.K X.mg X.base k x sp) (tk : Takes X W) (hW : ∀ cls d σ H, E cls d H → W cls d σ H) (hr : Room j X.A) (hk : k ≤ j) (hg : Gl X x) (ha : PA X (e :: es) t)
    (hdb : (x == ("__debug__" : Str)) = false := by decide) (he : starEach (e :: es) X.env = (false, eval e X.env) :: starEach es X.env := by rfl) (hpl : (backTo pos (starEach es X.env)).any (·.1) = false := by rfl) :
    PE X (.Call (.Name x p) (e :: es) [] pos) (tCall sp [] E t) := by
  obtain ⟨f, fd, ps, F, hm, kp, b⟩ := c.ex
  exact pe_call F (hr.mono hk) hg hm kp b .nil (passes_call tk hW) ha hdb he hpl
/-- a class whose making may raise -/
structure MakX (P : Program) (w : World) (K : PySem.W.Frag) (mg : Str → Option Value) (base : Heap) (k : Nat) (C : Addr) (sp : Sp) : Prop where
  ex : ∃ (f : Addr) (fd : FuncData) (ps : List Str), Mk K C f ∧ FnOk P w K mg base (L2.CX P w) k f fd ps sp ∧ Binds K fd ps []
end Lw

set_option Elab.async false
set_option linter.all false
set_option maxRecDepth 100000
namespace Lw
open PySem L2
abbrev sEdge : Stmt := inClass (top 21) 9
/-! ### numbers of edges that are chosen -/
def sel (f : Int × Int → Bool) (ps : List (Int × Int)) (i : Nat) : List Int := ((List.range i).filter fun j => (ps[j]?.map f).getD false).map fun j : Nat => (j : Int)
theorem sel_succ {f : Int × Int → Bool} {ps : List (Int × Int)} {i : Nat} {p : Int × Int} (h : ps[i]? = some p) : sel f ps (i + 1) = if f p = true then sel f ps i ++ [(i : Int)] else sel f ps i := by
  unfold sel
  rw [List.range_succ, List.filter_append, List.map_append]
  by_cases hf : f p = true
  · rw [if_pos hf]
    simp [h, hf]
  · rw [if_neg hf]
    simp [h, hf]
theorem sel_len (f : Int × Int → Bool) (ps : List (Int × Int)) (i : Nat) : (sel f ps i).length ≤ i := by
  unfold sel
  rw [List.length_map]
  refine Nat.le_trans (List.length_filter_le _ _) ?_
  simp
theorem psOf_at {us : Es} {i : Nat} {e : Addr × Int × Int} (h : us[i]? = some e) : (psOf us)[i]? = some e.2 := by
  unfold psOf
  rw [List.getElem?_map, h]
  rfl
theorem vsOf_get {us : Es} {i : Nat} {e : Addr × Int × Int} (h : us[i]? = some e) : (vsOf us)[i]? = some (.ref e.1) := by
  unfold vsOf
  rw [List.getElem?_map, h]
  rfl
def spEdge0 (C : Addr) : Sp := fun vs H Q _ => ∃ (g : Addr) (n : Int) (us : Es) (i : Nat) (e : Addr × Int × Int), vs = [.ref g, .int (i : Int)] ∧ GraphAt C H g n us ∧ us[i]? = some e ∧ Q (.ref e.1) H
def spEdgeX (C CO : Addr) : Sp := fun vs H _ E => ∃ (g : Addr) (n : Int) (us : Es) (i : Int), vs = [.ref g, .int i] ∧ GraphAt C H g n us ∧ ¬ (0 ≤ i ∧ i < (us.length : Int)) ∧ i.natAbs < 10 ^ 100 ∧ ∀ d, H d = none → E (.ref CO) (some d) (upd H d (.xd (erF "number" "outofrange" i)))
section
variable {P : Program} {w : World} {K : PySem.W.Frag} {mg : Str → Option Value} {base : Heap}
theorem scEdge : FnScope ["self", "number"] ["self", "number"] (defScope sEdge) := ⟨rfl, rfl, rfl, by decide +kernel, rfl, by decide +kernel, by decide +kernel⟩
theorem ok_edge0 {f C : Addr} {mc : Value} {fd : FuncData} {k : Nat} (F : Fun K "edge" "Graph.edge" sEdge f fd) (T : Bi mg) (G : GTxt K mg C mc) : FnOk P w K mg base CX0 (k + 1) f fd ["self", "number"] (spEdge0 C) := by
  refine F.ok scEdge (fun vs H Q E h => ?_) (fun cdv A outer s H vs Q E hr h => ?_)
  · obtain ⟨g, n, us, i, e, rfl, _⟩ := h
    rfl
  · obtain ⟨g, n, us, i, e, rfl, ⟨⟨dx, t, h1, h2⟩, ed⟩, hi, q⟩ := h
    refine ⟨_, pss_cons (ps_if (pt_not (pt_chain op_le op_lt pe_int (pv 1) (pe_callB call_len_seq (by rfl) T.len PySem.boot_len (pa_cons (pe_fld (pv 0) rfl) pa_nil)))) (pss_one ps_never) pss_nil)
      (pss_one (ps_ret (pe_ix ix_tup (pe_fld (pv 0) rfl) (pv 1) (fun _ _ => rfl)))), ?_⟩
    have hlt : i < us.length := (List.getElem?_eq_some_iff.mp hi).1
    refine ⟨_, rfl, _, _, rfl, rfl, _, rfl, if_t (decide_eq_true (by omega)) ⟨_, rfl, g, C, dx, _, _, rfl, h1, G.cl, G.nE, look_e _ _, t, _, rfl, .inr (SqT.of h2), _, _, rfl, rfl, _, rfl, if_f (by rw [vsOf_len, decide_eq_true (by omega)]; rfl) ?_⟩⟩
    exact ⟨_, rfl, g, C, dx, _, _, rfl, h1, G.cl, G.nE, look_e _ _, _, rfl, t, _, _, _, rfl, rfl, SqT.of h2, atI_nat (vsOf_get hi), q⟩
theorem ok_edgeX {f C CO : Addr} {mc : Value} {fd : FuncData} {k : Nat} (F : Fun K "edge" "Graph.edge" sEdge f fd) (T : Bi mg) (G : GTxt K mg C mc) (R : ErrIn P w K mg base "OutOfRange" CO "number" "outofrange") : FnOk P w K mg base (L2.CX P w) (k + 4) f fd ["self", "number"] (spEdgeX C CO) := by
  refine F.okX scEdge (fun vs H Q E h => ?_) (fun cdv A outer s H vs Q E hr h => ?_)
  · obtain ⟨g, n, us, i, rfl, _⟩ := h
    rfl
  · obtain ⟨g, n, us, i, rfl, ⟨⟨dx, t, h1, h2⟩, ed⟩, hi, hn, kE⟩ := h
    refine ⟨_, pss_cons (ps_if (pt_not (pt_chain op_le op_lt pe_int (pv 1) (pe_callB call_len_seq (by rfl) T.len PySem.boot_len (pa_cons (pe_fld (pv 0) rfl) pa_nil)))) (pss_one (ps_raiseE rfl (takes_of rfl rfl rfl rfl) R hr (by omega) (by rfl) (pa_cons (pv 1) pa_nil))) pss_nil)
      (pss_one ps_never), ?_⟩
    refine ⟨_, rfl, _, _, rfl, rfl, _, rfl, ?_⟩
    by_cases h0 : 0 ≤ i
    · refine if_t (decide_eq_true h0) ⟨_, rfl, g, C, dx, _, _, rfl, h1, G.cl, G.nE, look_e _ _, t, _, rfl, .inr (SqT.of h2), _, _, rfl, rfl, _, rfl, if_t (by rw [vsOf_len, decide_eq_false (by omega)]; rfl) ?_⟩
      exact ⟨_, rfl, er_tail hn kE⟩
    · refine if_f (decide_eq_false h0) ⟨_, rfl, if_t rfl ?_⟩
      exact ⟨_, rfl, er_tail hn kE⟩
end
end Lw

set_option Elab.async false
set_option linter.all false
/-! rows as sequences, and their normal form -/
namespace Lw
/-- the edge at a place -/
def sq (xs ys : List Int) (i : Nat) : Int := if i < xs.length then xs.getD i 0 else ys.getD ((i - xs.length) % ys.length) 0
def Per (s : Nat → Int) (m p : Nat) : Prop := ∀ i, m ≤ i → s i = s (i + p)
structure IsNF (s : Nat → Int) (m p : Nat) : Prop where
  p1 : 1 ≤ p
  per : Per s m p
  minp : ∀ m' p', 1 ≤ p' → Per s m' p' → p ≤ p'
  minm : ∀ m', Per s m' p → m ≤ m'
theorem IsNF.uniq {s : Nat → Int} {m p m' p' : Nat} (h : IsNF s m p) (h' : IsNF s m' p') : m = m' ∧ p = p' := by
  have e : p = p' := Nat.le_antisymm (h.minp m' p' h'.p1 h'.per) (h'.minp m p h.p1 h.per)
  subst e
  exact ⟨Nat.le_antisymm (h.minm m' h'.per) (h'.minm m h.per), rfl⟩
/-- the first n from m on -/
def seg (s : Nat → Int) (m n : Nat) : List Int := (List.range n).map fun k => s (m + k)
theorem seg_len (s : Nat → Int) (m n : Nat) : (seg s m n).length = n := by
  unfold seg
  simp
theorem seg_get (s : Nat → Int) (m n k : Nat) (h : k < n) : (seg s m n).getD k 0 = s (m + k) := by
  unfold seg
  simp [List.getD, h]
theorem seg_get? (s : Nat → Int) (m n k : Nat) (h : k < n) : (seg s m n)[k]? = some (s (m + k)) := by
  unfold seg
  simp [h]
theorem Per.mono {s : Nat → Int} {m m' p : Nat} (h : Per s m p) (hm : m ≤ m') : Per s m' p := fun i hi => h i (Nat.le_trans hm hi)
theorem Per.mul {s : Nat → Int} {m p : Nat} (h : Per s m p) : ∀ (k i : Nat), m ≤ i → s i = s (i + k * p)
  | 0, i, _ => by simp
  | k + 1, i, hi => by
    rw [h.mul k i hi, h (i + k * p) (by omega)]
    congr 1
    rw [Nat.succ_mul]
    omega
/-- the tail of a row is periodic -/
theorem sq_per (xs ys : List Int) (hy : ys ≠ []) : Per (sq xs ys) xs.length ys.length := fun i hi => by
  have h0 : 0 < ys.length := List.length_pos_iff.mpr hy
  unfold sq
  rw [if_neg (by omega), if_neg (by omega), show i + ys.length - xs.length = (i - xs.length) + ys.length by omega, Nat.add_mod_right]
/-- two places behind m that differ by a multiple of p -/
theorem Per.cong {s : Nat → Int} {m p : Nat} (h : Per s m p) (hp : 0 < p) {i j : Nat} (hi : m ≤ i) (hj : m ≤ j) (e : i % p = j % p) : s i = s j := by
  rcases Nat.le_total i j with hij | hij
  · have : j = i + ((j - i) / p) * p := by
      have h1 : (j - i) % p = 0 := Nat.sub_mod_eq_zero_of_mod_eq e.symm
      have h2 := Nat.div_add_mod (j - i) p
      rw [h1, Nat.mul_comm] at h2
      omega
    rw [this]
    exact h.mul _ i hi
  · have : i = j + ((i - j) / p) * p := by
      have h1 : (i - j) % p = 0 := Nat.sub_mod_eq_zero_of_mod_eq e
      have h2 := Nat.div_add_mod (i - j) p
      rw [h1, Nat.mul_comm] at h2
      omega
    rw [this]
    exact (h.mul _ j hj).symm
/-- a period that holds somewhere holds from where the row repeats -/
theorem Per.back {s : Nat → Int} {h n m p : Nat} (t : Per s h n) (hn : 0 < n) (q : Per s m p) : Per s h p := fun i hi => by
  have e1 := t.mul m i hi
  have e2 := t.mul m (i + p) (by omega)
  have hm : m ≤ i + m * n := by
    have : m ≤ m * n := Nat.le_mul_of_pos_right m hn
    omega
  rw [e1, e2, q (i + m * n) hm]
  congr 1
  omega
/-- the least period divides every period of the tail -/
theorem least_dvd {s : Nat → Int} {h n p : Nat} (t : Per s h n) (q : Per s h p) (hp : 0 < p) (hmin : ∀ p', 1 ≤ p' → Per s h p' → p ≤ p') : n % p = 0 := by
  by_cases hz : n % p = 0
  · exact hz
  · exfalso
    have hr : Per s h (n % p) := fun i hi => by
      have e1 := q.mul (n / p) (i + n % p) (by omega)
      have e2 := Nat.div_add_mod n p
      rw [e1, t i hi]
      congr 1
      rw [Nat.mul_comm] at e2
      omega
    have := hmin (n % p) (by omega) hr
    have := Nat.mod_lt n hp
    omega
/-- a least period and a least beginning give the normal form -/
theorem nf_of {s : Nat → Int} {h n m p : Nat} (t : Per s h n) (hn : 0 < n) (hp : 1 ≤ p) (hmin : ∀ p', 1 ≤ p' → Per s h p' → p ≤ p') (q : Per s m p) (hm : ∀ m', Per s m' p → m ≤ m') : IsNF s m p :=
  ⟨hp, q, fun m' p' h1 q' => hmin p' h1 (t.back hn q'), hm⟩
/-- the row of a normal form is the same row -/
theorem sq_seg {s : Nat → Int} {m p : Nat} (hp : 0 < p) (q : Per s m p) : sq (seg s 0 m) (seg s m p) = s := by
  funext i
  unfold sq
  rw [seg_len, seg_len]
  by_cases hi : i < m
  · rw [if_pos hi, seg_get s 0 m i hi, Nat.zero_add]
  · rw [if_neg hi, seg_get s m p _ (Nat.mod_lt _ hp)]
    refine q.cong hp (Nat.le_add_right _ _) (by omega) ?_
    rw [Nat.add_mod, Nat.mod_mod, ← Nat.add_mod, show m + (i - m) = i by omega]
/-- the tail's period, seen in a window of one turn -/
theorem per_window {s : Nat → Int} {h n p a b : Nat} (t : Per s h n) (hn : 0 < n) (ha : a ≤ h) (hb : h + n ≤ b) (w : ∀ i, a ≤ i → i < b → s i = s (i + p)) : Per s a p := fun i hi => by
  by_cases hlt : i < b
  · exact w i hi hlt
  · have hlo : h + (i - h) % n < b := by
      have := Nat.mod_lt (i - h) hn
      omega
    have e1 : s i = s (h + (i - h) % n) := t.cong hn (by omega) (by omega) (by
      rw [Nat.add_mod h ((i - h) % n), Nat.mod_mod, ← Nat.add_mod, show h + (i - h) = i by omega])
    have e2 : s (i + p) = s (h + (i - h) % n + p) := t.cong hn (by omega) (by omega) (by
      have e : (h + (i - h) % n) % n = i % n := by
        rw [Nat.add_mod h ((i - h) % n), Nat.mod_mod, ← Nat.add_mod, show h + (i - h) = i by omega]
      rw [Nat.add_mod i p, Nat.add_mod (h + (i - h) % n) p, e])
    rw [e1, e2]
    exact w _ (by omega) hlo
end Lw

set_option Elab.async false
set_option linter.all false
set_option maxRecDepth 100000
/-! tuples of ints, rows -/
namespace Lw
open PySem L2
/-! ### tuples of ints -/
def TI (H : Hp) (a : Addr) (xs : List Int) : Prop := H a = some (.tup (xs.map V.int))
theorem TI.same {H H' : Hp} {a : Addr} {xs : List Int} (h : TI H a xs) (s : Same H H') : TI H' a xs := s _ _ h
section
variable {K : PySem.W.Frag}
theorem slA {H : Hp} {a : Addr} {xs : List V} {lo hi : Option Int} {Q : VK} (h : H a = some (.tup xs)) (q : ∀ r H', Same H H' → H' r = some (.tup (cutV xs lo hi)) → Q (.ref r) H') : rSlA K (.ref a) lo hi H Q := by
  refine ⟨a, xs, rfl, SqT.of h, fun z => q a H (fun _ _ e => e) ?_, fun _ p hp => q p _ (same_upd hp) upd_same⟩
  rw [h]
  unfold cutV
  rw [z.1, z.2]
  simp
theorem catA {H : Hp} {a b : Addr} {xs ys : List V} {Q : VK} (h : H a = some (.tup xs)) (h2 : H b = some (.tup ys)) (hl : xs.length + ys.length ≤ 1000) (q : ∀ r H', Same H H' → H' r = some (.tup (xs ++ ys)) → Q (.ref r) H') : rCatA K (.ref a) (.ref b) H Q := by
  refine ⟨a, b, xs, ys, rfl, rfl, SqT.of h, SqT.of h2, Nat.le_of_lt (small1000 hl), fun z => q b H (fun _ _ e => e) ?_, fun _ z => q a H (fun _ _ e => e) ?_, fun _ _ p hp => q p _ (same_upd hp) upd_same⟩
  · rw [h2, z]
    rfl
  · rw [h, z, List.append_nil]
theorem cut_lo' {xs : List V} {k : Nat} (h : k ≤ xs.length) : cutV xs none (some (k : Int)) = xs.take k := by
  unfold cutV
  rw [HT.sIx_none, HT.sIx_nat, Nat.min_eq_left h]
  simp
theorem cut_hi' {xs : List V} {k : Nat} (h : k ≤ xs.length) : cutV xs (some (k : Int)) none = xs.drop k := by
  unfold cutV
  rw [HT.sIx_none, HT.sIx_nat, Nat.min_eq_left h]
  rw [List.take_of_length_le]
  rw [List.length_drop]
  exact Nat.le_refl _
end
def rot (ys : List Int) (j : Nat) : List Int := ys.drop j ++ ys.take j
theorem dp_ints {K : PySem.W.Frag} {H : Hp} : ∀ xs : List Int, DpAll K H (xs.map V.int) (xs.map PyData.int)
  | [] => .nil
  | x :: xs => .cons (.int x) (dp_ints xs)
theorem eqv_ints : ∀ xs ys : List Int, PyData.eqvAll (xs.map PyData.int) (ys.map PyData.int) = decide (xs = ys)
  | [], [] => rfl
  | [], _ :: _ => rfl
  | _ :: _, [] => rfl
  | x :: xs, y :: ys => by
    show ((x == y) && PyData.eqvAll (xs.map PyData.int) (ys.map PyData.int)) = decide (x :: xs = y :: ys)
    rw [eqv_ints xs ys]
    by_cases h : x = y <;> by_cases h2 : xs = ys <;> simp [h, h2]
theorem lay_ints : ∀ xs : List Int, PyData.canLayAll0 (xs.map PyData.int) = true
  | [] => rfl
  | x :: xs => by
    show (true && PyData.canLayAll0 (xs.map PyData.int)) = true
    rw [lay_ints xs]
    rfl
theorem dep_ints : ∀ xs : List Int, PyData.depthAll (xs.map PyData.int) = 0
  | [] => rfl
  | x :: xs => by
    show max 0 (PyData.depthAll (xs.map PyData.int)) = 0
    rw [dep_ints xs]
    rfl
theorem sh_ints (xs : List Int) : SeqAt.shaped (.tuple (xs.map PyData.int)) = true := by
  show (PyData.canLayAll0 (xs.map PyData.int) && decide (PyData.depthAll (xs.map PyData.int) + 1 ≤ 64)) = true
  rw [lay_ints, dep_ints]
  rfl
/-! ### rows -/
def RowAt (H : Hp) (r : Addr) (xs ys : List Int) : Prop := ∃ h c, H r = some (.tup [.ref h, .ref c]) ∧ TI H h xs ∧ TI H c ys
theorem RowAt.same {H H' : Hp} {r : Addr} {xs ys : List Int} (h : RowAt H r xs ys) (s : Same H H') : RowAt H' r xs ys := by
  obtain ⟨a, c, h1, h2, h3⟩ := h
  exact ⟨a, c, s _ _ h1, h2.same s, h3.same s⟩
theorem int_at {xs : List Int} {j : Nat} (h : j < xs.length) : atI (xs.map V.int) (j : Int) = some (.int (xs.getD j 0)) := by
  refine atI_nat ?_
  rw [List.getElem?_map, List.getElem?_eq_getElem h]
  simp [List.getD, h]
theorem TI.keep {H H' : Hp} {b l a : Addr} {ns xs : List Int} (h : TI H a xs) (B : BagAt H b l ns) (k : KeepB b H H') : TI H' a xs := k _ _ (B.ne_tup h) h
theorem RowAt.keep {H H' : Hp} {b l r : Addr} {ns xs ys : List Int} (h : RowAt H r xs ys) (B : BagAt H b l ns) (k : KeepB b H H') : RowAt H' r xs ys := by
  obtain ⟨a, c, h1, h2, h3⟩ := h
  exact ⟨a, c, k _ _ (B.ne_tup h1) h1, h2.keep B k, h3.keep B k⟩
end Lw

set_option Elab.async false
set_option linter.all false
set_option maxRecDepth 100000
/-! a tuple times 1 is the tuple itself -/
namespace Lw
open PySem PySem.Spec PyProof.Rows L2
open AutoSeq1 (wpAny_loadPart')
theorem mul_one (l : Addr) (items : Array Value) (n : Nat) (dd : Option Addr) (sl : Array (Option Value)) (u : Tok) :
    Meets (Builtin.«tuple.__mul__» ⟨[.ref l, .int 1 u], []⟩) (fun _ R s => s.heap.get? l = some { cls := .type "tuple", dict := dd, data := .seq items n, slots := sl } ∧ R (.ok (.ret (Value.ref l))) s) :=
  .of_wp fun prog w A R s h => by
    obtain ⟨hp, g, d, tk, os⟩ := s
    obtain ⟨hl, h⟩ := h
    have f1 := AutoSeq1.idx_int
    wp_walk using wpAny_loadPart' hl
    exact ⟨_, rfl, h⟩
section
variable {X : Cx}
def rRepA (K : PySem.W.Frag) : R2 := fun x y H Q => ∃ l k xs, x = .ref l ∧ y = .int k ∧ SqT K H l xs ∧ xs ≠ [] ∧ 1 ≤ k ∧ k ≤ 1000 ∧ xs.length ≤ 1000 ∧ (k = 1 → Q (.ref l) H) ∧ (2 ≤ k → ∀ p, H p = none → Q (.ref p) (upd H p (.tup (List.replicate k.toNat xs).flatten)))
theorem op_repA : OpR X (binaryOp .Mult) (rRepA X.K) := by
  intro pins s σ H x y v u Q I rx ry h
  obtain ⟨l, k, xs, rfl, rfl, hT, hne, h1, h2, hz, q1, q2⟩ := h
  by_cases hk : k = 1
  · subst hk
    cases rx
    obtain ⟨t, rfl⟩ := ry
    obtain ⟨its, r, ⟨⟨cls, dd, data, sl⟩, ho, hc, n, hd⟩, hs⟩ := I.tuple hT
    simp only at hc hd
    subst hc hd
    exact wpAny_binaryOp_repeat_ref (T := "tuple") (U := "int") (by decide) ⟨_, ho, rfl⟩ (fun s' => typeIs_int s' 1 t) noFill_tuple_mul PySem.F.fills_int_mul PySem.F.slot_int_rmul repeat_tuple PySem.F.slot_int_index.lookup
      (call_meets PySem.F.slot_int_rmul (typeIs_int s 1 t) PySem.F.entry_int_rmul (PySem.F.args_int_rmul_2 _ _) (int_rmul_tuple 1 t l its.toArray n dd sl)
        ⟨ho, rfl, ⟨_, ho, rfl⟩, call_meets PySem.F.slot_tuple_mul ⟨_, ho, rfl⟩ PySem.F.entry_tuple_mul (PySem.F.args_tuple_mul_2 _ _) (mul_one l its.toArray n dd sl t) ⟨ho, .ref l, H, I, rfl, q1 rfl⟩⟩)
  · exact op_repT pins s σ H _ _ v u Q I rx ry ⟨l, k, xs, rfl, rfl, hT, hne, by omega, h2, hz, q2 (by omega)⟩
end
end Lw

set_option Elab.async false
set_option linter.all false
set_option maxRecDepth 100000
namespace Lw
open PySem L2
abbrev sLEdge : Stmt := top 33
abbrev sLFirst : Stmt := top 34
abbrev sUnr : Stmt := top 36
def spLEdge : Sp := fun vs H Q _ => ∃ (r : Addr) (xs ys : List Int) (p : Int), vs = [.ref r, .int p] ∧ RowAt H r xs ys ∧ ys ≠ [] ∧ 0 ≤ p ∧ Q (.int (sq xs ys p.toNat)) H
def spLFirst : Sp := fun vs H Q _ => ∃ (r : Addr) (xs ys : List Int) (n : Nat), vs = [.ref r, .int (n : Int)] ∧ RowAt H r xs ys ∧ ys ≠ [] ∧ n ≤ 500 ∧ ∀ t H', Same H H' → TI H' t (seg (sq xs ys) 0 n) → Q (.ref t) H'
section
variable {P : Program} {w : World} {K : PySem.W.Frag} {mg : Str → Option Value} {base : Heap}
theorem len_pos' {ys : List Int} (h : ys ≠ []) : 0 < ys.length := List.length_pos_iff.mpr h
/-- the place in the cycle -/
theorem cyc_at {xs ys : List Int} {p : Int} (hy : ys ≠ []) (h0 : 0 ≤ p) (h : ¬ p < (xs.length : Int)) :
    atI (ys.map V.int) ((p - ((xs.map V.int).length : Int)) % ((ys.map V.int).length : Int)) = some (.int (sq xs ys p.toNat)) := by
  have hl := len_pos' hy
  rw [List.length_map, List.length_map]
  have e1 : p = ((p.toNat : Nat) : Int) := (Int.toNat_of_nonneg h0).symm
  have e2 : (p - (xs.length : Int)) % (ys.length : Int) = (((p.toNat - xs.length) % ys.length : Nat) : Int) := by
    rw [show p - (xs.length : Int) = ((p.toNat - xs.length : Nat) : Int) by omega]
    rfl
  rw [e2, int_at (Nat.mod_lt _ hl)]
  unfold sq
  rw [if_neg (by omega)]
theorem head_at {xs ys : List Int} {p : Int} (h0 : 0 ≤ p) (h : p < (xs.length : Int)) : atI (xs.map V.int) p = some (.int (sq xs ys p.toNat)) := by
  have e1 : p = ((p.toNat : Nat) : Int) := (Int.toNat_of_nonneg h0).symm
  rw [e1, int_at (by omega), Int.toNat_natCast]
  unfold sq
  rw [if_pos (by omega)]
/-! ### _law_edge, _law_first -/
theorem scLEdge : FnScope ["_law_row_here", "_law_at", "_law_head", "_law_cycle"] ["_law_row_here", "_law_at"] (defScope sLEdge) := ⟨rfl, rfl, rfl, by decide +kernel, rfl, by decide +kernel, by decide +kernel⟩
theorem ok_ledge {f : Addr} {fd : FuncData} {k : Nat} (F : Fun K "_law_edge" "_law_edge" sLEdge f fd) (T : Bi mg) : FnOk P w K mg base CX0 (k + 1) f fd ["_law_row_here", "_law_at"] spLEdge := by
  refine F.ok scLEdge (fun vs H Q E h => ?_) (fun cdv A outer s H vs Q E hr h => ?_)
  · obtain ⟨r, xs, ys, p, rfl, _⟩ := h
    rfl
  · obtain ⟨r, xs, ys, p, rfl, ⟨h, c, hrow, hh, hc⟩, hy, h0, kQ⟩ := h
    have hl := len_pos' hy
    refine ⟨_, pss_cons (ps_asg (pv 0) (pg_tup rfl (pgs_cons (pg_name (i := 2) scLEdge.nd rfl (Or.inl rfl)) (pgs_cons (pg_name (i := 3) scLEdge.nd rfl (Or.inl rfl)) pgs_nil))))
      (pss_one (ps_ret (pe_ifExp (pt_cmpR op_lt (pv 1) (pe_callB call_len_seq (by rfl) T.len PySem.boot_len (pa_cons (pv 2) pa_nil)) (nomark _)) (pe_ix ix_tup (pv 2) (pv 1) (fun _ _ => rfl))
        (pe_ix ix_tup (pv 3) (pe_op op_mod (pe_op op_sub (pv 1) (pe_callB call_len_seq (by rfl) T.len PySem.boot_len (pa_cons (pv 2) pa_nil))) (pe_callB call_len_seq (by rfl) T.len PySem.boot_len (pa_cons (pv 3) pa_nil))) (fun _ _ => rfl))))), ?_⟩
    refine ⟨_, rfl, r, _, rfl, SqT.of hrow, rfl, _, _, rfl, _, _, rfl, rfl, ?_⟩
    refine ⟨_, rfl, _, rfl, h, _, rfl, .inr (SqT.of hh), _, _, rfl, rfl, _, rfl, ?_⟩
    by_cases hlt : p < (xs.length : Int)
    · refine if_t (decide_eq_true (by rw [List.length_map]; exact hlt)) ?_
      exact ⟨_, rfl, _, rfl, h, _, _, _, rfl, rfl, SqT.of hh, head_at h0 hlt, kQ⟩
    · refine if_f (decide_eq_false (by rw [List.length_map]; exact hlt)) ?_
      exact ⟨_, rfl, _, rfl, _, rfl, h, _, rfl, .inr (SqT.of hh), _, _, rfl, rfl, _, rfl, c, _, rfl, .inr (SqT.of hc), _, _, rfl, rfl, (by show (0 : Int) < ((ys.map V.int).length : Int); rw [List.length_map]; omega), c, _, _, _, rfl, rfl, SqT.of hc, cyc_at hy h0 hlt, kQ⟩
theorem scLFirst : FnScope ["_law_row_here", "_law_size", "_law_at"] ["_law_row_here", "_law_size"] (defScope sLFirst) := ⟨rfl, rfl, rfl, by decide +kernel, rfl, by decide +kernel, by decide +kernel⟩
theorem seg_succ (s : Nat → Int) (m n : Nat) : seg s m (n + 1) = seg s m n ++ [s (m + n)] := by
  unfold seg
  rw [List.range_succ, List.map_append]
  rfl
set_option maxHeartbeats 4000000 in
theorem ok_lfirst {f : Addr} {fd : FuncData} {k : Nat} (F : Fun K "_law_first" "_law_first" sLFirst f fd) (T : Bi mg) (cE : C8.Cal P w K mg base 1 "_law_edge" spLEdge []) : FnOk P w K mg base CX0 (k + 2) f fd ["_law_row_here", "_law_size"] spLFirst := by
  refine F.ok scLFirst (fun vs H Q E h => ?_) (fun cdv A outer s H vs Q E hr h => ?_)
  · obtain ⟨r, xs, ys, n, rfl, _⟩ := h
    rfl
  · obtain ⟨r, xs, ys, n, rfl, hrow, hy, hn, q⟩ := h
    refine ⟨_, pss_one (ps_ret (pe_callTy call_tuple_of (by rfl) T.tuple (by decide +kernel) (pa_cons
        (pe_lc (own := [("_law_at", 2)]) (g := gName 2) (tt := tYes) (te := tCall spLEdge [] E0 (tCons (tVar 0) (tCons (tVar 2) tNil))) rfl scLFirst.nd (pi_range1 (by rfl) T.range (pa_cons (pv 1) pa_nil))
          (blkOk_by (N := ["_law_row_here", "_law_size", "_law_at"]) (sc := defScope sLFirst) (by decide +kernel))
          (fun _ _ _ _ _ => by exact pg_name (i := 2) scLFirst.nd rfl (Or.inl rfl))
          (fun _ _ _ _ _ => pts_nil)
          (fun _ _ _ _ _ => by exact C8.pe_c cE hr (Nat.le_add_left 1 k) (by rfl) (pa_cons (pv 0) (pa_cons (pv 2) pa_nil)))) pa_nil))), ?_⟩
    refine ⟨_, rfl, (n : Int), rfl, by omega, by omega, fun D hD => ?_⟩
    refine lc_it (walk_range (lo := 0) (n := ((n : Int)).toNat)) (fun i H' => Same H H' ∧ H' D = some (.lst ((seg (sq xs ys) 0 i).map V.int))) ⟨same_upd hD, upd_same⟩ (fun _ _ _ _ => True.intro) ?_ ?_
    · rintro i x H1 H' hi ⟨sm, eD⟩ ⟨rfl, rfl⟩
      refine ⟨rfl, ?_⟩
      refine ⟨_, rfl, _, rfl, r, xs, ys, _, rfl, hrow.same sm, hy, (by show (0 : Int) ≤ 0 + (i : Int); omega), _, eD, ?_, ?_, ?_⟩
      · rw [List.length_map, seg_len]
        exact small1000 (by omega)
      · intro b o e
        rw [upd_ne (ne_of_none e hD)]
        exact sm _ _ e
      · rw [upd_same, seg_succ, List.map_append]
        show _ = some (HO.lst (_ ++ [V.int (sq xs ys (0 + i))]))
        rw [show (0 + (i : Int)).toNat = 0 + i by omega]
    · rintro H1 ⟨sm, eD⟩
      refine ⟨D, _, rfl, .inl ⟨SqL.of eD, fun t ht => ?_⟩⟩
      refine q t _ (sm.trans (same_upd ht)) ?_
      unfold TI
      rw [upd_same]
      rfl
end
/-! ### other forms of a row -/
theorem rep_get (l : List Int) (hl : 0 < l.length) : ∀ (k t : Nat), t < k * l.length → ((List.replicate k l).flatten).getD t 0 = l.getD (t % l.length) 0
  | 0, t, h => by simp at h
  | k + 1, t, h => by
    rw [List.replicate_succ, List.flatten_cons]
    by_cases ht : t < l.length
    · rw [Nat.mod_eq_of_lt ht]
      simp [List.getD, List.getElem?_append_left ht]
    · have e : t % l.length = (t - l.length) % l.length := by
        conv => lhs; rw [show t = (t - l.length) + l.length by omega, Nat.add_mod_right]
      rw [e, ← rep_get l hl k (t - l.length) (by rw [Nat.succ_mul] at h; omega)]
      simp [List.getD, List.getElem?_append_right (Nat.le_of_not_lt ht)]
theorem rot_len (ys : List Int) (t : Nat) : (rot ys t).length = ys.length := by
  simp only [rot, List.length_append, List.length_drop, List.length_take]
  omega
theorem rot_get {ys : List Int} {t j : Nat} (ht : t < ys.length) (hj : j < ys.length) : (rot ys t).getD j 0 = ys.getD ((t + j) % ys.length) 0 := by
  unfold rot
  by_cases c : j < ys.length - t
  · rw [Nat.mod_eq_of_lt (by omega)]
    simp only [List.getD]
    rw [List.getElem?_append_left (by rw [List.length_drop]; omega), List.getElem?_drop]
  · have e3 : (t + j) % ys.length = j - (ys.length - t) := by
      rw [show t + j = (j - (ys.length - t)) + ys.length by omega, Nat.add_mod_right, Nat.mod_eq_of_lt (by omega)]
    rw [e3]
    simp only [List.getD]
    rw [List.getElem?_append_right (by rw [List.length_drop]; omega), List.length_drop, List.getElem?_take_of_lt (by omega)]
theorem rep_len (l : List Int) (k : Nat) : ((List.replicate k l).flatten).length = k * l.length := by
  rw [List.length_flatten, List.map_replicate, List.sum_replicate_nat]
theorem sq_unr {xs ys : List Int} {more k : Nat} (hy : ys ≠ []) (hk : 1 ≤ k) : sq (xs ++ seg (sq [] ys) 0 more) ((List.replicate k (rot ys (more % ys.length))).flatten) = sq xs ys := by
  have hn := len_pos' hy
  funext i
  have hl : (xs ++ seg (sq [] ys) 0 more).length = xs.length + more := by rw [List.length_append, seg_len]
  have e : sq (xs ++ seg (sq [] ys) 0 more) ((List.replicate k (rot ys (more % ys.length))).flatten) i = if i < xs.length + more then (xs ++ seg (sq [] ys) 0 more).getD i 0 else ((List.replicate k (rot ys (more % ys.length))).flatten).getD ((i - (xs.length + more)) % (k * ys.length)) 0 := by
    show (if i < (xs ++ seg (sq [] ys) 0 more).length then (xs ++ seg (sq [] ys) 0 more).getD i 0 else ((List.replicate k (rot ys (more % ys.length))).flatten).getD ((i - (xs ++ seg (sq [] ys) 0 more).length) % ((List.replicate k (rot ys (more % ys.length))).flatten).length) 0) = _
    rw [hl, rep_len, rot_len]
  rw [e]
  by_cases h1 : i < xs.length
  · rw [if_pos (by omega)]
    have e2 : sq xs ys i = xs.getD i 0 := by
      unfold sq
      rw [if_pos h1]
    rw [e2]
    simp only [List.getD]
    rw [List.getElem?_append_left h1]
  · have e2 : sq xs ys i = ys.getD ((i - xs.length) % ys.length) 0 := by
      unfold sq
      rw [if_neg h1]
    rw [e2]
    by_cases h2 : i < xs.length + more
    · rw [if_pos h2]
      simp only [List.getD]
      rw [List.getElem?_append_right (by omega), seg_get? _ _ _ _ (by omega)]
      show sq [] ys (0 + (i - xs.length)) = _
      unfold sq
      simp [List.getD]
    · rw [if_neg h2]
      have hm := Nat.mod_lt (i - (xs.length + more)) (show 0 < k * ys.length from Nat.mul_pos hk hn)
      rw [rep_get _ (by rw [rot_len]; exact hn) _ _ (by rw [rot_len]; exact hm), rot_len, Nat.mod_mul_left_mod, rot_get (Nat.mod_lt _ hn) (Nat.mod_lt _ hn), ← Nat.add_mod]
      congr 2
      omega
def spUnr : Sp := fun vs H Q _ => ∃ (b l r : Addr) (ns xs ys : List Int), vs = [.ref b, .ref r] ∧ BagAt H b l ns ∧ RowAt H r xs ys ∧ ys ≠ [] ∧ xs.length ≤ 100 ∧ ys.length ≤ 100 ∧
  ∀ (r' : Addr) (H' : Hp) (xs' ys' : List Int), KeepB b H H' → BagAt H' b l ns → RowAt H' r' xs' ys' → sq xs' ys' = sq xs ys → ys' ≠ [] → xs'.length ≤ 200 → ys'.length ≤ 300 → Q (.ref r') H'
section
variable {P : Program} {w : World} {K : PySem.W.Frag} {mg : Str → Option Value} {base : Heap}
theorem scUnr : FnScope ["_law_bag_here", "_law_row_here", "_law_head", "_law_cycle", "_law_more", "_law_turn"] ["_law_bag_here", "_law_row_here"] (defScope sUnr) := ⟨rfl, rfl, rfl, by decide +kernel, rfl, by decide +kernel, by decide +kernel⟩
set_option maxHeartbeats 4000000 in
theorem ok_unr {f : Addr} {fd : FuncData} {k : Nat} (F : Fun K "_law_unrolled" "_law_unrolled" sUnr f fd) (T : Bi mg) (cP : C8.Cal P w K mg base 1 "_law_pull" spPull []) (cF : C8.Cal P w K mg base 2 "_law_first" spLFirst []) : FnOk P w K mg base CX0 (k + 3) f fd ["_law_bag_here", "_law_row_here"] spUnr := by
  refine F.ok scUnr (fun vs H Q E h => ?_) (fun cdv A outer s H vs Q E hr h => ?_)
  · obtain ⟨b, l, r, ns, xs, ys, rfl, _⟩ := h
    rfl
  · obtain ⟨b, l, r, ns, xs, ys, rfl, B, ⟨h, c, hrow, hh, hc⟩, hy, hlx, hly, q⟩ := h
    have hn := len_pos' hy
    refine ⟨_, pss_cons (ps_asg (pv 1) (pg_tup rfl (pgs_cons (pg_name (i := 2) scUnr.nd rfl (Or.inl rfl)) (pgs_cons (pg_name (i := 3) scUnr.nd rfl (Or.inl rfl)) pgs_nil))))
      (pss_cons (ps_set (i := 4) scUnr.nd rfl (Or.inl rfl) (C8.pe_c cP hr (by omega) (by rfl) (pa_cons (pv 0) (pa_cons pe_int pa_nil))))
      (pss_cons (ps_set (i := 2) scUnr.nd rfl (Or.inl rfl) (pe_op op_catA (pv 2) (C8.pe_c cF hr (by omega) (by rfl) (pa_cons (pe_tup (pa_cons (pe_tup pa_nil) (pa_cons (pv 3) pa_nil))) (pa_cons (pv 4) pa_nil)))))
      (pss_cons (ps_set (i := 5) scUnr.nd rfl (Or.inl rfl) (pe_op op_mod (pv 4) (pe_callB call_len_seq (by rfl) T.len PySem.boot_len (pa_cons (pv 3) pa_nil))))
      (pss_one (ps_ret (pe_tup (pa_cons (pv 2) (pa_cons (pe_op op_repA (pe_op op_catA (pe_slice sl_tupA (pv 3) (po_some (pv 5)) po_none) (pe_slice sl_tupA (pv 3) po_none (po_some (pv 5)))) (pe_op op_add pe_int (C8.pe_c cP hr (by omega) (by rfl) (pa_cons (pv 0) (pa_cons pe_int pa_nil))))) pa_nil)))))))), ?_⟩
    refine ⟨_, rfl, r, _, rfl, SqT.of hrow, rfl, _, _, rfl, _, _, rfl, rfl, ?_⟩
    refine ⟨_, rfl, b, l, ns, 3, rfl, B, by decide, by decide, fun v o v0 v1 BO => ?_⟩
    obtain ⟨more, rfl⟩ : ∃ more : Nat, v = (more : Int) := ⟨v.toNat, (Int.toNat_of_nonneg v0).symm⟩
    have B1 := B.upd BO
    have k1 : KeepB b H (upd H b o) := .updb
    have hh1 := hh.keep B k1
    have hc1 := hc.keep B k1
    generalize upd H b o = H1 at *
    -- head + first(((), cycle), more)
    refine ⟨_, rfl, (by show 0 ≤ sizeLine; decide), fun e0 he0 => ?_⟩
    have s2 := same_upd (o := .tup []) he0
    have e2 : upd H1 e0 (.tup []) e0 = some (.tup []) := upd_same
    generalize upd H1 e0 (.tup []) = H2 at *
    refine ⟨_, rfl, (by show 2 ≤ sizeLine; decide), fun rr hrr => ?_⟩
    have s3 := same_upd (o := .tup [.ref e0, .ref c]) hrr
    have e3 : upd H2 rr (.tup [.ref e0, .ref c]) rr = some (.tup [.ref e0, .ref c]) := upd_same
    generalize upd H2 rr (.tup [.ref e0, .ref c]) = H3 at *
    have s23 := s2.trans s3
    refine ⟨_, rfl, rr, [], ys, more, rfl, ⟨e0, c, e3, s3 _ _ e2, hc1.same s23⟩, hy, by omega, fun t H4 s4 ht => ?_⟩
    have s234 := s23.trans s4
    refine catA (hh1.same s234) ht (by rw [List.length_map, List.length_map, seg_len]; omega) fun h5 H5 s5 e5 => ?_
    have s5' := s234.trans s5
    have hd5 : TI H5 h5 (xs ++ seg (sq [] ys) 0 more) := by
      unfold TI
      rw [e5, List.map_append]
    have c5 := hc1.same s5'
    have B5 := B1.same s5'
    -- turn
    refine ⟨_, rfl, _, rfl, c, _, rfl, .inr (SqT.of c5), _, _, rfl, rfl, (by show (0 : Int) < ((ys.map V.int).length : Int); rw [List.length_map]; omega), ?_⟩
    have ej : (more : Int) % ((ys.map V.int).length : Int) = ((more % ys.length : Nat) : Int) := by
      rw [List.length_map]
      rfl
    have htl := Nat.mod_lt more hn
    have jl : more % ys.length ≤ (ys.map V.int).length := by
      rw [List.length_map]
      omega
    refine ⟨_, rfl, _, rfl, _, rfl, _, rfl, ?_⟩
    dsimp only [tNoPart]
    refine slA c5 fun r1 H6 s6 h6 => ?_
    refine ⟨_, rfl, _, rfl, _, rfl, slA (c5.same s6) fun r2 H7 s7 h7 => ?_⟩
    have h6' : H6 r1 = some (.tup ((ys.drop (more % ys.length)).map V.int)) := by
      rw [h6, ej, cut_hi' jl, List.map_drop]
    have h7' : H7 r2 = some (.tup ((ys.take (more % ys.length)).map V.int)) := by
      rw [h7, ej, cut_lo' jl, List.map_take]
    refine catA (s7 _ _ h6') h7' (by simp; omega) fun r3 H8 s8 h8 => ?_
    have h8' : TI H8 r3 (rot ys (more % ys.length)) := by
      unfold TI rot
      rw [h8, List.map_append]
    have s8' := (s6.trans s7).trans s8
    have B8 := B5.same s8'
    refine ⟨_, rfl, b, l, ns, 2, rfl, B8, by decide, by decide, fun v2 o2 v20 v21 BO2 => ?_⟩
    have B9 := B8.upd BO2
    have k9 : KeepB b H8 (upd H8 b o2) := .updb
    have h9 := h8'.keep B8 k9
    have hd9 := (hd5.same s8').keep B8 k9
    have kk : KeepB b H (upd H8 b o2) := (k1.trans (.of_same (s5'.trans s8'))).trans k9
    generalize upd H8 b o2 = H9 at *
    have rne : rot ys (more % ys.length) ≠ [] := fun z => by
      have := congrArg List.length z
      rw [rot_len] at this
      have h0 : ([] : List Int).length = 0 := rfl
      omega
    have fin : ∀ (r4 : Addr) (H10 : Hp) (kq : Nat), 1 ≤ kq → kq ≤ 2 → Same H9 H10 → TI H10 r4 ((List.replicate kq (rot ys (more % ys.length))).flatten) → [V.ref h5, V.ref r4].length ≤ sizeLine ∧ ∀ p, H10 p = none → Q (.ref p) (upd H10 p (.tup [.ref h5, .ref r4])) := fun r4 H10 kq a1 a2 s10 e10 => by
      refine ⟨(by show 2 ≤ sizeLine; decide), fun p hp => ?_⟩
      have s11 := same_upd (o := .tup [.ref h5, .ref r4]) hp
      have ll : ((List.replicate kq (rot ys (more % ys.length))).flatten).length = kq * ys.length := by rw [rep_len, rot_len]
      have l2 : kq * ys.length ≤ 2 * 100 := Nat.mul_le_mul a2 hly
      have l1 : 1 * ys.length ≤ kq * ys.length := Nat.mul_le_mul_right _ a1
      refine q p _ _ _ (kk.trans (.of_same (s10.trans s11))) (B9.same (s10.trans s11)) ⟨h5, r4, upd_same, (hd9.same s10).same s11, TI.same e10 s11⟩ (sq_unr hy a1) (fun z => ?_) (by rw [List.length_append, seg_len]; omega) (by rw [ll]; omega)
      have := congrArg List.length z
      rw [ll] at this
      have h0 : ([] : List Int).length = 0 := rfl
      omega
    refine ⟨_, _, rfl, rfl, r3, 1 + v2, _, rfl, rfl, SqT.of h9, ?_, by omega, by omega, by rw [List.length_map, rot_len]; omega, fun hk1 => ?_, fun hk2 p hp => ?_⟩
    · intro z
      exact rne (List.map_eq_nil_iff.mp z)
    · refine fin r3 H9 1 (by decide) (by decide) (fun _ _ e => e) ?_
      simpa using h9
    · have ev : 1 + v2 = 2 := by omega
      refine fin p _ 2 (by decide) (by decide) (same_upd hp) ?_
      unfold TI
      rw [upd_same, ev]
      show some (HO.tup (List.replicate 2 ((rot ys (more % ys.length)).map V.int)).flatten) = _
      rw [List.map_flatten, List.map_replicate]
end
end Lw

set_option Elab.async false
set_option linter.all false
/-! where a tuple of edges is first no path; rows of a graph -/
namespace Lw
def Inr (ps : List (Int × Int)) (e : Int) : Prop := 0 ≤ e ∧ e < (ps.length : Int)
def prt (ps : List (Int × Int)) (e : Int) : Int × Int := ps.getD e.toNat (0, 0)
/-- the edge at a place is none of the graph, or does not follow the one before -/
def Bad (ps : List (Int × Int)) (es : List Int) (i : Nat) : Prop := ¬ Inr ps (es.getD i 0) ∨ (0 < i ∧ (prt ps (es.getD (i - 1) 0)).2 ≠ (prt ps (es.getD i 0)).1)
/-- the first such place -/
def FB (ps : List (Int × Int)) (es : List Int) : Option Nat → Prop
  | none => ∀ i, i < es.length → ¬ Bad ps es i
  | some j => j < es.length ∧ Bad ps es j ∧ ∀ i, i < j → ¬ Bad ps es i
theorem FB.uniq {ps : List (Int × Int)} {es : List Int} : ∀ {r r' : Option Nat}, FB ps es r → FB ps es r' → r = r'
  | none, none, _, _ => rfl
  | none, some j, h, h' => absurd h'.2.1 (h j h'.1)
  | some j, none, h, h' => absurd h.2.1 (h' j h.1)
  | some j, some k, h, h' => by
    rcases Nat.lt_trichotomy j k with c | c | c
    · exact absurd h.2.1 (h'.2.2 j c)
    · rw [c]
    · exact absurd h'.2.1 (h.2.2 k c)
theorem fb_upto (ps : List (Int × Int)) (es : List Int) : ∀ n, n ≤ es.length → (∀ i, i < n → ¬ Bad ps es i) ∨ ∃ j, j < n ∧ Bad ps es j ∧ ∀ i, i < j → ¬ Bad ps es i
  | 0, _ => .inl fun i hi => by omega
  | n + 1, h => by
    rcases fb_upto ps es n (by omega) with a | ⟨j, hj, b, c⟩
    · by_cases hb : Bad ps es n
      · exact .inr ⟨n, by omega, hb, a⟩
      · refine .inl fun i hi => ?_
        by_cases e : i = n
        · rw [e]
          exact hb
        · exact a i (by omega)
    · exact .inr ⟨j, by omega, b, c⟩
theorem fb_ex (ps : List (Int × Int)) (es : List Int) : ∃ r, FB ps es r := by
  rcases fb_upto ps es es.length (Nat.le_refl _) with a | ⟨j, hj, b, c⟩
  · exact ⟨none, a⟩
  · exact ⟨some j, hj, b, c⟩
theorem getD_tk {es : List Int} {k i : Nat} (h : i < k) : (es.take k).getD i 0 = es.getD i 0 := by
  simp [List.getD, List.getElem?_take, h]
theorem bad_take {ps : List (Int × Int)} {es : List Int} {k i : Nat} (h : i < k) : Bad ps (es.take k) i ↔ Bad ps es i := by
  unfold Bad
  rw [getD_tk h, getD_tk (show i - 1 < k by omega)]
/-- a part from the left is a path as long as the first break is not in it -/
theorem fb_take {ps : List (Int × Int)} {es : List Int} {k : Nat} (h : k < es.length) : (∃ r, FB ps (es.take (k + 1)) r ∧ r ≠ none) ↔ ∃ j, FB ps es (some j) ∧ j ≤ k := by
  constructor
  · rintro ⟨r, hr, ne⟩
    cases r with
    | none => exact absurd rfl ne
    | some j =>
      obtain ⟨h1, h2, h3⟩ := hr
      rw [List.length_take] at h1
      exact ⟨j, ⟨by omega, (bad_take (by omega)).mp h2, fun i hi z => h3 i hi ((bad_take (by omega)).mpr z)⟩, by omega⟩
  · rintro ⟨j, ⟨h1, h2, h3⟩, hj⟩
    exact ⟨some j, ⟨by rw [List.length_take]; omega, (bad_take (by omega)).mpr h2, fun i hi z => h3 i hi ((bad_take (by omega)).mp z)⟩, fun z => by cases z⟩
/-! ### rows of a graph -/
def RowOf (ps : List (Int × Int)) (s : Nat → Int) : Prop := ∀ i, Inr ps (s i) ∧ (prt ps (s i)).2 = (prt ps (s (i + 1))).1
/-- head, cycle, and the cycle's first edge once more -/
theorem sq_pre {xs ys : List Int} (hy : ys ≠ []) {i : Nat} (h : i < (xs ++ ys ++ ys.take 1).length) : (xs ++ ys ++ ys.take 1).getD i 0 = sq xs ys i := by
  have hl : 0 < ys.length := List.length_pos_iff.mpr hy
  have ht : (ys.take 1).length = 1 := by
    rw [List.length_take]
    omega
  rw [List.length_append, List.length_append, ht] at h
  unfold sq
  simp only [List.getD]
  by_cases h1 : i < xs.length
  · rw [if_pos h1, List.append_assoc, List.getElem?_append_left h1]
  · rw [if_neg h1]
    by_cases h2 : i < xs.length + ys.length
    · rw [List.getElem?_append_left (by rw [List.length_append]; exact h2), List.getElem?_append_right (by omega), Nat.mod_eq_of_lt (by omega)]
    · have e : i = xs.length + ys.length := by omega
      rw [List.getElem?_append_right (by rw [List.length_append]; omega), e, List.length_append, Nat.sub_self, Nat.add_sub_cancel_left, Nat.mod_self, List.getElem?_take_of_lt (by omega)]
theorem RowOf.none {ps : List (Int × Int)} {xs ys : List Int} (hy : ys ≠ []) (h : RowOf ps (sq xs ys)) : FB ps (xs ++ ys ++ ys.take 1) none := fun i hi b => by
  rcases b with b | ⟨h0, b⟩
  · rw [sq_pre hy hi] at b
    exact b (h i).1
  · rw [sq_pre hy hi, sq_pre hy (by omega)] at b
    have := (h (i - 1)).2
    rw [show i - 1 + 1 = i by omega] at this
    exact b this
end Lw

set_option Elab.async false
set_option linter.all false
/-! other forms of a row: a shorter cycle, an edge of the head taken into the cycle -/
namespace Lw
/-- a size whose repetition gives the cycle -/
def Sz (ys : List Int) (d : Nat) : Prop := 1 ≤ d ∧ d ≤ ys.length ∧ ys = ((List.replicate ys.length (ys.take d)).flatten).take ys.length
theorem sz_all {ys : List Int} (hy : ys ≠ []) : Sz ys ys.length := by
  have h0 : 0 < ys.length := List.length_pos_iff.mpr hy
  refine ⟨h0, Nat.le_refl _, ?_⟩
  obtain ⟨m, hm⟩ : ∃ m, ys.length = m + 1 := ⟨ys.length - 1, by omega⟩
  rw [List.take_length]
  conv => rhs; rw [show List.replicate ys.length ys = ys :: List.replicate (ys.length - 1) ys by rw [← List.replicate_succ]; congr 1; omega]
  rw [List.flatten_cons, List.take_left']
  rfl
theorem sz_get {ys : List Int} {d t : Nat} (h : Sz ys d) (ht : t < ys.length) : ys.getD t 0 = ys.getD (t % d) 0 := by
  obtain ⟨d1, dl, e⟩ := h
  have ld : (ys.take d).length = d := by
    rw [List.length_take]
    omega
  have lt : t < ys.length * (ys.take d).length := by
    rw [ld]
    exact Nat.lt_of_lt_of_le ht (Nat.le_mul_of_pos_right _ (by omega))
  have h1 : ys.getD t 0 = (((List.replicate ys.length (ys.take d)).flatten).take ys.length).getD t 0 := congrArg (fun l => l.getD t 0) e
  rw [h1]
  have h2 : (((List.replicate ys.length (ys.take d)).flatten).take ys.length).getD t 0 = ((List.replicate ys.length (ys.take d)).flatten).getD t 0 := by
    simp [List.getD, List.getElem?_take, ht]
  have tk : ∀ i, i < d → (ys.take d).getD i 0 = ys.getD i 0 := fun i hi => by
    simp [List.getD, List.getElem?_take, hi]
  rw [h2, rep_get _ (by rw [ld]; omega) _ _ lt, ld, tk _ (Nat.mod_lt _ (by omega))]
theorem sz_sq {xs ys : List Int} {d : Nat} (h : Sz ys d) (hm : ys.length % d = 0) : sq xs (ys.take d) = sq xs ys := by
  have d1 := h.1
  have dl := h.2.1
  have ld : (ys.take d).length = d := by
    rw [List.length_take]
    omega
  funext i
  unfold sq
  by_cases c : i < xs.length
  · rw [if_pos c, if_pos c]
  · rw [if_neg c, if_neg c, ld, sz_get h (t := (i - xs.length) % ys.length) (Nat.mod_lt _ (by omega)), Nat.mod_mod_of_dvd _ (Nat.dvd_of_mod_eq_zero hm)]
    have hl : (i - xs.length) % d < d := Nat.mod_lt _ (by omega)
    simp [List.getD, List.getElem?_take, hl]
theorem sq_shift (a b : List Int) (e : Int) : sq a (e :: b) = sq (a ++ [e]) (b ++ [e]) := by
  funext i
  unfold sq
  have l1 : (a ++ [e]).length = a.length + 1 := by simp
  have l2 : (b ++ [e]).length = b.length + 1 := by simp
  have l3 : (e :: b).length = b.length + 1 := by simp
  rw [l1, l2, l3]
  by_cases c : i < a.length
  · rw [if_pos c, if_pos (by omega)]
    simp [List.getD, List.getElem?_append_left c]
  · rw [if_neg c]
    by_cases c2 : i < a.length + 1
    · have ei : i = a.length := by omega
      rw [if_pos c2, ei, Nat.sub_self, Nat.zero_mod]
      simp [List.getD]
    · rw [if_neg c2]
      obtain ⟨j, hj⟩ : ∃ j, i = a.length + 1 + j := ⟨i - (a.length + 1), by omega⟩
      rw [hj, show a.length + 1 + j - a.length = j + 1 by omega, show a.length + 1 + j - (a.length + 1) = j by omega]
      have hq := Nat.mod_lt j (show 0 < b.length + 1 by omega)
      by_cases c3 : j % (b.length + 1) = b.length
      · have e1 : (j + 1) % (b.length + 1) = 0 := by
          rw [Nat.add_mod, c3]
          by_cases hb : b.length = 0
          · simp [hb, Nat.mod_one]
          · rw [Nat.mod_eq_of_lt (show 1 < b.length + 1 by omega), Nat.mod_self]
        rw [e1, c3]
        simp [List.getD]
      · have e1 : (j + 1) % (b.length + 1) = j % (b.length + 1) + 1 := by
          rw [Nat.add_mod, Nat.mod_eq_of_lt (show 1 < b.length + 1 by omega), Nat.mod_eq_of_lt (by omega)]
        rw [e1]
        have hlt : j % (b.length + 1) < b.length := by omega
        simp only [List.getD, List.getElem?_cons_succ]
        rw [List.getElem?_append_left hlt]
theorem last_of {xs : List Int} (h : 0 < xs.length) : ∃ a e, xs = a ++ [e] := by
  have hn : xs ≠ [] := fun z => by
    rw [z] at h
    exact Nat.lt_irrefl _ h
  exact ⟨xs.dropLast, xs.getLast hn, (List.dropLast_concat_getLast hn).symm⟩
end Lw

set_option Elab.async false
set_option linter.all false
/-! drawn rows -/
namespace Lw
theorem php : ∀ (n : Nat) (f : Nat → Nat), (∀ i, i < n + 1 → f i < n) → ∃ i j, i < j ∧ j < n + 1 ∧ f i = f j
  | 0, f, h => absurd (h 0 (by omega)) (by omega)
  | n + 1, f, h => by
    by_cases c : ∃ i, i < n + 1 ∧ f i = f (n + 1)
    · obtain ⟨i, hi, e⟩ := c
      exact ⟨i, n + 1, hi, by omega, e⟩
    · have hv := h (n + 1) (by omega)
      have ne : ∀ i, i < n + 1 → f i ≠ f (n + 1) := fun i hi e => c ⟨i, hi, e⟩
      obtain ⟨i, j, hij, hj, e⟩ := php n (fun i => if f i > f (n + 1) then f i - 1 else f i) (fun i hi => by
        have h1 := h i (by omega)
        have h2 := ne i hi
        show (if f i > f (n + 1) then f i - 1 else f i) < n
        split <;> omega)
      have h1 := ne i (by omega)
      have h2 := ne j (by omega)
      refine ⟨i, j, hij, by omega, ?_⟩
      have e : (if f i > f (n + 1) then f i - 1 else f i) = (if f j > f (n + 1) then f j - 1 else f j) := e
      split at e <;> split at e <;> omega
theorem first_ix {e : Int} : ∀ {ps : List Int}, e ∈ ps → ∃ j, j < ps.length ∧ ps.getD j 0 = e ∧ ∀ m, m < j → ps.getD m 0 ≠ e
  | [], h => by cases h
  | p :: ps, h => by
    by_cases c : p = e
    · exact ⟨0, by simp, by simp [List.getD, c], fun m hm => by omega⟩
    · have h' : e ∈ ps := by
        rcases List.mem_cons.mp h with z | z
        · exact absurd z.symm c
        · exact z
      obtain ⟨j, h1, h2, h3⟩ := first_ix h'
      refine ⟨j + 1, by simp; omega, by simpa [List.getD] using h2, fun m hm => ?_⟩
      cases m with
      | zero => simpa [List.getD] using c
      | succ m => simpa [List.getD] using h3 m (by omega)
/-- a drawn path, and the edge behind it -/
structure Drawn (E : List (Int × Int)) (ps : List Int) (e : Int) (m : Nat) : Prop where
  inr : Inr E e
  ch : ∀ j, j < ps.length → Inr E (ps.getD j 0) ∧ (prt E (ps.getD j 0)).2 = (prt E (if j + 1 < ps.length then ps.getD (j + 1) 0 else e)).1
  ne : ∀ j k, j < k → k < ps.length → m ≤ k → ps.getD j 0 ≠ ps.getD k 0
theorem Drawn.short {E : List (Int × Int)} {ps : List Int} {e : Int} {m : Nat} (h : Drawn E ps e m) (hm : m ≤ 3) (hE : E.length ≤ 24) : ps.length < 40 := by
  refine Nat.lt_of_not_le fun hl => ?_
  obtain ⟨i, j, hij, hj, eq⟩ := php 24 (fun i => (ps.getD (3 + i) 0).toNat) (fun i hi => by
    have := (h.ch (3 + i) (by omega)).1
    have h0 := this.1
    have h1 := this.2
    show (ps.getD (3 + i) 0).toNat < 24
    omega)
  have a := (h.ch (3 + i) (by omega)).1.1
  have b := (h.ch (3 + j) (by omega)).1.1
  have eq : (ps.getD (3 + i) 0).toNat = (ps.getD (3 + j) 0).toNat := eq
  exact h.ne (3 + i) (3 + j) (by omega) (by omega) (by omega) (by omega)
theorem getD_app_left {ps : List Int} {z : Int} {j : Nat} (h : j < ps.length) : (ps ++ [z]).getD j 0 = ps.getD j 0 := by
  simp [List.getD, List.getElem?_append_left h]
theorem getD_app_last {ps : List Int} {z : Int} : (ps ++ [z]).getD ps.length 0 = z := by
  simp [List.getD]
theorem Drawn.next {E : List (Int × Int)} {ps : List Int} {e z : Int} {m : Nat} (h : Drawn E ps e m) (hz : Inr E z) (hf : (prt E z).1 = (prt E e).2) (hn : m ≤ ps.length → e ∉ ps) : Drawn E (ps ++ [e]) z m := by
  have ll : (ps ++ [e]).length = ps.length + 1 := by simp
  refine ⟨hz, fun j hj => ?_, fun j k hjk hk hm => ?_⟩
  · rw [ll] at hj ⊢
    by_cases c : j = ps.length
    · rw [c, getD_app_last, if_neg (by omega)]
      exact ⟨h.inr, hf.symm⟩
    · have c2 : j < ps.length := by omega
      have := h.ch j c2
      rw [getD_app_left c2, if_pos (by omega)]
      refine ⟨this.1, ?_⟩
      rw [this.2]
      by_cases c3 : j + 1 < ps.length
      · rw [if_pos c3, getD_app_left c3]
      · have c4 : j + 1 = ps.length := by omega
        rw [if_neg c3, c4, getD_app_last]
  · rw [ll] at hk
    by_cases c : k = ps.length
    · rw [c, getD_app_last, getD_app_left (by omega)]
      intro z
      refine hn (by omega) ?_
      rw [← z]
      have hj : j < ps.length := by omega
      rw [show ps.getD j 0 = ps[j] by simp [List.getD, hj]]
      exact List.getElem_mem hj
    · rw [getD_app_left (by omega), getD_app_left (by omega)]
      exact h.ne j k hjk (by omega) hm
/-- closed where the edge stands already -/
theorem Drawn.row {E : List (Int × Int)} {ps : List Int} {e : Int} {m j : Nat} (h : Drawn E ps e m) (hj : j < ps.length) (he : ps.getD j 0 = e) : RowOf E (sq (ps.take j) (ps.drop j)) := by
  have at_ : ∀ i, ∃ t, t < ps.length ∧ sq (ps.take j) (ps.drop j) i = ps.getD t 0 ∧ sq (ps.take j) (ps.drop j) (i + 1) = if t + 1 < ps.length then ps.getD (t + 1) 0 else e := by
    have lt : (ps.take j).length = j := by
      rw [List.length_take]
      omega
    have ld : (ps.drop j).length = ps.length - j := List.length_drop
    have tk : ∀ i, i < j → (ps.take j).getD i 0 = ps.getD i 0 := fun i hi => by
      simp [List.getD, List.getElem?_take, hi]
    have dk : ∀ i, (ps.drop j).getD i 0 = ps.getD (j + i) 0 := fun i => by
      simp [List.getD, List.getElem?_drop]
    intro i
    unfold sq
    rw [lt, ld]
    by_cases c : i < j
    · refine ⟨i, by omega, by rw [if_pos c, tk i c], ?_⟩
      rw [if_pos (show i + 1 < ps.length by omega)]
      by_cases c2 : i + 1 < j
      · rw [if_pos c2, tk _ c2]
      · have c3 : i + 1 = j := by omega
        rw [if_neg c2, dk, c3, Nat.sub_self, Nat.zero_mod]
        rfl
    · rw [if_neg c, if_neg (by omega), dk, dk]
      obtain ⟨u, hu⟩ : ∃ u, i = j + u := ⟨i - j, by omega⟩
      rw [hu, show j + u - j = u by omega, show j + u + 1 - j = u + 1 by omega]
      obtain ⟨L, hL⟩ : ∃ L, ps.length - j = L + 1 := ⟨ps.length - j - 1, by omega⟩
      rw [hL]
      have hq := Nat.mod_lt u (show 0 < L + 1 by omega)
      refine ⟨j + u % (L + 1), by omega, rfl, ?_⟩
      by_cases c3 : u % (L + 1) = L
      · have e1 : (u + 1) % (L + 1) = 0 := by
          rw [Nat.add_mod, c3]
          by_cases hb : L = 0
          · simp [hb, Nat.mod_one]
          · rw [Nat.mod_eq_of_lt (show 1 < L + 1 by omega), Nat.mod_self]
        rw [e1, c3, if_neg (by omega)]
        exact he
      · have e1 : (u + 1) % (L + 1) = u % (L + 1) + 1 := by
          rw [Nat.add_mod, Nat.mod_eq_of_lt (show 1 < L + 1 by omega), Nat.mod_eq_of_lt (by omega)]
        rw [e1, if_pos (by omega)]
        rfl
  intro i
  obtain ⟨t, ht, e1, e2⟩ := at_ i
  rw [e1, e2]
  exact h.ch t ht
end Lw

set_option Elab.async false
set_option linter.all false
set_option maxRecDepth 100000
namespace Lw
open PySem L2
theorem same_at {H H' : Hp} {p : Addr} {o : HO} (s : Same H H') (n : H p = none) : Same H (upd H' p o) := fun c o' e => by
  rw [upd_ne (ne_of_none e n)]
  exact s c o' e
/-! ### tables of code objects -/
def Tq (Pt : Addr) (qn : Str) : List (Addr × Str) := [(Pt, qn)]
theorem tabs_keep {T : List (Addr × Str)} {H H' : Hp} {b l : Addr} {ns : List Int} (t : LamX.Tabs T H) (B : BagAt H b l ns) (k : KeepB b H H') : LamX.Tabs T H' := fun p hp => by
  obtain ⟨ps, h1, h2, h3⟩ := t p hp
  obtain ⟨ys, hb⟩ := B.at_b
  refine ⟨ps, k _ _ (fun e => by rw [e, hb] at h1; cases h1) h1, h2, fun pos cv hc => ?_⟩
  obtain ⟨c, e1, e2⟩ := h3 pos cv hc
  exact ⟨c, e1, k _ _ (fun e => by rw [e, hb] at e2; cases e2) e2⟩
theorem BagAt.extN {H H' : Hp} {b l : Addr} {ns : List Int} (B : BagAt H b l ns) (e : LamX.ExtN H H') : BagAt H' b l ns := by
  obtain ⟨o, ho, hB⟩ := B.ob
  obtain ⟨i, r, s, rfl, h2⟩ := id hB
  exact ⟨⟨_, e _ _ ho (fun ps z => by cases z), hB⟩, e _ _ B.sc (fun ps z => by cases z), B.ln⟩
theorem Ed.extN {H H' : Hp} {ts : Es} (h : Ed H ts) (e : LamX.ExtN H H') : Ed H' ts := fun x hx => e _ _ (h x hx) (fun ps z => by cases z)
theorem PlanAt.extN {H H' : Hp} {p q : Addr} {n : Int} {ts : Es} (h : PlanAt H p q n ts) (e : LamX.ExtN H H') : PlanAt H' p q n ts := ⟨e _ _ h.tp (fun ps z => by cases z), e _ _ h.ls (fun ps z => by cases z), h.ed.extN e, h.va, h.n1⟩
theorem GraphAt.extN {C : Addr} {H H' : Hp} {g : Addr} {n : Int} {us : Es} (h : GraphAt C H g n us) (e : LamX.ExtN H H') : GraphAt C H' g n us := by
  obtain ⟨⟨dx, t, h1, h2⟩, ed⟩ := h
  exact ⟨⟨dx, t, e _ _ h1 (fun ps z => by cases z), e _ _ h2 (fun ps z => by cases z)⟩, ed.extN e⟩
theorem GraphAt.keep {C : Addr} {H H' : Hp} {g b l : Addr} {ns : List Int} {n : Int} {us : Es} (h : GraphAt C H g n us) (B : BagAt H b l ns) (k : KeepB b H H') : GraphAt C H' g n us := by
  obtain ⟨⟨dx, t, h1, h2⟩, ed⟩ := h
  exact ⟨⟨dx, t, k _ _ (B.ne_ins h1) h1, k _ _ (B.ne_tup h2) h2⟩, ed.keep B k⟩
theorem PlanAt.keep {H H' : Hp} {p q b l : Addr} {ns : List Int} {n : Int} {ts : Es} (h : PlanAt H p q n ts) (B : BagAt H b l ns) (k : KeepB b H H') : PlanAt H' p q n ts := ⟨k _ _ (B.ne_tup h.tp) h.tp, k _ _ (B.ne_vs h.ls) h.ls, h.ed.keep B k, h.va, h.n1⟩
end Lw

set_option Elab.async false
set_option linter.all false
set_option maxRecDepth 100000
/-! g(lambda a=n: body), where g calls what it gets without arguments. The function's cells by the library's module on nested defs, what g does with it by its GivesTo. -/
namespace LamD
open PySem PySem.Spec PyProof.Rows L2
/-- the table at P bears one code object more -/
theorem grow {T : List (Addr × Str)} {H : Hp} {P c : Addr} {q : Str} {ps : Array Value} {pos : Pos} (hT : LamX.Tabs T H) (hq : ∀ r ∈ T, r.1 = P → r.2 = q) (hP : H P = some (.tbl ps)) (ok : TriplesOk ps.toList) (nc : H c = none) :
    LamX.ExtN H (upd (upd H P (.tbl (ps ++ #[rawInt pos.line, rawInt pos.col, .ref c]))) c (LamX.CodeO c q)) ∧
      LamX.Tabs T (upd (upd H P (.tbl (ps ++ #[rawInt pos.line, rawInt pos.col, .ref c]))) c (LamX.CodeO c q)) := by
  have nPc : P ≠ c := ne_of_none hP nc
  have ext : LamX.ExtN H (upd (upd H P (.tbl (ps ++ #[rawInt pos.line, rawInt pos.col, .ref c]))) c (LamX.CodeO c q)) := by
    intro b o hb no
    have bP : b ≠ P := by
      rintro rfl
      rw [hP] at hb
      exact no ps (Option.some.inj hb).symm
    rw [upd_ne (ne_of_none hb nc), upd_ne bP, hb]
  refine ⟨ext, ?_⟩
  intro r hr
  obtain ⟨ps', g1, g2, g3⟩ := hT r hr
  have old : ∀ (p : Pos) (v : Value), codeAmong p ps'.toList = some v → ∃ d, v = .ref d ∧ upd (upd H P (.tbl (ps ++ #[rawInt pos.line, rawInt pos.col, .ref c]))) c (LamX.CodeO c q) d = some (LamX.CodeO d r.2) := by
    intro p v hv
    obtain ⟨d, ed, hd⟩ := g3 p v hv
    exact ⟨d, ed, ext d _ hd LamX.codeO_ne⟩
  by_cases e : r.1 = P
  · have eps : ps' = ps := by
      rw [e, hP] at g1
      injection g1 with g1
      injection g1 with g1
      exact g1.symm
    subst eps
    refine ⟨ps' ++ #[rawInt pos.line, rawInt pos.col, .ref c], ?_, ?_, ?_⟩
    · rw [e, upd_ne nPc, upd_same]
    · rw [Array.toList_append]
      exact PySem.TriplesOk_snoc _ _ _ _ ok
    · intro p v hv
      rw [Array.toList_append] at hv
      cases LamX.among_app _ ok hv with
      | inl h => exact old p v h
      | inr h => exact ⟨c, h, by rw [upd_same, hq r hr e]⟩
  · exact ⟨ps', by rw [upd_ne (ne_of_none g1 nc), upd_ne e, g1], g2, old⟩
/-- what stands once the lambda is made: the function at f, its default at t, its code object at c -/
structure Made (X : Cx) (pins : List (Addr × Obj)) (σ : L2.St) (T : List (Addr × Str)) (params : Arguments) (body : Expr) (scope : Scope) (H H1 : Hp) (f t c : Addr) (u : Value) (s : Shared) : Prop where
  inv : Inv X pins σ H1 s
  ext : LamX.ExtN H H1
  tab : LamX.Tabs T H1
  fn : ∃ doc pm ctv, s.heap.get? f = some (PySem.W.kdv_obj "<lambda>" (X.env.qual ++ "<lambda>") params (.expr body) scope (cloFrom X.env.cells scope.names []) (.ref t) doc pm c ctv)
  dft : s.heap.get? t = some (PySem.W.kdv_tup [u])
  nf : H1 f = none ∧ f ∉ frs X.stack
  nt : H1 t = none ∧ t ∉ frs X.stack
  code : H1 c = some (LamX.CodeO c (X.env.qual ++ "<lambda>"))
section
variable {X : Cx} {pins : List (Addr × Obj)} {σ : L2.St} {H : Hp} {s : Shared}
theorem new_off {a : Addr} (I : Inv X pins σ H s) (h : s.heap.objs.size ≤ a) : a ∉ frs X.stack := by
  intro z
  cases List.mem_cons.mp (I.stkSub _ z) with
  | inl e => exact absurd (e ▸ I.lt) (Nat.not_lt.mpr h)
  | inr e => exact I.nofs h e
theorem made {T : List (Addr × Str)} {c P : Addr} {params : Arguments} {body e : Expr} {scope : Scope} {n : Int} {pos : Pos} {Q : Value → Shared → Prop} (I : Inv X pins σ H s) (TB : LamX.TabB X.base X.mg c P) (hcode : X.env.code = .ref c)
    (hm : (P, X.env.qual ++ "<lambda>") ∈ T) (hq : ∀ r ∈ T, r.1 = P → r.2 = X.env.qual ++ "<lambda>") (hT : LamX.Tabs T H) (hd : params.defaults = [e]) (hk : params.kw_defaults = []) (he : PE X e (tC (.int n)))
    (hc : closureFor scope X.env = pure (cloFrom X.env.cells scope.names [])) (h : ∀ f t c' u H1 s', RelV (.int n) u → Made X pins σ T params body scope H H1 f t c' u s' → Q (.ref f) s') :
    wpAny (model X.prog X.w) X.A (eval (.Lambda params body scope pos) X.env) Q X.xe s := by
  refine PySem.W.kdv_lam (hd ▸ rfl) hk ?_
  rw [hd]
  refine PySem.W.kdv_all1 (wpAny_mono (he.run pins s σ H (fun v H' => v = .int n ∧ H' = H) I ⟨rfl, rfl⟩) ?_ fun _ _ z => z)
  rintro u s0 ⟨_, H0, J0, ru, rfl, eH⟩
  rw [eH] at J0
  refine PySem.W.kdv_all0 ?_
  rw [makeFunction_eq]
  simp only [List.zip_nil_right, List.filterMap_nil, List.isEmpty_nil, List.isEmpty_cons, Bool.false_eq_true, if_true, if_false, pure_bind]
  refine wpAny_bind (wpAny_newTextTuple ?_)
  have J : Inv X pins σ H { s0 with heap := s0.heap.push (PySem.W.kdv_tup [u]) } := J0.kept (t' := s0.toks) (fun b o z => Heap.get?_push_of_some _ z)
  have at_t : (s0.heap.push (PySem.W.kdv_tup [u])).get? s0.heap.objs.size = some (PySem.W.kdv_tup [u]) := Heap.get?_push_size _ rfl
  have nt : H s0.heap.objs.size = none ∧ s0.heap.objs.size ∉ frs X.stack := ⟨J0.hok.fresh (Nat.le_refl _), new_off J0 (Nat.le_refl _)⟩
  have lt_t : s0.heap.objs.size < (s0.heap.push (PySem.W.kdv_tup [u])).objs.size := by
    rw [Heap.size_push]
    exact Nat.lt_succ_self _
  generalize s0.heap.push (PySem.W.kdv_tup [u]) = g, s0.heap.objs.size = t at J at_t nt lt_t ⊢
  obtain ⟨ps, hP, ok, known⟩ := hT _ hm
  have objP : g.get? P = some { cls := .none, data := .fields ps } := J.hok P _ hP
  have glob := J.mod.glob.keeps J.bk
  have head := TB.code.keeps J.bk
  have blt := TB.bm.keeps J.bk
  match z : codeAmong pos ps.toList with
  | some v =>
    obtain ⟨d, rfl, hd'⟩ := known pos v z
    refine PySem.W.kdv_makeTailHit (mg := X.mg) hc J.ok.glob glob hcode head objP ok z blt fun ctv doc g' tk up le => ?_
    refine h g'.objs.size t d u H _ ru ⟨J.kept fun b o q => Heap.get?_push_of_some _ (up b o q), LamX.ExtN.refl _, hT, ⟨_, _, _, Heap.get?_push_size _ rfl⟩, Heap.get?_push_of_some _ (up _ _ at_t), ⟨J.hok.fresh le, new_off J le⟩, nt, hd'⟩
  | none =>
    refine PySem.W.kdv_makeTail (mg := X.mg) hc J.ok.glob glob hcode head objP ok z TB.gP blt fun d ctv doc g' tk up ge lt rec tab => ?_
    obtain ⟨_, od, vs, tq, eq, get, dat, nam⟩ := rec
    injection eq with eq
    subst eq
    have nd : H d = none := J.hok.fresh ge
    have le : g.objs.size ≤ g'.objs.size := Nat.le_of_lt (Nat.lt_of_le_of_lt ge lt)
    obtain ⟨ext, tabs⟩ := grow (pos := pos) hT hq hP ok nd
    have J2 := LamX.inv_table (t' := tk) (h' := g'.push (PySem.W.kdv_obj "<lambda>" (X.env.qual ++ "<lambda>") params (.expr body) scope (cloFrom X.env.cells scope.names []) (.ref t) doc ((X.mg "__name__").getD .none) d ctv)) J hP
      (fun b o q r => Heap.get?_push_of_some _ (up b o q r)) (Heap.get?_push_of_some _ tab) ge ⟨od, vs, tq, Heap.get?_push_of_some _ get, dat, nam⟩
    have offP : ∀ b, H b = none → b ≠ P := fun b q r => by
      rw [r, hP] at q
      cases q
    have none' : ∀ b, H b = none → b ≠ d → upd (upd H P (.tbl (ps ++ #[rawInt pos.line, rawInt pos.col, .ref d]))) d (LamX.CodeO d (X.env.qual ++ "<lambda>")) b = none := fun b q r => by
      rw [upd_ne r, upd_ne (offP b q), q]
    refine h g'.objs.size t d u _ _ ru ⟨J2, ext, tabs, ⟨_, _, _, Heap.get?_push_size _ rfl⟩, Heap.get?_push_of_some _ (up _ _ (offP t nt.1) at_t), ⟨none' _ (J.hok.fresh le) (Nat.ne_of_gt lt), new_off J le⟩, ⟨none' _ nt.1 (Nat.ne_of_lt (Nat.lt_of_lt_of_le lt_t ge)), nt.2⟩, upd_same⟩
/-- cells of the maker stand while others run -/
theorem cells_on {F : List Addr} {H H' : Hp} {h h' : Heap} {cl : List (Str × Addr)} {fr : List Str} {ws : List (Option V)} (C : NdefX.CellsAt cl fr ws h H) (un : Un F [] H H' h h') : NdefX.CellsAt cl fr ws h' H' := by
  have keep : ∀ y a v, cl.lookup y = some a → h.IsCell a v → h'.IsCell a v := by
    rintro y a v hy ⟨o, ho, hv⟩
    obtain ⟨sl, hs⟩ := un.any ho (C.all y a hy).1 (by simp)
    exact ⟨_, hs, hv⟩
  refine ⟨C.len, ?_, C.inj, ?_⟩
  · intro y a hy
    obtain ⟨na, v, o, ho, hv⟩ := C.all y a hy
    exact ⟨un.free a o ho na (by simp), v, keep y a v hy ⟨o, ho, hv⟩⟩
  · intro i y hi
    obtain ⟨a, ha, hv⟩ := C.has i y hi
    refine ⟨a, ha, fun v hw => ?_⟩
    obtain ⟨u, ru, hu⟩ := hv v hw
    exact ⟨u, ru, keep y a _ ha hu⟩
end
/-- the lambda as a nested def's record; its body is an expression, which the record does not hold -/
abbrev rec (X : Cx) (params : Arguments) (scope : Scope) (c : Addr) : NdefX.NF := ⟨"<lambda>", X.env.qual ++ "<lambda>", params, [], scope, cloFrom X.env.cells scope.names [], c⟩
/-- g(lambda a=n: body): N names the lambda's own slots, a first, then what it captures; js: where these stand with the maker -/
def tLamD (T : List (Addr × Str)) (TT : (XK → Hp → VK → Prop) → Hp → VK → Prop) (N : List Str) (n : Int) (js : List Nat) (t : XK → TE) : TE := fun σ H Q =>
  LamX.Tabs T H ∧ ∀ H1, LamX.ExtN H H1 → LamX.Tabs T H1 → TT (fun E H' Q' => t E (NdefX.startF N [.int n] (js.map (NdefX.slotAt σ))) H' Q') H1 Q
section
variable {X : Cx}
theorem pe_lamD {T : List (Addr × Str)} {TT : (XK → Hp → VK → Prop) → Hp → VK → Prop} {x a al : Str} {g c P : Addr} {k : Nat} {n : Int} {pg : Arguments} {bg : List Stmt} {sg : Scope} {dV kV doc pm cdv ct oc : Value} {an od : Option Addr} {osl : Array (Option Value)} {Ng N fr : List Str} {js : List Nat}
    {params : Arguments} {body e : Expr} {scope : Scope} {t : XK → TE} {p lpos pos : Pos}
    (hg : Gl X x) (hm : X.mg x = some (.ref g)) (hk : PySem.W.keepIn X.K (.ref g) = true)
    (lk : X.K.lookup g = some ⟨oc, od, .func (PySem.W.fnOf x x pg bg sg dV kV doc pm an cdv ct), osl⟩)
    (hcg : PySem.W.codeIn X.K cdv x = true) (hb : L2.Binds X.K (PySem.W.fnOf x x pg bg sg dV kV doc pm an cdv ct) [a] [])
    (Sg : FnScope Ng [a] sg) (hNg : Ng[0]? = some a) (hva : Vis sg a)
    (gives : LamX.GivesTo X Ng x sg g cdv bg a (X.env.qual ++ "<lambda>") TT) (TB : LamX.TabB X.base X.mg c P)
    (hcode : X.env.code = .ref c) (hmT : (P, X.env.qual ++ "<lambda>") ∈ T) (hqT : ∀ r ∈ T, r.1 = P → r.2 = X.env.qual ++ "<lambda>") (hr : Room (k + 2) X.A)
    (S : NdefX.NScope N [al] fr scope) (df : NdefX.ndefB X.env.scope scope fr = true) (hjs : js.map (fun j => X.N[j]?) = fr.map some)
    (hdf : params.defaults = [e]) (hk0 : params.kw_defaults = []) (he : PE X e (tC (.int n)))
    (hbind : ∀ (s : Shared) (q : Str) (cl : List (Str × Addr)) (t : Addr) (u doc pm cv ctv : Value), s.heap.get? t = some (PySem.W.kdv_tup [u]) → BindsTo s (PySem.W.kdv_fn "<lambda>" q params (.expr body) scope cl (.ref t) doc pm cv ctv) ⟨[], []⟩ [(al, u)])
    (hbody : ∀ (A : Around) (outer : List Env) (s : Shared) (H : Hp) (E : XK) (f c' : Addr), Room k (A.deeper (NdefX.envF (rec X params scope c') f s.heap.objs.size)) → PE (NdefX.ncx (L2.CX X.prog X.w) X.prog X.w X.K X.mg X.base N (rec X params scope c') f A outer s H E) body (t E))
    (d1 : (x == ("__debug__" : Str)) = false := by decide) (d2 : (a == ("__debug__" : Str)) = false := by decide) (d3 : (a == ("__classdict__" : Str)) = false := by decide) :
    PE X (.Call (.Name x p) [.Lambda params body scope lpos] [] pos) (tLamD T TT N n js t) := by
  constructor
  rintro pins s σ H Q I ⟨hT, hQ⟩
  have fre := NdefX.ndef_free df
  have cap := NdefX.Caps.made I.ok fre (NdefX.ndef_fr df) hjs
  have clo : closureFor scope X.env = pure (cloFrom X.env.cells scope.names []) := closure_ok fun y hy hk => (fre y hy hk).elim (fun z => I.ok.has _ (.inl z)) (fun z => I.ok.has _ (.inr z))
  refine wpAny_Call_Name_kw (ld_glob I hg hm (PySem.W.callWith_K (h₀ := X.base) I.ok.mod.kin hk ?_ rfl rfl) d1)
  refine Calls.spliced_cons (made I TB hcode hmT hqT hT hdf hk0 he clo fun f t0 c' u H1 s' ru M => ?_)
  refine Calls.spliced_nil (And.intro M.inv.kIn ?_)
  have cells := NdefX.cells_of M.inv cap
  obtain ⟨doc', pm', ctv, hf⟩ := M.fn
  have run : codeAny (model X.prog X.w) X.A (.call (.ref g) ⟨[.ref f], []⟩) (CR C8.CX0 X.stack X.prog X.w H1 s' Q C8.E0) s' := by
    refine LamX.run_ofS (vs := [.ref f]) lk hcg Sg hr M.inv.env0 (hb s' [.ref f] M.inv.kIn rfl) (.cons rfl .nil) rfl fun room => ?_
    refine Exists.elim (gives f c' s' H1 Q _ (fun W pn xe E p1 p2 tk hW => ?_) M.code (hQ H1 M.ext M.tab)) fun tt h => ⟨tt, h.1.nox, h.2⟩
    -- a() in g: the function at f is still there, and so are its default and its cells
    constructor
    rintro pz sz σz Hz Qz Iz ⟨slot, hcz, ht⟩
    refine wpAny_Call_Name_kw (wpAny_mono ((pe_var (pos := p1) hNg hva d2 d3).run pz sz σz Hz (fun v H' => v = .ref f ∧ H' = Hz) Iz ⟨_, slot, rfl, rfl⟩) ?_ fun _ _ z => z)
    rintro v s1 ⟨_, H', I1, rv, rfl, eH⟩
    rw [eH] at I1
    cases rv
    have nin : ∀ b : Addr, b ∉ ([] : List Addr) := fun b => List.not_mem_nil
    have fat := I1.base.keep f _ hf M.nf.1 M.nf.2 (nin f)
    have tat := I1.base.keep t0 _ M.dft M.nt.1 M.nt.2 (nin t0)
    refine PySem.W.callWith_F0 ⟨_, _, _, _, fat⟩ (wpAny_call (codeAny_mono (R := CR (L2.CX X.prog X.w) (envOfC x sg s'.heap.objs.size g cdv :: X.stack) X.prog X.w Hz s1 Qz E) ?_ fun r s2 hq => ?_))
    · obtain ⟨⟨oc2, vs2, t2, q1, q2, q3⟩, _⟩ := I1.hok c' _ hcz
      refine PySem.W.kla_callFunE room.depth fat rfl S.co S.gen rfl ⟨c', oc2, vs2, t2, rfl, q1, q2, q3⟩ (hbind s1 _ _ _ _ _ _ _ _ tat _ _ _ _ ?_)
      refine wpAny_newFunctionEnv S.nocell (fun y hy => (List.mem_singleton.mp hy) ▸ S.par _ (List.mem_singleton.mpr rfl)) (fun h2 ns sb => ⟨I1.nolimit.fresh _ sb, ?_⟩) S.kind
      have up : ∀ b o, s1.heap.get? b = some o → h2.get? b = some o := fun b o q => sb.extBut b o (Nat.ne_of_lt (Heap.lt_size q)) (Heap.get?_push_of_some _ q)
      have J := NdefX.inv_startN (CX := L2.CX X.prog X.w) (f := f) (F := rec X params scope c') (E := E) (h₁ := h2) (tk := s1.toks + 1) (us := [u]) (vs := [.int n]) S room.hd I1.env0 rfl (.cons ru .nil) (cells_on cells I1.base) ns up
      refine PySem.W.kla_codeExpr (wpAny_mono ((hbody _ _ s1 Hz E f c' (room.deeper _)).run [] _ _ Hz Qz J ht) ?_ fun _ _ z => z)
      rintro v s3 ⟨w, H3, J3, rw, qw⟩
      exact ⟨w, H3, J3.os, J3.bare, J3.base, J3.hok, rw, qw⟩
    · match r, hq with
      | .error e, hq => exact passes_call tk hW pz σz Hz s1 e s2 I1 hq
      | .ok (.ret v), hq => exact I1.after hq
  refine wpAny_call (codeAny_mono run fun r s2 hq => ?_)
  match r, hq with
  | .ok (.ret v), hq => exact M.inv.after hq
end
end LamD

set_option Elab.async false
set_option linter.all false
set_option maxRecDepth 100000
/-! A lambda as a value: made by one statement, kept in a list, called by another one, also while an error is handled. -/
namespace LamV
open PySem PySem.Spec PyProof.Rows L2
/-- a lambda's words, what it captured, its defaults, its code object -/
structure LR where
  qual : Str
  params : Arguments
  body : Expr
  scope : Scope
  cl : List (Str × Addr)
  dV : Value
  c : Addr
abbrev LR.fd (L : LR) (doc pm ctv : Value) : FuncData := PySem.W.kdv_fn "<lambda>" L.qual L.params (.expr L.body) L.scope L.cl L.dV doc pm (.ref L.c) ctv
/-- the lambda L lies at f -/
def LamO (f : Addr) (L : LR) : HO := .ext fun h => ∃ doc pm ctv, h.get? f = some { cls := .type "function", data := .func (L.fd doc pm ctv) }
/-- a tuple of defaults at t: one int -/
def DfO (t : Addr) (n : Int) : HO := .ext fun h => ∃ u, RelV (.int n) u ∧ h.get? t = some (PySem.W.kdv_tup [u])
/-- the lambda that a row of X makes -/
abbrev lamOf (X : Cx) (params : Arguments) (body : Expr) (scope : Scope) (dV : Value) (c : Addr) : LR := ⟨X.env.qual ++ "<lambda>", params, body, scope, cloFrom X.env.cells scope.names [], dV, c⟩
section
variable {X : Cx} {pins : List (Addr × Obj)} {σ : L2.St} {H : Hp} {s : Shared}
theorem inv_obj {φ : Heap → Prop} {o : Obj} {tk : Nat} (I : Inv X pins σ H s) (now : φ (s.heap.push o)) (on : ∀ g g' : Heap, φ g → (∀ o, g.get? s.heap.objs.size = some o → g'.get? s.heap.objs.size = some o) → φ g') (fr : o.isFreed = false := by rfl) :
    Inv X pins σ (upd H s.heap.objs.size (.ext φ)) { s with heap := s.heap.push o, toks := tk } := by
  refine I.laid (fun b u e => Heap.get?_push_of_some _ e) (Nat.le_refl _) ?_
  exact ⟨now, ⟨o, Heap.get?_push_size _ fr⟩, on⟩
theorem tabs_new {T : List (Addr × Str)} {a : Addr} {o : HO} (hT : LamX.Tabs T H) (n : H a = none) : LamX.Tabs T (upd H a o) := hT.ext fun b x e => (upd_ne (ne_of_none e n)).trans e
theorem ext_new {H0 : Hp} {a : Addr} {o : HO} (x : LamX.ExtN H0 H) (n : H a = none) : LamX.ExtN H0 (upd H a o) := fun b y e z => by
  have q := x b y e z
  rw [upd_ne (ne_of_none q n), q]
/-- the function's object is laid -/
theorem tail {T : List (Addr × Str)} {c P : Addr} {params : Arguments} {body : Expr} {scope : Scope} {dV : Value} {pos : Pos} {ln : Nat} {Q : Value → Shared → Prop} (I : Inv X pins σ H s) (TB : LamX.TabB X.base X.mg c P) (hcode : X.env.code = .ref c)
    (hm : (P, X.env.qual ++ "<lambda>") ∈ T) (hq : ∀ r ∈ T, r.1 = P → r.2 = X.env.qual ++ "<lambda>") (hT : LamX.Tabs T H) (hc : closureFor scope X.env = pure (cloFrom X.env.cells scope.names []))
    (h : ∀ f c' H1 s', Inv X pins σ H1 s' → LamX.ExtN H H1 → LamX.Tabs T H1 → H1 f = some (LamO f (lamOf X params body scope dV c')) → H1 c' = some (LamX.CodeO c' (X.env.qual ++ "<lambda>")) → Q (.ref f) s') :
    wpAny (model X.prog X.w) X.A (makeTail "<lambda>" (X.env.qual ++ "<lambda>") params (.expr body) scope X.env dV .none none pos ln) Q X.xe s := by
  obtain ⟨ps, hP, ok, known⟩ := hT _ hm
  have objP : s.heap.get? P = some { cls := .none, data := .fields ps } := I.hok P _ hP
  match z : codeAmong pos ps.toList with
  | some v =>
    obtain ⟨d, rfl, hd⟩ := known pos v z
    refine PySem.W.kdv_makeTailHit (mg := X.mg) hc I.ok.glob (I.mod.glob.keeps I.bk) hcode (TB.code.keeps I.bk) objP ok z (TB.bm.keeps I.bk) fun ctv doc g' tk up le => ?_
    have J : Inv X pins σ H { s with heap := g', toks := tk } := I.kept up
    have nf := J.hok.fresh (Nat.le_refl g'.objs.size)
    refine h _ d _ _ (inv_obj (φ := fun h => ∃ doc pm ctv, h.get? g'.objs.size = some { cls := .type "function", data := .func ((lamOf X params body scope dV d).fd doc pm ctv) }) (tk := tk) J ⟨doc, _, ctv, Heap.get?_push_size _ rfl⟩ fun g g2 ⟨a1, a2, a3, q⟩ st => ⟨a1, a2, a3, st _ q⟩) (ext_new (LamX.ExtN.refl _) nf) (tabs_new hT nf) upd_same ?_
    exact (upd_ne (ne_of_none hd nf)).trans hd
  | none =>
    refine PySem.W.kdv_makeTail (mg := X.mg) hc I.ok.glob (I.mod.glob.keeps I.bk) hcode (TB.code.keeps I.bk) objP ok z TB.gP (TB.bm.keeps I.bk) fun d ctv doc g' tk up ge lt rec tab => ?_
    obtain ⟨_, od, vs, tq, eq, get, dat, nam⟩ := rec
    injection eq with eq
    subst eq
    have nd : H d = none := I.hok.fresh ge
    obtain ⟨ext, tabs⟩ := LamD.grow (pos := pos) hT hq hP ok nd
    have J := LamX.inv_table (t' := tk) (h' := g') I hP (fun b o q r => up b o q r) tab ge ⟨od, vs, tq, get, dat, nam⟩
    have nf := J.hok.fresh (Nat.le_refl g'.objs.size)
    refine h _ d _ _ (inv_obj (φ := fun h => ∃ doc pm ctv, h.get? g'.objs.size = some { cls := .type "function", data := .func ((lamOf X params body scope dV d).fd doc pm ctv) }) (tk := tk) J ⟨doc, _, ctv, Heap.get?_push_size _ rfl⟩ fun g g2 ⟨a1, a2, a3, q⟩ st => ⟨a1, a2, a3, st _ q⟩) (ext_new ext nf) (tabs_new tabs nf) upd_same ?_
    exact (upd_ne (Nat.ne_of_lt lt)).trans upd_same
end
/-- «lambda: body», «lambda a=n: body» -/
def tLam (T : List (Addr × Str)) (qn : Str) (D : Value → Hp → Prop) (R : Value → Addr → LR) : TE := fun _ H Q => LamX.Tabs T H ∧ ∀ f dV c' H1, LamX.ExtN H H1 → LamX.Tabs T H1 → D dV H1 → H1 f = some (LamO f (R dV c')) → H1 c' = some (LamX.CodeO c' qn) → Q (.ref f) H1
def dNo : Value → Hp → Prop := fun v _ => v = .none
def dInt (n : Int) : Value → Hp → Prop := fun v H => ∃ t, v = .ref t ∧ H t = some (DfO t n)
section
variable {X : Cx}
theorem pe_lamNo {T : List (Addr × Str)} {c P : Addr} {params : Arguments} {body : Expr} {scope : Scope} {pos : Pos} (TB : LamX.TabB X.base X.mg c P) (hcode : X.env.code = .ref c) (hm : (P, X.env.qual ++ "<lambda>") ∈ T) (hq : ∀ r ∈ T, r.1 = P → r.2 = X.env.qual ++ "<lambda>")
    (df : NdefX.ndefB X.env.scope scope [] = true) (hd : defaultsOf params X.env = ([], [])) : PE X (.Lambda params body scope pos) (tLam T (X.env.qual ++ "<lambda>") dNo (lamOf X params body scope)) := by
  refine ⟨fun pins s σ H Q I hh => ?_⟩
  obtain ⟨hT, hh⟩ := hh
  have fre := NdefX.ndef_free df
  have clo : closureFor scope X.env = pure (cloFrom X.env.cells scope.names []) := closure_ok fun y hy hk => (fre y hy hk).elim (fun z => I.ok.has _ (.inl z)) (fun z => I.ok.has _ (.inr z))
  refine PySem.W.kla_eval hd ?_
  rw [makeFunction_eq]
  simp only [List.zip_nil_right, List.filterMap_nil, List.isEmpty_nil, if_true, pure_bind]
  refine tail I TB hcode hm hq hT clo fun f c' H1 s' I1 x1 t1 e1 e2 => ⟨.ref f, H1, I1, rfl, hh f .none c' H1 x1 t1 rfl e1 e2⟩
theorem pe_lamInt {T : List (Addr × Str)} {c P : Addr} {params : Arguments} {body e : Expr} {scope : Scope} {n : Int} {pos : Pos} (TB : LamX.TabB X.base X.mg c P) (hcode : X.env.code = .ref c) (hm : (P, X.env.qual ++ "<lambda>") ∈ T) (hq : ∀ r ∈ T, r.1 = P → r.2 = X.env.qual ++ "<lambda>")
    (df : NdefX.ndefB X.env.scope scope [] = true) (hd : params.defaults = [e]) (hk : params.kw_defaults = []) (he : PE X e (tC (.int n))) : PE X (.Lambda params body scope pos) (tLam T (X.env.qual ++ "<lambda>") (dInt n) (lamOf X params body scope)) := by
  refine ⟨fun pins s σ H Q I hh => ?_⟩
  obtain ⟨hT, hh⟩ := hh
  have fre := NdefX.ndef_free df
  have clo : closureFor scope X.env = pure (cloFrom X.env.cells scope.names []) := closure_ok fun y hy hk => (fre y hy hk).elim (fun z => I.ok.has _ (.inl z)) (fun z => I.ok.has _ (.inr z))
  refine PySem.W.kdv_lam (hd ▸ rfl) hk ?_
  rw [hd]
  refine PySem.W.kdv_all1 (wpAny_mono (he.run pins s σ H (fun v H' => v = .int n ∧ H' = H) I ⟨rfl, rfl⟩) ?_ fun _ _ z => z)
  rintro u s0 ⟨_, H0, J0, ru, rfl, eH⟩
  rw [eH] at J0
  refine PySem.W.kdv_all0 ?_
  rw [makeFunction_eq]
  simp only [List.zip_nil_right, List.filterMap_nil, List.isEmpty_nil, List.isEmpty_cons, Bool.false_eq_true, if_true, if_false, pure_bind]
  refine wpAny_bind (wpAny_newTextTuple ?_)
  have nt := J0.hok.fresh (Nat.le_refl s0.heap.objs.size)
  have J := inv_obj (φ := fun h => ∃ u, RelV (.int n) u ∧ h.get? s0.heap.objs.size = some (PySem.W.kdv_tup [u])) (o := PySem.W.kdv_tup [u]) (tk := s0.toks) J0 ⟨u, ru, Heap.get?_push_size _ rfl⟩ fun g g2 ⟨a, b, q⟩ st => ⟨a, b, st _ q⟩
  refine tail J TB hcode hm hq (tabs_new hT nt) clo fun f c' H1 s' I1 x1 t1 e1 e2 => ⟨.ref f, H1, I1, rfl, hh f _ c' H1 (fun b o q z => x1 b o ((upd_ne (ne_of_none q nt)).trans q) z) t1 ⟨_, rfl, x1 _ _ upd_same fun ps z => by cases z⟩ e1 e2⟩
/-- «x()», x a name that holds a lambda of this frame, while an error is handled -/
def tAsk (qn : Str) (D : Value → Hp → Prop) (R : Value → Addr → LR) (i : Nat) (N : List Str) (vs : List V) (js : List Nat) (te : TE) : TE := fun σ H Q => ∃ f dV c', σ[i]? = some (some (.ref f)) ∧ H f = some (LamO f (R dV c')) ∧ D dV H ∧ H c' = some (LamX.CodeO c' qn) ∧ te (NdefX.startF N vs (js.map (NdefX.slotAt σ))) H Q
theorem pe_ask {D : Value → Hp → Prop} {x : Str} {i k : Nat} {N ps fr : List Str} {vs : List V} {js : List Nat} {params : Arguments} {body : Expr} {scope : Scope} {te : TE} {p0 : Addr × Obj} {p pos : Pos} (hp : p0 ∈ X.pn) (hN : X.N[i]? = some x) (hv : Vis X.env.scope x) (hr : L2H.RoomH (k + 1) X.A)
    (S : NdefX.NScope N ps fr scope) (df : NdefX.ndefB X.env.scope scope fr = true) (hjs : js.map (fun j => X.N[j]?) = fr.map some) (hl : vs.length = ps.length)
    (bind : ∀ (s : Shared) (H : Hp) (dV : Value) (q : Str) (cl : List (Str × Addr)) (doc pm cv ctv : Value), HOk X.prog X.w H s.heap → D dV H → ∃ us, Vals vs us ∧ BindsTo s (PySem.W.kdv_fn "<lambda>" q params (.expr body) scope cl dV doc pm cv ctv) ⟨[], []⟩ (ps.zip us))
    (hbody : ∀ (A : Around) (outer : List Env) (s : Shared) (H : Hp) (f c' : Addr), L2H.RoomH k (A.deeper (NdefX.envF (LamD.rec X params scope c') f s.heap.objs.size)) → PE (NdefX.ncxH C8.CX0 X.prog X.w X.K X.mg X.base N (LamD.rec X params scope c') f A outer s H C8.E0 p0) body te)
    (d2 : (x == ("__debug__" : Str)) = false := by decide) (d3 : (x == ("__classdict__" : Str)) = false := by decide) :
    PE X (.Call (.Name x p) [] [] pos) (tAsk (X.env.qual ++ "<lambda>") D (lamOf X params body scope) i N vs js te) := by
  constructor
  rintro pins s σ H Q I ⟨f, dV, c', slot, hf, hD, hcz, ht⟩
  refine wpAny_Call_Name_kw (wpAny_mono ((pe_var (pos := p) hN hv d2 d3).run pins s σ H (fun v H' => v = .ref f ∧ H' = H) I ⟨_, slot, rfl, rfl⟩) ?_ fun _ _ z => z)
  rintro v s1 ⟨_, H', I1, rv, rfl, eH⟩
  rw [eH] at I1
  cases rv
  have cap := NdefX.Caps.made I1.ok (NdefX.ndef_free df) (NdefX.ndef_fr df) hjs
  have cells := NdefX.cells_of I1 cap
  obtain ⟨⟨doc, pm, ctv, fat⟩, _, _⟩ := I1.hok f _ hf
  obtain ⟨us, ru, bd⟩ := bind s1 H dV (X.env.qual ++ "<lambda>") (cloFrom X.env.cells scope.names []) doc pm (.ref c') ctv I1.hok hD
  have P1 := I1.pin p0 (List.mem_append_left _ hp)
  have hpin : L2H.PinOk X.stack H s1 p0 := ⟨P1.1, P1.2.1, fun hm => (List.mem_cons.mp (I1.stkSub p0.1 hm)).elim P1.2.2.1 P1.2.2.2.1, P1.2.2.2.2⟩
  refine PySem.W.callWith_F0 ⟨_, _, _, _, fat⟩ (wpAny_call (codeAny_mono (R := CR C8.CX0 X.stack X.prog X.w H s1 Q C8.E0) ?_ fun r s2 hq => ?_))
  · obtain ⟨⟨oc2, vs2, t2, q1, q2, q3⟩, _⟩ := I1.hok c' _ hcz
    refine PySem.W.kla_callFunE hr.depth fat rfl S.co S.gen rfl ⟨c', oc2, vs2, t2, rfl, q1, q2, q3⟩ (bd _ _ _ _ ?_)
    refine wpAny_newFunctionEnv S.nocell (fun y hy => S.par _ (List.of_mem_zip hy).1) (fun h2 ns sb => ⟨I1.nolimit.fresh _ sb, ?_⟩) S.kind
    have up : ∀ b o, s1.heap.get? b = some o → h2.get? b = some o := fun b o q => sb.extBut b o (Nat.ne_of_lt (Heap.lt_size q)) (Heap.get?_push_of_some _ q)
    have J := NdefX.inv_startNH (CX := C8.CX0) (f := f) (F := LamD.rec X params scope c') (E := C8.E0) (h₁ := h2) (tk := s1.toks + (ps.zip us).length) (us := us) (vs := vs) S hpin I1.env0 hl ru cells ns up
    refine PySem.W.kla_codeExpr (wpAny_mono ((hbody _ _ s1 H f c' (hr.deeper _)).run [] _ _ H Q J ht) ?_ fun _ _ z => z)
    rintro v s3 ⟨w, H3, J3, rw, qw⟩
    exact ⟨w, H3, J3.os, J3.bare, J3.base, J3.hok, rw, qw⟩
  · match r, hq with
    | .error e, hq => exact (show False from hq).elim
    | .ok (.ret v), hq => exact I1.after hq
end
end LamV

set_option Elab.async false
set_option linter.all false
set_option maxRecDepth 100000
set_option maxHeartbeats 2000000
/-! While an error is handled: a tuple is unpacked, a list is walked. -/
namespace HTup
open PySem PySem.Spec PyProof.Rows
section
variable {prog : Program} {w : World} {A : Around} {E : Value → Shared → Prop} {s : Shared}
/-- an address that holds a short record is not the handled error's -/
theorem hot_ne {x1 it : Addr} {h : Heap} {o : Obj} {u v : Value} (hot : HotX.HotAt A x1 h) (ho : h.get? it = some o) (hd : o.data = .fields #[u, v]) : x1 ≠ it := by
  rintro rfl
  obtain ⟨_, o1, vs, g, d, c⟩ := hot
  rw [ho] at g
  cases g
  rw [hd] at d
  cases d
  cases c
theorem hot_upd {x1 it : Addr} {h : Heap} {f : Obj → Obj} (hot : HotX.HotAt A x1 h) (ne : x1 ≠ it) : HotX.HotAt A x1 (h.update it f) := by
  obtain ⟨hh, o1, vs, g, d, c⟩ := hot
  exact ⟨hh, o1, vs, (Heap.get?_update_other _ _ ne.symm).trans g, d, c⟩
theorem hot_push {x1 : Addr} {h : Heap} {o : Obj} (hot : HotX.HotAt A x1 h) : HotX.HotAt A x1 (h.push o) := by
  obtain ⟨hh, o1, vs, g, d, c⟩ := hot
  exact ⟨hh, o1, vs, Heap.get?_push_of_some _ g, d, c⟩
theorem hot_lt {x1 : Addr} {h : Heap} (hot : HotX.HotAt A x1 h) : x1 < h.objs.size := by
  obtain ⟨hh, o1, vs, g, d, c⟩ := hot
  exact Heap.lt_size g
theorem tup_over {it t x1 : Addr} {i : Nat} {items : Array Value} {Q : Option Value → Shared → Prop} (hot : HotX.HotAt A x1 s.heap) (hit : IsTupIter s.heap it t i) (ht : IsTup s.heap t items) (hx : items[i]? = none)
    (hQ : ∀ g, Heap.ExtBut it s.heap g → Q none { s with heap := g }) : wpAny (model prog w) A (pyNext (.ref it)) Q E s := by
  obtain ⟨o, ho, hc, hd⟩ := id hit
  obtain ⟨ol, hol, _, nl, hdl⟩ := ht
  have ne := hot_ne hot ho hd
  unfold pyNext
  refine wpAny_bind (wpAny_attempt (wpAny_callSpecial?_slot (name := Str.ofString "__next__") hit.typeIs slot_tupleiter_next (wpAny_call_entry slot_tupleiter_next hit.typeIs entry_tupleiter_next (show wpAny _ _ (field (.ref it) 0 >>= _) _ _ s from wpAny_bind (wpAny_field ho hd (x := .ref t) rfl ?_)) (args_tupleiter_next _))))
  show wpAny _ _ (if (Value.ref t == Value.none) = true then _ else _) _ _ s
  rw [if_neg (show ¬ ((Value.ref t == Value.none) = true) from nofun)]
  refine (show wpAny _ _ (field (.ref it) 1 >>= _) _ _ s from wpAny_bind (wpAny_field ho hd (x := .int i 0) rfl (show wpAny _ _ (seqItems? (.ref t) >>= _) _ _ s from wpAny_bind (wpAny_seqItems hol hdl ?_))))
  simp only [Int.toNat_natCast, hx]
  refine wpAny_bind (wpAny_rule (wpAny_bind (wpAny_setField ho hd (by simp) (show wpAny _ _ (newExc (.type "StopIteration") [] >>= _) _ _ _ from wpAny_bind ?_))))
  simp only [newExc, newTuple]
  refine wpAny_bind (wpAny_newObj_type (wpAny_bind (m := firstArgMember _ _) (wpAny_of_eq (a := Value.none) (by first | rfl | (simp only [firstArgMember]; rfl)) (wpAny_newObj_type ?_ (by size_fits)))) (by size_fits))
  refine HotX.raiseNew_hot (x1 := x1) ?_ (Nat.ne_of_lt ?_) (Heap.get?_push_size _ rfl) rfl (by first | (simp; done) | (simp; omega)) ?_
  · exact hot_push (hot_push (hot_upd hot ne))
  · exact hot_lt (hot_push (hot_upd hot ne))
  refine wpAny_bind (wpAny_isInstance (T := "StopIteration") (b := true) ⟨_, Heap.get?_update_self _ (Heap.get?_push_size _ rfl) rfl, rfl⟩ isSubtype_stop (wpAny_pure (hQ _ fun b o' q r => ?_)))
  rw [Heap.get?_update_other _ _ (Nat.ne_of_gt ?_)]
  · exact (((Heap.SameBut.update ..).extBut.push _).push _) b o' q r
  · exact Heap.lt_size (((Heap.SameBut.update ..).extBut.push _) b o' q r)
theorem list_over {it l x1 : Addr} {i : Nat} {items : Array Value} {Q : Option Value → Shared → Prop} (hot : HotX.HotAt A x1 s.heap) (hit : s.heap.IsListIter it l i) (hl : s.heap.IsList l items) (hx : items[i]? = none)
    (hQ : ∀ g, Heap.ExtBut it s.heap g → Q none { s with heap := g }) : wpAny (model prog w) A (pyNext (.ref it)) Q E s := by
  obtain ⟨o, ho, hc, hd⟩ := id hit
  obtain ⟨ol, hol, _, nl, hdl⟩ := hl
  have ne := hot_ne hot ho hd
  unfold pyNext
  refine wpAny_bind (wpAny_attempt (wpAny_callSpecial?_slot (name := Str.ofString "__next__") hit.typeIs slot_listiter_next (wpAny_call_entry slot_listiter_next hit.typeIs entry_listiter_next (show wpAny _ _ (field (.ref it) 0 >>= _) _ _ s from wpAny_bind (wpAny_field ho hd (x := .ref l) rfl ?_)) (args_listiter_next _))))
  show wpAny _ _ (if (Value.ref l == Value.none) = true then _ else _) _ _ s
  rw [if_neg (show ¬ ((Value.ref l == Value.none) = true) from nofun)]
  refine (show wpAny _ _ (field (.ref it) 1 >>= _) _ _ s from wpAny_bind (wpAny_field ho hd (x := .int i 0) rfl (show wpAny _ _ (seqItems? (.ref l) >>= _) _ _ s from wpAny_bind (wpAny_seqItems hol hdl ?_))))
  simp only [Int.toNat_natCast, hx]
  refine wpAny_bind (wpAny_rule (wpAny_bind (wpAny_setField ho hd (by simp) (show wpAny _ _ (newExc (.type "StopIteration") [] >>= _) _ _ _ from wpAny_bind ?_))))
  simp only [newExc, newTuple]
  refine wpAny_bind (wpAny_newObj_type (wpAny_bind (m := firstArgMember _ _) (wpAny_of_eq (a := Value.none) (by first | rfl | (simp only [firstArgMember]; rfl)) (wpAny_newObj_type ?_ (by size_fits)))) (by size_fits))
  refine HotX.raiseNew_hot (x1 := x1) ?_ (Nat.ne_of_lt ?_) (Heap.get?_push_size _ rfl) rfl (by first | (simp; done) | (simp; omega)) ?_
  · exact hot_push (hot_push (hot_upd hot ne))
  · exact hot_lt (hot_push (hot_upd hot ne))
  refine wpAny_bind (wpAny_isInstance (T := "StopIteration") (b := true) ⟨_, Heap.get?_update_self _ (Heap.get?_push_size _ rfl) rfl, rfl⟩ isSubtype_stop (wpAny_pure (hQ _ fun b o' q r => ?_)))
  rw [Heap.get?_update_other _ _ (Nat.ne_of_gt ?_)]
  · exact (((Heap.SameBut.update ..).extBut.push _).push _) b o' q r
  · exact Heap.lt_size (((Heap.SameBut.update ..).extBut.push _) b o' q r)
/-- a tuple falls into its items -/
theorem apart {t x1 : Addr} {items : Array Value} {Q : List Value → Shared → Prop} (hot : HotX.HotAt A x1 s.heap) (ht : IsTup s.heap t items)
    (hQ : ∀ g, Heap.ExtBut s.heap.objs.size s.heap g → Q items.toList { s with heap := g }) : wpAny (model prog w) A (unpackItems (.ref t) items.size none) Q E s := by
  have ne : t ≠ s.heap.objs.size := by
    obtain ⟨o, ho, _⟩ := ht
    exact Nat.ne_of_lt (Heap.lt_size ho)
  unfold unpackItems
  refine wpAny_bind ?_
  unfold notIterableAtAll
  refine wpAny_bind (wpAny_specialOf ht.typeIs slot_tuple_iter.lookup (wpAny_pure ?_))
  rw [if_neg (by simp)]
  refine wpAny_bind (wpAny_holding (iter_tuple ht (wpAny_bind (wpAny_holding (draw_tuple ne items.size 0 _ _ ⟨_, Heap.get?_push_size _ rfl, rfl, rfl⟩ (ht.push _) (by omega) fun g1 it1 sb => ?_)))))
  have all : (items.toList.drop 0).take items.size = items.toList := List.take_of_length_le (by simp)
  rw [all, if_neg (by simp)]
  have hot1 : HotX.HotAt A x1 g1 := by
    obtain ⟨hh, o1, vs, g, d, c⟩ := hot
    exact ⟨hh, o1, vs, sb.extBut _ _ (Nat.ne_of_lt (Heap.lt_size g)) (Heap.get?_push_of_some _ g), d, c⟩
  refine wpAny_bind (wpAny_holding (tup_over (x1 := x1) hot1 it1 ((ht.push _).extBut sb.extBut ne) (by simp) fun g2 e2 => ?_))
  simp only [Option.isSome_none, Bool.false_eq_true, if_false]
  exact wpAny_pure (hQ g2 fun b o q r => e2 b o q (sb.extBut b o q (Heap.get?_push_of_some _ r)))
end
open L2 L2H
section
variable {X : Cx}
theorem pg_tupH {es : List Expr} {k n : Nat} {t : TGs} {pos : Pos} (hc : HotC X) (h : PGs X es t) (hn : (assignEach es X.env).length = n := by rfl) (hst : (assignEach es X.env).findIdx? (·.1) = none := by rfl) : PG X (.Tuple es k pos) (gTup X.K n t) := by
  constructor
  rintro pins s σ H v u Q I r ⟨a, xs, rfl, hq, hl, hw⟩
  cases r
  obtain ⟨its, rv, ht, hz⟩ := I.tuple hq
  obtain ⟨x1, hot⟩ := hc.at I
  rw [assign_Tuple]
  refine wpAny_bind (wpAny_standAt ?_)
  unfold unpack
  rw [show (assignEach es X.env).length = its.toArray.size by simp [hn, ← hl, rv.length], hst]
  refine wpAny_bind (wpAny_holding (apart hot ht fun g e => ?_))
  have J : Inv X pins σ H { s with heap := g } := I.kept (t' := s.toks) fun b o q => e b o (Nat.ne_of_lt (Heap.lt_size q)) q
  exact h.run pins _ σ H xs _ Q J (by simpa using rv) hw
theorem turn_listH {P : Program} {w : World} {K : PySem.W.Frag} {tg : Expr} (a it : Addr) : TurnH P w K tg (Itl K a) [it] it (fun i h => h.IsListIter it a i) := by
  have T := turn_list (P := P) (w := w) (K := K) (tg := tg) a it
  refine ⟨T.mem, T.obj, T.keep, ?_, ?_, T.self⟩
  · rintro X rfl rfl rfl hc i pins s σ H E I hf st ⟨xs, x, hq, hx⟩
    obtain ⟨its, rv, p, hz⟩ := I.list hq
    obtain ⟨u, hu, ru⟩ := rv.get hx
    obtain ⟨f0, f1, f2, f3, f4, f5⟩ := hf it List.mem_cons_self
    refine wpAny_pyNext_list_item st p.isList (x := u) (by simpa using hu) fun g st' sb => ⟨u, rfl, ?_⟩
    obtain ⟨o, e, c, d⟩ := id st'
    refine go_of (s := { s with heap := g }) e c d (by decide) ⟨x, H, I.turned (t' := s.toks) (fun b o hb e => (sb.2 b hb).trans e) f0 f1 f3 f4 f5, ru, ⟨rfl, fun ys hy => ?_⟩, st', fun b hb => (hf b hb).1⟩
    rw [I.list_inj hy hq]
    exact hx
  · rintro X rfl rfl rfl hc i pins s σ H E I hf st ⟨xs, hq, hx⟩
    obtain ⟨its, rv, p, hz⟩ := I.list hq
    obtain ⟨f0, f1, f2, f3, f4, f5⟩ := hf it List.mem_cons_self
    obtain ⟨x1, hot⟩ := hc.at I
    have hl := rv.length
    exact list_over hot st p.isList (by simp; omega) fun g e => ⟨rfl, I.turned (t' := s.toks) (fun b o hb q => e b o hb q) f0 f1 f3 f4 f5⟩
/-- for .. in a list -/
def iL (K : PySem.W.Frag) (tl : TE) : TI := fun σ H R => tl σ H fun v H1 => ∃ a xs, v = .ref a ∧ SqL K H1 a xs ∧ R (Itl K a) H1
theorem pi_listH {tg l : Expr} {tl : TE} (hl : PE X l tl) : PIH X tg l (iL X.K tl) := by
  constructor
  intro pins s σ H R I h
  refine wpAny_mono (hl.run pins s σ H _ I h) ?_ fun _ _ z => z
  rintro v s1 ⟨_, H1, I1, rv, a, xs, rfl, hq, go⟩
  cases rv
  obtain ⟨its, r, lst, _⟩ := I1.list hq
  refine wpAny_pyIter_list lst.isList ⟨_, [s1.heap.objs.size], _, Itl X.K a, H1, rfl, I1.kept (t' := s1.toks) fun b o' q => Heap.get?_push_of_some _ q, turn_listH a _, ⟨_, Heap.get?_push_size _ rfl, rfl, rfl⟩, fun b hb => ?_, go⟩
  rw [List.mem_singleton.mp hb]
  exact Inv.fpOk I1 (Nat.le_refl _) (I1.hok.fresh (Nat.le_refl _))
end
end HTup

set_option Elab.async false
set_option linter.all false
set_option maxRecDepth 100000
set_option maxHeartbeats 2000000
/-! own errors again, with what is known of the context of one that flies: None -/
namespace Lw
open PySem PySem.Spec PyProof.Rows L2
/-- C(e, ..): an error is made by its class's own __init__; its context is None -/
theorem mk_own {X : Cx} {CX : CXT} {x : Str} {C fI : Addr} {k : Nat} {fd : FuncData} {ps : List Str} {sp : Sp} {e : Expr} {es : List Expr} {ta : TA} {p pos : Pos} (T : OexC X.K C) (iC : PySem.W.findIn X.K (.ref C) "__init__" = some (some (.ref fI))) (tI : PySem.W.typeIn X.K (.ref fI) = some (.type "function"))
    (ok : FnOk X.prog X.w X.K X.mg X.base CX k fI fd ps sp) (hr : Room (k + 1) X.A) (hb : Binds X.K fd ps []) (hx : Passes CX X (fun _ _ _ => False)) (hg : Gl X x) (hm : X.mg x = some (.ref C)) (ha : PA X (e :: es) ta)
    (hdb : (x == ("__debug__" : Str)) = false := by decide) (he : starEach (e :: es) X.env = (false, eval e X.env) :: starEach es X.env := by rfl) (hpl : (backTo pos (starEach es X.env)).any (·.1) = false := by rfl) :
    L2N.PMk X (.Call (.Name x p) (e :: es) [] pos) (tMkO C sp [] ta) := by
  intro pins s σ H Q I h
  obtain ⟨nm, qn, NN, bs, bm, sn, sub, ab, col, dd, m0, m1, m2, m3, m5, cls, below⟩ := T.cls
  refine wpAny_Call_Name_kw (ld_glob I hg hm (PySem.W.callWith_K (h₀ := X.base) I.ok.mod.kin T.kC (wpAny_mono (ha.run pos pins s σ H _ I h) ?_ fun _ _ z => z) he hpl) hdb)
  rintro us ⟨hp, gs, dr, tk, os⟩ ⟨vs, H1, J, rv, few, run⟩
  refine ⟨J.kIn, (show wpAny _ _ (call (.ref C) us) _ _ _ from ?_)⟩
  -- the tuple of the arguments, then the error: two new objects
  have nx : H1 (hp.objs.size + 1) = none := J.hok.fresh (Nat.le_succ _)
  have want := run _ nx
  rw [List.append_nil] at want
  have up : ∀ b o, hp.get? b = some o → ((hp.push (PySem.W.kdv_tup us)).push (PySem.HandSPX.excO C hp.objs.size)).get? b = some o := fun b o q => Heap.get?_push_of_some _ (Heap.get?_push_of_some _ q)
  have J2 := J.laid (t' := tk) (a := hp.objs.size + 1) (o := exo (hp.objs.size + 1) C none) (h' := (hp.push (PySem.W.kdv_tup us)).push (PySem.HandSPX.excO C hp.objs.size)) up (Nat.le_succ _) (exo_ok (by heap_get))
  have rs : Vals (V.ref (hp.objs.size + 1) :: vs) (Value.ref (hp.objs.size + 1) :: us) := .cons rfl rv
  have len : (Value.ref (hp.objs.size + 1) :: us).length = ps.length := rs.length.symm.trans (ok.len _ _ _ _ want)
  have bd := hb _ (Value.ref (hp.objs.size + 1) :: us) J2.kIn (by rw [List.append_nil]; exact len)
  rw [List.append_nil] at bd
  have sz : us.length ≤ sizeLine := by
    have := Paired.length rv
    rw [sizeLine_eq]
    omega
  refine wpAny_call (PySem.HandSPX.call_own F.excBase_ValueError (fun Y => PySem.HandSPX.refsVE_contains Y bm below) (J.kIn _ _ cls) (PySem.W.looks_findIn J.kIn iC) (fun self => PySem.W.bind_fn J.kIn self tI) sz (codeAny_mono (ok.run _ X.stack _ _ ⟨_, []⟩ _ _ _ (fun _ _ _ => False) (hr.make C us []) (J2.env0.make C us []) bd rs want) ?_))
  intro r s' fin
  match r, s', fin with
  | .error er, s', fin => exact hx pins σ _ _ er s' J2 fin
  | .ok (.ret u), ⟨h2, g2, d2, t2, os'⟩, ⟨_, H2, os2, bare, un, hok, ru, rfl, d, fs, ea, ed, nd, q2⟩ =>
    obtain ⟨t0, G, K, kG, ge, at_, na⟩ := mk_end0 (d2 := d2) (t2 := t2) J (Nat.le_succ _) up un hok os2 bare ea ed nd
    exact ⟨ru, _, _, _, ⟨G, g2, d2, t2, os'⟩, _, .ref C, some d, rfl, K, kG, ge, at_, ⟨rfl, rfl, fun ws hw => by cases hw; rfl⟩, rfl, rfl, na, rfl, bare, raises_own T.exC T.tyC, q2⟩
theorem ps_raiseN {X : Cx} {W : WX} {x : Str} {C : Addr} {fld wd : Str} {j : Nat} {e : Expr} {ta : TA} {p pos pos2 : Pos} (hc : X.calm = true) (tk : L2N.Takes X W) (R : ErrIn X.prog X.w X.K X.mg X.base x C fld wd) (hr : Room j X.A) (hj : 3 ≤ j) (hg : Gl X x) (ha : PA X [e] ta)
    (hdb : (x == ("__debug__" : Str)) = false := by decide) (he : starEach [e] X.env = (false, eval e X.env) :: starEach [] X.env := by rfl) (hpl : (backTo pos (starEach [] X.env)).any (·.1) = false := by rfl) :
    PS X (.Raise (some (.Call (.Name x p) [e] [] pos)) none pos2) (fun _ σ H => tMkO C (spErr C fld wd) [] ta σ H fun cls d H' => W cls d σ H') := by
  obtain ⟨fI, fd, h1, h2, ok, b⟩ := R.ini
  exact L2N.ps_raise hc tk (mk_own R.O h1 h2 ok (hr.mono hj) b pass0 hg R.mx ha hdb he hpl)
section
variable {X : Cx} {pins : List (Addr × Obj)} {σ : L2.St} {H : Hp}
/-- an error on the ground whose context is None -/
theorem groundN {a : Addr} {cls : Value} {d : Option Addr} {B h : Heap} {sI s' : Shared} (fo : X.env.frame = some X.env.locals) (J : Inv X pins σ H sI)
    (old : ∀ b o, sI.heap.get? b = some o → b ∉ frs X.stack → B.get? b = some o) (up : sI.heap.UpToSlots h) (os : s'.os = sI.os) (bare : AllBare s'.gens) (na : H a = none)
    (fl : HandSPX.FlyingZ B (X.env :: X.outer) a (L2N.Zn cls d) h) :
    ∃ oe, h.get? a = some oe ∧ L2N.Zn cls d oe ∧ (∃ vs, oe.data = .fields vs) ∧ Inv X pins σ H { s' with heap := h } ∧ Inv (X.suite a ((a, oe) :: (X.pn ++ pins))) [] σ H { s' with heap := h } := by
  obtain ⟨oe, vs, get, z, dat⟩ := fl.there
  have K : Inv X pins σ H { s' with heap := h } := J.landed old fl.1 up os bare
  have off : a ∉ frs (X.env :: X.outer) := by
    intro m
    obtain ⟨_, o, ho, no⟩ := fl.2.2.1.mem m
    have e : oe = o := Option.some.inj (get.symm.trans ho)
    exact no vs (e ▸ dat)
  refine ⟨oe, get, z, ⟨vs, dat⟩, K, K.suite get dat na (fun e => off ?_) (fun m => off ?_)⟩
  · refine List.mem_filterMap.mpr ⟨X.env, .head _, ?_⟩
    rw [fo, ← e]
  · obtain ⟨en, hen, hfr⟩ := List.mem_filterMap.mp m
    exact List.mem_filterMap.mpr ⟨en, .tail _ hen, hfr⟩
end
section
variable {X : Cx} {x n : Str} {c : Value} {i : Nat} {body suite : List Stmt} {b0 : Stmt} {np pos pos' : Pos} {tb : WX → TS} {ts : Addr → Value → Option Addr → TS} {more : List ExceptHandler}
theorem ps_try_N (so : X.stack = X.env :: X.outer) (fo : X.env.frame = some X.env.locals) (nd : X.N.Nodup) (hi : X.N[i]? = some n) (loc : X.env.kindOf n = some .local) (nam : Names X x c)
    (inBody : ∀ (W : WX) (pn : List (Addr × Obj)) (xe : Value → Shared → Prop), L2N.Takes (X.tr pn xe) W → PassesOwn (model X.prog X.w) X.A X.env xe →
      PSs (X.tr pn xe) body (tb W))
    (inSuite : ∀ (a : Addr) (oe : Obj) (cls : Value) (d : Option Addr) (pn : List (Addr × Obj)), L2N.Zn cls d oe → (∃ vs, oe.data = .fields vs) →
      PSs (X.suite a ((a, oe) :: pn)) (b0 :: suite) (ts a cls d)) :
    PS X (.Try body (.ExceptHandler (some (.Name x np)) (some n) (b0 :: suite) pos' :: more) [] [] pos) (fun D σ H => tb (wFirst X.K c i ts D) D σ H) := by
  constructor
  intro pins s σ H D I h
  have frames : X.A.frames = some (X.env :: X.outer) := I.ok.frames.trans (congrArg some so)
  refine wpAny_Try_except (wpAny_mono ((inBody (wFirst X.K c i ts D) (X.pn ++ pins) (Lands X pins D (.ExceptHandler (some (.Name x np)) (some n) (b0 :: suite) pos' :: more)) ?_ PassesOwn.looking).run [] s σ H D (I.toTry _) h) ?_ fun _ _ z => z)
  · -- an error leaves the body: it lands, it is of c, the suite runs
    rintro _ s' ⟨a, B, sI, ps, τ, G, cls, d, rfl, J0, old, up, sky, na, os, bare, hit, run⟩
    have J : Inv X pins τ G sI := J0.ofTry I.ok
    refine L2N.Sky.land L2N.Zn.steady frames fo (show Sky B (X.env :: X.outer) a (L2N.Zn cls d) X.env.locals s'.heap from so ▸ sky) fun g fl up1 => ?_
    obtain ⟨oe, get, z, _, K, S⟩ := groundN fo J old (up.trans up1) os bare na fl
    have isC : PySem.W.Looks (model X.prog X.w) g (typeOf (.ref a)) cls := fun A' Q' E' t keep q => wpAny_typeOf_ref (keep _ _ get) (z.1.symm ▸ q)
    refine wpAny_handleBy_cons (codeAny_handlers_test ?_) nofun
    have ask : ∀ {Q E : Value → Shared → Prop}, Q c { s' with heap := g } → wpAny (model X.prog X.w) (X.A.mark (some (.ref a))) (eval (.Name x np) X.env) Q E { s' with heap := g } := by
      intro Q' E' q
      rcases nam.2.2 with m | ⟨m, bt, ne⟩
      · exact ld_glob (X := X.suite a ((a, oe) :: (X.pn ++ pins))) S nam.1 m q nam.2.1
      · exact ld_blt (X := X.suite a ((a, oe) :: (X.pn ++ pins))) S nam.1 m bt q ne nam.2.1
    refine ask ((PySem.W.exm_one (M := model X.prog X.w) K.kIn isC hit).here (codeAny_handlers_suite_as (HandSPX.lands_againZ fl fun g2 fl2 up2 => ?_)))
    obtain ⟨oe2, _, z2, flds, _, S2⟩ := groundN fo J old ((up.trans up1).trans up2) os bare na fl2
    refine store_ok (X := X.suite a ((a, oe2) :: (X.pn ++ pins))) (v := .ref a) S2 nd hi (.inl loc) rfl (fun s5 S5 => ?_) (.inr loc)
    refine wpAny_mono ((inSuite a oe2 cls d (X.pn ++ pins) z2 flds).run [] s5 _ G _ S5 (run a na)) ?_ fun _ _ z => z.elim
    have gone : ∀ {τ6 G6 s6} {Q : Shared → Prop}, Inv (X.suite a ((a, oe2) :: (X.pn ++ pins))) [] τ6 G6 s6 → (∀ s7, Inv X pins (τ6.set i none) G6 s7 → Q s7) → wpAny (model X.prog X.w) X.A (do bindName X.env n .none; unbindBehindTheSuite X.env n pos') (fun _ s7 => Q s7) X.xe s6 :=
      fun S6 after => gone_ok (S6.unsuite I.ok) nd hi loc after
    intro f s6 fin
    match f, fin with
    | .next, ⟨τ6, G6, S6, q⟩ => exact gone S6 fun s7 J7 => ⟨_, _, J7, q⟩
    | .brk, ⟨τ6, G6, S6, q⟩ => exact gone S6 fun s7 J7 => ⟨_, _, J7, q⟩
    | .cont, ⟨τ6, G6, S6, q⟩ => exact gone S6 fun s7 J7 => ⟨_, _, J7, q⟩
    | .ret u, ⟨v, τ6, G6, S6, r, q⟩ => exact gone S6 fun s7 J7 => ⟨_, _, _, J7, r, q⟩
  · -- the body ends by itself
    intro f s1 fin
    have fin := SP.back (X := X) (pins := pins) fin fun J => J.ofTry I.ok
    match f, fin with
    | .next, fin => exact wpAny_execs_nil fin
    | .brk, fin => exact fin
    | .cont, fin => exact fin
    | .ret u, fin => exact fin
end
end Lw

set_option Elab.async false
set_option linter.all false
set_option maxRecDepth 100000
set_option maxHeartbeats 2000000
/-! g(lambda: ..), g(lambda a=n: ..), where g calls what it gets without arguments; errors fly with the context None. -/
namespace LamN
open PySem PySem.Spec PyProof.Rows L2
/-- g calls what it got by the name a; TT is what it makes of the reading of that call -/
def Gives (X : Cx) (Ng : List Str) (x : Str) (sg : Scope) (g : Addr) (cdg : Value) (bg : List Stmt) (a q : Str) (TT : (XK → Hp → VK → Prop) → Hp → VK → Prop) : Prop :=
  ∀ (f c' : Addr) (s : Shared) (H : Hp) (Q : VK) (tl : XK → Hp → VK → Prop),
    (∀ W pn xe E p1 p2, L2N.Takes ((cxOf C8.CX0 X.prog X.w X.K X.mg X.base Ng x sg g cdg X.A X.stack s H C8.E0).tr pn xe) W → (∀ cls d τ G, E cls d G → W cls d τ G) →
      PE ((cxOf C8.CX0 X.prog X.w X.K X.mg X.base Ng x sg g cdg X.A X.stack s H C8.E0).tr pn xe) (.Call (.Name a p1) [] [] p2) fun τ G R => τ[0]? = some (some (.ref f)) ∧ G c' = some (LamX.CodeO c' q) ∧ tl E G R) →
    H c' = some (LamX.CodeO c' q) → TT tl H Q → ∃ t, PSs (cxOf C8.CX0 X.prog X.w X.K X.mg X.base Ng x sg g cdg X.A X.stack s H C8.E0).nox bg t ∧ t { nx := fun _ G => Q .non G, rt := Q } (L2.start Ng [.ref f]) H
def tHand (T : List (Addr × Str)) (TT : (XK → Hp → VK → Prop) → Hp → VK → Prop) (qn : Str) (D : Value → Hp → Prop) (R : Value → Addr → LamV.LR) (N : List Str) (vs : List V) (js : List Nat) (t : XK → TE) : TE := fun σ H Q => LamX.Tabs T H ∧ ∀ f dV c' H1, LamX.ExtN H H1 → LamX.Tabs T H1 → D dV H1 → H1 f = some (LamV.LamO f (R dV c')) →
  TT (fun E G Q' => G f = some (LamV.LamO f (R dV c')) ∧ D dV G ∧ t E (NdefX.startF N vs (js.map (NdefX.slotAt σ))) G Q') H1 Q
section
variable {X : Cx}
theorem pe_hand {T : List (Addr × Str)} {TT : (XK → Hp → VK → Prop) → Hp → VK → Prop} {D : Value → Hp → Prop} {x a : Str} {g : Addr} {k : Nat} {pg : Arguments} {bg : List Stmt} {sg : Scope} {dV kV doc pm cdv ct oc : Value} {an od : Option Addr} {osl : Array (Option Value)} {Ng N ps fr : List Str} {vs : List V} {js : List Nat}
    {params : Arguments} {body : Expr} {scope : Scope} {t : XK → TE} {p lpos pos : Pos}
    (hg : Gl X x) (hm : X.mg x = some (.ref g)) (hk : PySem.W.keepIn X.K (.ref g) = true)
    (lk : X.K.lookup g = some ⟨oc, od, .func (PySem.W.fnOf x x pg bg sg dV kV doc pm an cdv ct), osl⟩)
    (hcg : PySem.W.codeIn X.K cdv x = true) (hb : L2.Binds X.K (PySem.W.fnOf x x pg bg sg dV kV doc pm an cdv ct) [a] [])
    (Sg : FnScope Ng [a] sg) (hNg : Ng[0]? = some a) (hva : Vis sg a) (gives : Gives X Ng x sg g cdv bg a (X.env.qual ++ "<lambda>") TT) (hr : Room (k + 2) X.A)
    (mk : PE X (.Lambda params body scope lpos) (LamV.tLam T (X.env.qual ++ "<lambda>") D (LamV.lamOf X params body scope)))
    (S : NdefX.NScope N ps fr scope) (df : NdefX.ndefB X.env.scope scope fr = true) (hjs : js.map (fun j => X.N[j]?) = fr.map some) (hl : vs.length = ps.length)
    (bind : ∀ (s : Shared) (H : Hp) (dV : Value) (q : Str) (cl : List (Str × Addr)) (doc pm cv ctv : Value), HOk X.prog X.w H s.heap → D dV H → ∃ us, Vals vs us ∧ BindsTo s (PySem.W.kdv_fn "<lambda>" q params (.expr body) scope cl dV doc pm cv ctv) ⟨[], []⟩ (ps.zip us))
    (hbody : ∀ (A : Around) (outer : List Env) (s : Shared) (H : Hp) (E : XK) (f c' : Addr), Room k (A.deeper (NdefX.envF (LamD.rec X params scope c') f s.heap.objs.size)) → PE (NdefX.ncx (L2N.CX X.prog X.w) X.prog X.w X.K X.mg X.base N (LamD.rec X params scope c') f A outer s H E) body (t E))
    (d1 : (x == ("__debug__" : Str)) = false := by decide) (d2 : (a == ("__debug__" : Str)) = false := by decide) (d3 : (a == ("__classdict__" : Str)) = false := by decide) :
    PE X (.Call (.Name x p) [.Lambda params body scope lpos] [] pos) (tHand T TT (X.env.qual ++ "<lambda>") D (LamV.lamOf X params body scope) N vs js t) := by
  constructor
  rintro pins s σ H Q I ⟨hT, hQ⟩
  have cap := NdefX.Caps.made I.ok (NdefX.ndef_free df) (NdefX.ndef_fr df) hjs
  refine wpAny_Call_Name_kw (ld_glob I hg hm (PySem.W.callWith_K (h₀ := X.base) I.ok.mod.kin hk ?_ rfl rfl) d1)
  refine Calls.spliced_cons (wpAny_mono (mk.run pins s σ H (fun v G => ∃ f dV c', v = .ref f ∧ G f = some (LamV.LamO f (LamV.lamOf X params body scope dV c')) ∧ G c' = some (LamX.CodeO c' (X.env.qual ++ "<lambda>")) ∧
    TT (fun E G Q' => G f = some (LamV.LamO f (LamV.lamOf X params body scope dV c')) ∧ D dV G ∧ t E (NdefX.startF N vs (js.map (NdefX.slotAt σ))) G Q') G Q) I ⟨hT, fun f dV c' H1 x1 t1 dd e1 e2 => ⟨f, dV, c', rfl, e1, e2, hQ f dV c' H1 x1 t1 dd e1⟩⟩) ?_ fun _ _ z => z)
  rintro u s' ⟨_, H1, M, rv, f, dV, c', rfl, hf, hc, want⟩
  cases rv
  refine Calls.spliced_nil (And.intro M.kIn ?_)
  have cells := NdefX.cells_of M cap
  have run : codeAny (model X.prog X.w) X.A (.call (.ref g) ⟨[.ref f], []⟩) (CR C8.CX0 X.stack X.prog X.w H1 s' Q C8.E0) s' := by
    refine LamX.run_ofS (vs := [.ref f]) lk hcg Sg hr M.env0 (hb s' [.ref f] M.kIn rfl) (.cons rfl .nil) rfl fun room => ?_
    refine Exists.elim (gives f c' s' H1 Q _ (fun W pn xe E p1 p2 tk hW => ?_) hc want) fun tt h => ⟨tt, h.1.nox, h.2⟩
    -- a() in g
    constructor
    rintro pz sz σz Hz Qz Iz ⟨slot, hcz, hfz, hD, ht⟩
    refine wpAny_Call_Name_kw (wpAny_mono ((pe_var (pos := p1) hNg hva d2 d3).run pz sz σz Hz (fun v H' => v = .ref f ∧ H' = Hz) Iz ⟨_, slot, rfl, rfl⟩) ?_ fun _ _ z => z)
    rintro v s1 ⟨_, H', I1, rv, rfl, eH⟩
    rw [eH] at I1
    cases rv
    obtain ⟨⟨doc', pm', ctv, fat⟩, _, _⟩ := I1.hok f _ hfz
    obtain ⟨us, ru, bd⟩ := bind s1 Hz dV (X.env.qual ++ "<lambda>") (cloFrom X.env.cells scope.names []) doc' pm' (.ref c') ctv I1.hok hD
    refine PySem.W.callWith_F0 ⟨_, _, _, _, fat⟩ (wpAny_call (codeAny_mono (R := CR (L2N.CX X.prog X.w) (envOfC x sg s'.heap.objs.size g cdv :: X.stack) X.prog X.w Hz s1 Qz E) ?_ fun r s2 hq => ?_))
    · obtain ⟨⟨oc2, vs2, t2, q1, q2, q3⟩, _⟩ := I1.hok c' _ hcz
      refine PySem.W.kla_callFunE room.depth fat rfl S.co S.gen rfl ⟨c', oc2, vs2, t2, rfl, q1, q2, q3⟩ (bd _ _ _ _ ?_)
      refine wpAny_newFunctionEnv S.nocell (fun y hy => S.par _ (List.of_mem_zip hy).1) (fun h2 ns sb => ⟨I1.nolimit.fresh _ sb, ?_⟩) S.kind
      have up : ∀ b o, s1.heap.get? b = some o → h2.get? b = some o := fun b o q => sb.extBut b o (Nat.ne_of_lt (Heap.lt_size q)) (Heap.get?_push_of_some _ q)
      have J := NdefX.inv_startN (CX := L2N.CX X.prog X.w) (f := f) (F := LamD.rec X params scope c') (E := E) (h₁ := h2) (tk := s1.toks + (ps.zip us).length) (us := us) (vs := vs) S room.hd I1.env0 hl ru (LamD.cells_on cells I1.base) ns up
      refine PySem.W.kla_codeExpr (wpAny_mono ((hbody _ _ s1 Hz E f c' (room.deeper _)).run [] _ _ Hz Qz J ht) ?_ fun _ _ z => z)
      rintro v s3 ⟨w, H3, J3, rw, qw⟩
      exact ⟨w, H3, J3.os, J3.bare, J3.base, J3.hok, rw, qw⟩
    · match r, hq with
      | .error e, hq => exact L2N.passes_call tk hW pz σz Hz s1 e s2 I1 hq
      | .ok (.ret v), hq => exact I1.after hq
  refine wpAny_call (codeAny_mono run fun r s2 hq => ?_)
  match r, hq with
  | .ok (.ret v), hq => exact M.after hq
end
end LamN

set_option Elab.async false
set_option linter.all false
set_option maxRecDepth 100000
/-! `_law_field` where it asks its list of lambdas; `_law_tried` over tables of code objects -/
namespace Lw
open PySem PySem.Spec PyProof.Rows L2
/-- the lambda at place k of the list that is row j of a def -/
def lamAt (st : Stmt) (j k : Nat) : Arguments × Expr × Scope := match (defBody st)[j]? with
  | some (.Assign _ (.List es _) _) => match es[k]? with
    | some (.Tuple [_, .Lambda a b s _] _ _) => (a, b, s)
    | _ => (defArgs st, .Constant .none 0 default, defScope st)
  | _ => (defArgs st, .Constant .none 0 default, defScope st)
/-- a def that raises nothing, called while the error p is handled, whose context is None and of which Z is known -/
structure FnT (P : Program) (w : World) (K : PySem.W.Frag) (mg : Str → Option Value) (base : Heap) (k : Nat) (f : Addr) (fd : FuncData) (ps : List Str) (Z : Addr × Obj → Prop) (sp : Sp) : Prop where
  len : ∀ vs H Q E, sp vs H Q E → vs.length = ps.length
  run : ∀ (A : Around) (outer : List Env) (s : Shared) (H : Hp) (args : Args) (us : List Value) (vs : List V) (Q : VK) (E : XK) (p : Addr × Obj), L2H.RoomH k A → L2H.Hot1 A p → Z p → L2H.PinOk outer H s p → Env0 P w K mg base A outer s H → BindsTo s fd args (ps.zip us) → Vals vs us → sp vs H Q E →
    codeAny (model P w) A (.call (.ref f) args) (CR CX0 outer P w H s Q E) s
theorem FnC.toT {P : Program} {w : World} {K : PySem.W.Frag} {mg : Str → Option Value} {base : Heap} {k j : Nat} {f : Addr} {fd : FuncData} {ps : List Str} {Z : Addr × Obj → Prop} {sp sp' : Sp} (F : FnC P w K mg base k f fd ps Z sp) (hj : k ≤ j) (h : ∀ vs H Q E, sp' vs H Q E → sp vs H Q E) : FnT P w K mg base j f fd ps Z sp' :=
  ⟨fun vs H Q E q => F.len vs H Q E (h vs H Q E q), fun A outer s H args us vs Q E p hr _ hz hp e b r q => F.run A outer s H args us vs Q E p (hr.mono hj) hz hp e b r (h _ _ _ _ q)⟩
/-- a def whose code object is known -/
theorem fn_ofTl {P : Program} {w : World} {K : PySem.W.Frag} {mg : Str → Option Value} {base : Heap} {k : Nat} {x qual : Str} {st : Stmt} {f c : Addr} {oc dV kV doc pm ct : Value} {od an : Option Addr} {osl : Array (Option Value)} {N ps : List Str} {Z : Addr × Obj → Prop} {sp : Sp}
    (lk : K.lookup f = some ⟨oc, od, .func (PySem.W.fnOf x qual (defArgs st) (defBody st) (defScope st) dV kV doc pm an (.ref c) ct), osl⟩) (hcd : PySem.W.codeIn K (.ref c) qual = true) (S : FnScope N ps (defScope st))
    (len : ∀ vs H Q E, sp vs H Q E → vs.length = ps.length)
    (hbody : ∀ (A : Around) (outer : List Env) (s : Shared) (H : Hp) (vs : List V) (Q : VK) (E : XK) (p : Addr × Obj), L2H.Hot1 A p → Z p → L2H.RoomH k (A.deeper (envOfC qual (defScope st) s.heap.objs.size f (.ref c))) → sp vs H Q E →
      ∃ t, PSs (L2H.cxH CX0 P w K mg base N qual (defScope st) f (.ref c) A outer s H E p).nox (defBody st) t ∧ t { nx := fun _ H' => Q .non H', rt := Q } (L2.start N vs) H) : FnT P w K mg base (k + 1) f (PySem.W.fnOf x qual (defArgs st) (defBody st) (defScope st) dV kV doc pm an (.ref c) ct) ps Z sp := by
  constructor
  · exact len
  intro A outer s H args us vs Q E p hr hot hz hpin e0 hb r hsp
  have up : ∀ b o, base.get? b = some o → s.heap.get? b = some o := fun b o e => (e0.bs b o e).1
  have KX : K.In s.heap := e0.mod.kin.keeps up
  refine codeAny_call_function hr.depth (KX _ _ lk) rfl S.co S.gen rfl (PySem.W.codeRec_of KX hcd) (hb _ _ _ _ ?_)
  refine wpAny_newFunctionEnv_cells S.kind ?_ ?_
  · intro y hy
    rcases S.par y.1 (List.of_mem_zip hy).1 with q | q
    · exact .inl q
    · exact .inr ⟨q, PySem.W.cellsFrom_some _ _ _ (.inl q)⟩
  rintro env rfl s1 x
  refine And.intro ((e0.mod.nolimit.keeps up).keeps x.toInCall.keep) (codeAny_func ?_)
  obtain ⟨t, ht, hq⟩ := hbody A outer s H vs Q E p hot hz (hr.deeper _) hsp
  refine wpAny_mono (ht.nox.run [] s1 (L2.start N vs) H _ (L2H.inv_startH S hpin e0 (len _ _ _ _ hsp) r x) hq) ?_ fun _ _ z => z
  intro fl s' hs
  match fl, hs with
  | .ret u, ⟨v, σ', H', J, rv, q⟩ => exact ⟨v, H', J.os, J.bare, J.base, J.hok, rv, q⟩
  | .next, ⟨σ', H', J, q⟩ => exact ⟨.non, H', J.os, J.bare, J.base, J.hok, rfl, q⟩
  | .brk, ⟨_, _, _, q⟩ => exact False.elim q
  | .cont, ⟨_, _, _, q⟩ => exact False.elim q
theorem pe_callT {X : Cx} {k : Nat} {f : Addr} {fd : FuncData} {ps : List Str} {Z : Addr × Obj → Prop} {sp : Sp} {x : Str} {q pos : Pos} {e : Expr} {es : List Expr} {ta : TA} {p : Addr × Obj} (F : FnT X.prog X.w X.K X.mg X.base k f fd ps Z sp) (hr : L2H.RoomH k X.A) (hp : p ∈ X.pn) (hot : L2H.Hot1 X.A p) (hz : Z p) (hg : Gl X x) (hm : X.mg x = some (.ref f)) (hk : PySem.W.keepIn X.K (.ref f) = true) (hb : Binds X.K fd ps [])
    (ha : PA X (e :: es) ta) (hdb : (x == ("__debug__" : Str)) = false := by decide) (he : starEach (e :: es) X.env = (false, eval e X.env) :: starEach es X.env := by rfl) (hpl : (backTo pos (starEach es X.env)).any (·.1) = false := by rfl) :
    PE X (.Call (.Name x q) (e :: es) [] pos) (tCall sp [] E0 ta) := by
  constructor
  intro pins s σ H Q I h
  refine wpAny_Call_Name_kw (ld_glob I hg hm (PySem.W.callWith_K (h₀ := X.base) I.ok.mod.kin hk (wpAny_mono (ha.run pos pins s σ H _ I h) ?_ fun _ _ z => z) he hpl) hdb)
  rintro us s1 ⟨vs, H1, J, r, want⟩
  refine And.intro J.kIn ?_
  have want : sp (vs ++ []) H1 Q E0 := want
  rw [List.append_nil] at want
  have bd := hb s1 us J.kIn (by rw [List.append_nil, ← r.length]; exact F.len _ _ _ _ want)
  rw [List.append_nil] at bd
  have pin := J.pin p (List.mem_append_left _ hp)
  refine wpAny_call (codeAny_mono (F.run X.A X.stack s1 H1 ⟨us, []⟩ us vs Q E0 p hr hot hz ⟨pin.1, pin.2.1, fun m => (List.mem_cons.mp (J.stkSub p.1 m)).elim pin.2.2.1 pin.2.2.2.1, pin.2.2.2.2⟩ J.env0 bd r want) fun res s2 fin => ?_)
  match res, fin with
  | .error e, fin => exact (show False from fin).elim
  | .ok (.ret u), fin => exact J.after fin
def spFieldT (T : List (Addr × Str)) (a dd : Addr) (fld wd : Str) : Sp := fun vs H Q _ => ∃ n : Int, vs = [.ref a] ∧ H dd = some (.xd (erF fld wd n)) ∧ LamX.Tabs T H ∧ ∀ H', LamX.ExtN H H' → LamX.Tabs T H' → Q (.int n) H'
theorem spField_T {T : List (Addr × Str)} {a dd : Addr} {fld wd : Str} (vs : List V) (H : Hp) (Q : VK) (E : XK) (h : spFieldT T a dd fld wd vs H Q E) : spField a dd fld wd vs H Q E := by
  obtain ⟨n, h1, h2, h3, h4⟩ := h
  exact ⟨n, h1, h2, fun H' s => h4 H' (LamX.ExtN.of s) (h3.ext s)⟩
section
variable {P : Program} {w : World} {K : PySem.W.Frag} {mg : Str → Option Value} {base : Heap}
set_option maxHeartbeats 8000000 in
theorem okT_count {f C a dd c Pf : Addr} {T : List (Addr × Str)} {qf : Str} {oc dV kV doc pm ct : Value} {od an : Option Addr} {osl : Array (Option Value)} {k : Nat}
    (lk : K.lookup f = some ⟨oc, od, .func (PySem.W.fnOf "_law_field" "_law_field" (defArgs sField) (defBody sField) (defScope sField) dV kV doc pm an (.ref c) ct), osl⟩) (hcd : PySem.W.codeIn K (.ref c) "_law_field" = true)
    (TB : LamX.TabB base mg c Pf) (hqf : ("_law_field" ++ ".<locals>." : Str) ++ "<lambda>" = qf) (hm1 : (Pf, qf) ∈ T) (hm2 : ∀ r ∈ T, r.1 = Pf → r.2 = qf)
    (TX : XfC K C) (nw : PySem.W.findIn K (.ref C) "word" = some none) (nn : PySem.W.findIn K (.ref C) "count" = some none) :
    FnT P w K mg base (k + 2) f (PySem.W.fnOf "_law_field" "_law_field" (defArgs sField) (defBody sField) (defScope sField) dV kV doc pm an (.ref c) ct) ["_law_e"] (Zh C a dd) (spFieldT T a dd "count" "invalidcount") := by
  have w0 : (("word" : Str) == ("count" : Str)) = false := by decide +kernel
  refine fn_ofTl lk hcd scField (fun vs H Q E h => ?_) (fun A outer s H vs Q E p hot hz hr h => ?_)
  · obtain ⟨n, rfl, _⟩ := h
    rfl
  · obtain ⟨n, rfl, hd, tb, q⟩ := h
    obtain ⟨pa, po⟩ := p
    obtain ⟨rfl, hzc, hf⟩ := hz
    have hC : L2H.HotC (L2H.cxH CX0 P w K mg base ["_law_e", "_law_fields", "_law_word", "_law_ask"] "_law_field" (defScope sField) f (.ref c) A outer s H E (pa, po)).nox := ⟨(pa, po), ⟨hot.1, hot.2⟩, List.mem_singleton.mpr rfl⟩
    have hm : (pa, po) ∈ [(pa, po)] := List.mem_singleton.mpr rfl
    have hq1 : (L2H.cxH CX0 P w K mg base ["_law_e", "_law_fields", "_law_word", "_law_ask"] "_law_field" (defScope sField) f (.ref c) A outer s H E (pa, po)).nox.env.qual ++ "<lambda>" = qf := hqf
    refine ⟨_, pss_cons (ps_if (pt_cmpR op_in_seq (pe_xfP TX nw hzc hf hm (pv 0)) (pe_lst (pa_cons pe_str (pa_cons pe_str (pa_cons pe_str (pa_cons pe_str pa_nil))))) (by rfl)) (pss_one ps_never) pss_nil)
      (pss_cons (ps_if (pt_cmpR op_in_seq (pe_xfP TX nw hzc hf hm (pv 0)) (pe_lst (pa_cons pe_str (pa_cons pe_str pa_nil))) (by rfl)) (pss_one ps_never) pss_nil)
      (pss_cons (ps_if (pt_cmpR op_in_seq (pe_xfP TX nw hzc hf hm (pv 0)) (pe_lst (pa_cons pe_str (pa_cons pe_str (pa_cons pe_str (pa_cons pe_str pa_nil))))) (by rfl)) (pss_one ps_never) pss_nil)
      (pss_cons (ps_if (pt_cmpR op_in_seq (pe_xfP TX nw hzc hf hm (pv 0)) (pe_lst (pa_cons pe_str (pa_cons pe_str (pa_cons pe_str pa_nil)))) (by rfl)) (pss_one ps_never) pss_nil)
      (C8.pss_cut (ps_set (i := 1) scField.nd rfl (by first | exact Or.inl rfl | exact Or.inr rfl) (pe_lst (pa_cons (pe_tup (pa_cons pe_str (pa_cons (LamV.pe_lamNo (T := T) TB rfl (by rw [hq1]; exact hm1) (by rw [hq1]; exact hm2) (by exact (show NdefX.ndefB (defScope sField) _ _ = true from by decide +kernel)) rfl) pa_nil))) (pa_cons (pe_tup (pa_cons pe_str (pa_cons (LamV.pe_lamInt (T := T) TB rfl (by rw [hq1]; exact hm1) (by rw [hq1]; exact hm2) (by exact (show NdefX.ndefB (defScope sField) _ _ = true from by decide +kernel)) rfl rfl pe_int) pa_nil))) pa_nil))))
      (C8.pss_cut (ps_set (i := 1) scField.nd rfl (by first | exact Or.inl rfl | exact Or.inr rfl) (pe_op op_cat (pv 1) (pe_lst (pa_cons (pe_tup (pa_cons pe_str (pa_cons (LamV.pe_lamNo (T := T) TB rfl (by rw [hq1]; exact hm1) (by rw [hq1]; exact hm2) (by exact (show NdefX.ndefB (defScope sField) _ _ = true from by decide +kernel)) rfl) pa_nil))) (pa_cons (pe_tup (pa_cons pe_str (pa_cons (LamV.pe_lamInt (T := T) TB rfl (by rw [hq1]; exact hm1) (by rw [hq1]; exact hm2) (by exact (show NdefX.ndefB (defScope sField) _ _ = true from by decide +kernel)) rfl rfl pe_int) pa_nil))) pa_nil)))))
      (pss_cons (L2H.ps_forH PassesOwn.never hC (HTup.pi_listH (pv 1)) (HTup.pg_tupH hC (pgs_cons (pg_name (i := 2) scField.nd rfl (by first | exact Or.inl rfl | exact Or.inr rfl)) (pgs_cons (pg_name (i := 3) scField.nd rfl (by first | exact Or.inl rfl | exact Or.inr rfl)) pgs_nil)))
        (pss_one (ps_if (pt_cmpR op_eq (pv 2) (pe_xfP TX nw hzc hf hm (pv 0)) (nomark _)) (pss_one (ps_ret (LamV.pe_ask (D := LamV.dInt 0) (i := 3) (k := k) (N := ["_law_a", "_law_e"]) (ps := ["_law_a"]) (fr := ["_law_e"]) (vs := [.int 0]) (js := [0])
          (params := (lamAt sField 4 1).1) (body := (lamAt sField 4 1).2.1) (scope := (lamAt sField 4 1).2.2) hm rfl (by first | exact Or.inl rfl | exact Or.inr (Or.inl rfl) | exact Or.inr (Or.inr rfl)) hr (NdefX.nscope_by (by decide +kernel)) (by exact (show NdefX.ndefB (defScope sField) _ _ = true from by decide +kernel)) rfl rfl
          (fun s H dV q cl doc pm cv ctv hok h => by
            obtain ⟨t, rfl, ht⟩ := h
            obtain ⟨⟨u, ru, tat⟩, _, _⟩ := hok t _ ht
            exact ⟨[u], .cons ru .nil, BindsTo.of_defaults rfl tat rfl rfl rfl⟩)
          (fun A2 o2 s2 H2 f2 c2 hr2 => by exact pe_xfP TX nn hzc hf hm (pv 1))))) pss_nil)))
      (pss_one ps_never))))))), ?_⟩
    have sz : ∀ m : Nat, m ≤ 10 → m ≤ sizeLine := fun m h => Nat.le_trans h (by rw [sizeLine_eq]; decide)
    have s0 : Same H H := fun _ _ z => z
    refine ⟨_, rfl, rfl, _, _, s0 _ _ hd, er_w w0, sz 4 (by decide), fun l1 h1 => ⟨l1, _, rfl, .inl (SqL.of upd_same), rfl, (by decide +kernel), _, rfl, ifF (by decide +kernel) ?_⟩⟩
    have s1 := s0.trans (same_new (o := .lst [.str "invalidname", .str "duplicatename", .str "nameinuse", .str "unknownname"]) h1)
    refine ⟨_, rfl, rfl, _, _, s1 _ _ hd, er_w w0, sz 2 (by decide), fun l2 h2 => ⟨l2, _, rfl, .inl (SqL.of upd_same), rfl, (by decide +kernel), _, rfl, ifF (by decide +kernel) ?_⟩⟩
    have s2 := s1.trans (same_new (o := .lst [.str "limitexceeded", .str "capacityexceeded"]) h2)
    refine ⟨_, rfl, rfl, _, _, s2 _ _ hd, er_w w0, sz 4 (by decide), fun l3 h3 => ⟨l3, _, rfl, .inl (SqL.of upd_same), rfl, (by decide +kernel), _, rfl, ifF (by decide +kernel) ?_⟩⟩
    have s3 := s2.trans (same_new (o := .lst [.str "invalidgraph", .str "invalidrow", .str "invalidpath", .str "invalidcode"]) h3)
    refine ⟨_, rfl, rfl, _, _, s3 _ _ hd, er_w w0, sz 3 (by decide), fun l4 h4 => ⟨l4, _, rfl, .inl (SqL.of upd_same), rfl, (by decide +kernel), _, rfl, ifF (by decide +kernel) ?_⟩⟩
    have s4 := s3.trans (same_new (o := .lst [.str "outofrange", .str "invalidwidth", .str "invalidcapacity"]) h4)
    have hd4 := s4 _ _ hd
    have tb4 := tb.ext s4
    have x4 : LamX.ExtN H _ := LamX.ExtN.of s4
    clear s0 s1 s2 s3 s4
    generalize upd _ l4 _ = H4 at *
    obtain ⟨R2, hR2⟩ : ∃ R2 : Value → Addr → LamV.LR, R2 = LamV.lamOf (L2H.cxH CX0 P w K mg base ["_law_e", "_law_fields", "_law_word", "_law_ask"] "_law_field" (defScope sField) f (.ref c) A outer s H E (pa, po)).nox (lamAt sField 4 1).1 (lamAt sField 4 1).2.1 (lamAt sField 4 1).2.2 := ⟨_, rfl⟩
    have two : ∀ x y : V, [x, y].length ≤ sizeLine := fun _ _ => sz 2 (by decide)
    have new : ∀ {G : Hp} {p : Addr} {o : HO}, G p = none → LamX.Tabs T G → LamX.Tabs T (upd G p o) := fun n t => LamV.tabs_new t n
    -- the first two
    refine ⟨fun σ H' => ∃ (f1 f2 p1 p2 L c2 : Addr) (d2 : Value), σ = [some (.ref pa), some (.ref L), none, none] ∧ LamX.ExtN H4 H' ∧ LamX.Tabs T H' ∧ H' L = some (.lst [.ref p1, .ref p2]) ∧ H' p1 = some (.tup [.str "invalidlength", .ref f1]) ∧ H' p2 = some (.tup [.str "invalidcount", .ref f2]) ∧
      H' f2 = some (LamV.LamO f2 (R2 d2 c2)) ∧ LamV.dInt 0 d2 H' ∧ H' c2 = some (LamX.CodeO c2 qf), ?_, ?_⟩
    · refine ⟨tb4, fun f1 d1 c1 H5 x5 t5 _ _ _ => ⟨two _ _, fun p1 n1 => ?_⟩⟩
      have t6 := new (o := .tup [.str "invalidlength", .ref f1]) n1 t5
      have x6 := LamV.ext_new (o := .tup [.str "invalidlength", .ref f1]) x5 n1
      have e6 : upd H5 p1 (.tup [.str "invalidlength", .ref f1]) p1 = some (.tup [.str "invalidlength", .ref f1]) := upd_same
      generalize upd H5 p1 (.tup [.str "invalidlength", .ref f1]) = H6 at *
      refine ⟨t6, fun f2 d2 c2 H7 x7 t7 D7 e7 g7 => ⟨two _ _, fun p2 n2 => ⟨two _ _, fun L nL => ?_⟩⟩⟩
      have s8 := same_new (o := .tup [.str "invalidcount", .ref f2]) n2
      have e8 : upd H7 p2 (.tup [.str "invalidcount", .ref f2]) p2 = some (.tup [.str "invalidcount", .ref f2]) := upd_same
      generalize upd H7 p2 (.tup [.str "invalidcount", .ref f2]) = H8 at *
      have s9 := same_new (o := .lst [.ref p1, .ref p2]) nL
      have s79 := s8.trans s9
      refine ⟨f1, f2, p1, p2, L, c2, d2, rfl, (x6.trans x7).trans (LamX.ExtN.of s79), t7.ext s79, upd_same, s79 _ _ (x7 _ _ e6 fun ps z => by cases z), s9 _ _ e8, ?_, ?_, ?_⟩
      · rw [hR2]
        exact s79 _ _ e7
      · obtain ⟨t, e, ht⟩ := D7
        exact ⟨t, e, s79 _ _ ht⟩
      · rw [← hq1]
        exact s79 _ _ g7
    · rintro σ H5 ⟨f1, f2, p1, p2, L, c2, d2, rfl, x5, t5, eL, e1, e2, ef, D5, g5⟩
      refine ⟨fun σ H' => ∃ (L2 p3 p4 : Addr), σ = [some (.ref pa), some (.ref L2), none, none] ∧ LamX.ExtN H5 H' ∧ LamX.Tabs T H' ∧ H' L2 = some (.lst [.ref p1, .ref p2, .ref p3, .ref p4]), ?_, ?_⟩
      · refine ⟨_, rfl, t5, fun f3 d3 c3 H6 x6 t6 _ _ _ => ⟨two _ _, fun p3 n3 => ?_⟩⟩
        have t7 := new (o := .tup [.str "invalidcommand", .ref f3]) n3 t6
        have x7 := LamV.ext_new (o := .tup [.str "invalidcommand", .ref f3]) x6 n3
        generalize upd H6 p3 (.tup [.str "invalidcommand", .ref f3]) = H7 at *
        refine ⟨t7, fun f4 d4 c4 H8 x8 t8 _ _ _ => ⟨two _ _, fun p4 n4 => ⟨two _ _, fun L1 nL => ?_⟩⟩⟩
        have s9 := (same_new (o := .tup [.str "invalidfile", .ref f4]) n4).trans (same_new (o := .lst [.ref p3, .ref p4]) nL)
        have x9 := (x7.trans x8).trans (LamX.ExtN.of s9)
        refine ⟨L, L1, _, _, rfl, rfl, x9 _ _ eL (fun ps z => by cases z), upd_same, sz 4 (by decide), fun L2 n2 => ?_⟩
        have s10 := same_new (o := .lst ([.ref p1, .ref p2] ++ [.ref p3, .ref p4])) n2
        exact ⟨L2, p3, p4, rfl, x9.trans (LamX.ExtN.of s10), (t8.ext s9).ext s10, upd_same⟩
      · rintro σ H6 ⟨L2, p3, p4, rfl, x6, t6, eL6⟩
        have no : ∀ (o : List V) (ps : Array Value), HO.tup o ≠ .tbl ps := fun o ps z => by cases z
        have e1 := x6 _ _ e1 (no _)
        have e2 := x6 _ _ e2 (no _)
        have ef := x6 _ _ ef (fun ps z => by cases z)
        have g6 := x6 _ _ g5 LamX.codeO_ne
        have D6 : LamV.dInt 0 d2 H6 := by
          obtain ⟨t, e, ht⟩ := D5
          exact ⟨t, e, x6 _ _ ht fun ps z => by cases z⟩
        have xx : LamX.ExtN H H6 := (x4.trans x5).trans x6
        have hd6 := xx _ _ hd fun ps z => by cases z
        refine ⟨_, rfl, L2, _, rfl, SqL.of eL6, ?_⟩
        refine for_it walk_list (fun i σ H' => i ≤ 1 ∧ H' = H6 ∧ ∃ v2 v3 : Option V, σ = [some (.ref pa), some (.ref L2), v2, v3]) ⟨Nat.zero_le _, rfl, _, _, rfl⟩ (fun i σ H' _ h => by rw [h.2.1]; exact SqL.of eL6) ?_ ?_
        · rintro i x σ G G' _ ⟨hi, rfl, v2, v3, rfl⟩ ⟨rfl, gx⟩
          match i, hi, gx with
          | 0, _, gx =>
            cases gx
            refine ⟨p1, _, rfl, SqT.of e1, rfl, _, _, rfl, _, _, rfl, rfl, ?_⟩
            exact ⟨_, rfl, _, rfl, rfl, _, _, hd6, er_w w0, rfl, _, rfl, ifF (by decide +kernel) ⟨Nat.le_refl _, rfl, _, _, rfl⟩⟩
          | 1, _, gx =>
            cases gx
            refine ⟨p2, _, rfl, SqT.of e2, rfl, _, _, rfl, _, _, rfl, rfl, ?_⟩
            refine ⟨_, rfl, _, rfl, rfl, _, _, hd6, er_w w0, rfl, _, rfl, ifT (by decide +kernel) ?_⟩
            refine ⟨f2, d2, c2, rfl, ?_, D6, ?_, ?_⟩
            · rw [← hR2]
              exact ef
            · rw [hq1]
              exact g6
            · exact ⟨_, rfl, rfl, _, _, hd6, er_n, q _ xx t6⟩
        · rintro σ G ⟨hi, _⟩
          exact absurd (show 4 ≤ 1 from hi) (by decide)
end
/-- an error that `_law_tried` tells: its word and its field -/
structure ErOkT (P : Program) (w : World) (K : PySem.W.Frag) (mg : Str → Option Value) (base : Heap) (T : List (Addr × Str)) (CW fF : Addr) (fdF : FuncData) (C : Addr) (fld wd : Str) : Prop where
  ex : PySem.W.exmOne K (.ref C) (.ref CW) = some true
  xf : XfC K C
  nw : PySem.W.findIn K (.ref C) "word" = some none
  nf : (("word" : Str) == fld) = false
  FF : ∀ a dd, FnT P w K mg base 2 fF fdF ["_law_e"] (Zh C a dd) (spFieldT T a dd fld wd)
theorem ErOk.toT {P : Program} {w : World} {K : PySem.W.Frag} {mg : Str → Option Value} {base : Heap} {T : List (Addr × Str)} {CW fF : Addr} {fdF : FuncData} {C : Addr} {fld wd : Str} (e : ErOk P w K mg base CW fF fdF C fld wd) : ErOkT P w K mg base T CW fF fdF C fld wd :=
  ⟨e.ex, e.T, e.nw, e.nf, fun a dd => (e.FF a dd).toT (by decide) spField_T⟩
/-- what `_law_tried` makes of what it calls, over tables of code objects -/
def TriedT (T : List (Addr × Str)) (Er : Addr → Str → Str → Prop) : (XK → Hp → VK → Prop) → Hp → VK → Prop := fun tl H Q =>
  tl (fun cls d H' => ∃ (C dd : Addr) (fld wd : Str) (n : Int), Er C fld wd ∧ cls = .ref C ∧ d = some dd ∧ H' dd = some (.xd (erF fld wd n)) ∧ LamX.Tabs T H' ∧ ∀ H2 p, LamX.ExtN H' H2 → LamX.Tabs T H2 → H2 p = some (.tup [.str wd, .int n]) → Q (.ref p) H2) H
    (fun v H' => [V.str "", v].length ≤ sizeLine ∧ ∀ p, H' p = none → Q (.ref p) (upd H' p (.tup [.str "", v])))
section
variable {X : Cx}
set_option maxHeartbeats 4000000 in
theorem triedT_gives {T : List (Addr × Str)} {q : Str} {g CW fF : Addr} {cdg : Value} {fdF : FuncData} (hr : Room 3 X.A) (gW : X.mg "WindowError" = some (.ref CW))
    (gF : X.mg "_law_field" = some (.ref fF)) (kF : PySem.W.keepIn X.K (.ref fF) = true) (bF : L2.Binds X.K fdF ["_law_e"] []) :
    LamN.Gives X ["_law_ask", "_law_e"] "_law_tried" (defScope sTried) g cdg (defBody sTried) "_law_ask" q (TriedT T (ErOkT X.prog X.w X.K X.mg X.base T CW fF fdF)) := by
  intro f c' s H Q tl act hc h
  have two : 2 ≤ sizeLine := by decide
  refine ⟨_, pss_one (ps_try_N (X := (cxOf C8.CX0 X.prog X.w X.K X.mg X.base ["_law_ask", "_law_e"] "_law_tried" (defScope sTried) g cdg X.A X.stack s H C8.E0).nox) (i := 1) (c := .ref CW)
      (tb := fun W D σ H => ∃ Ech : XK, (∀ cls d σ' H', Ech cls d H' → W cls d σ' H') ∧ σ[0]? = some (some (.ref f)) ∧ H c' = some (LamX.CodeO c' q) ∧ tl Ech H (fun v H' => [V.str "", v].length ≤ sizeLine ∧ ∀ p, H' p = none → D.rt (.ref p) (upd H' p (.tup [.str "", v]))))
      (ts := fun a cls d D σ H => ∃ (C dd : Addr) (fld wd : Str), ErOkT X.prog X.w X.K X.mg X.base T CW fF fdF C fld wd ∧ cls = .ref C ∧ d = some dd ∧ (∃ σ0 : L2.St, σ = σ0.set 1 (some (.ref a))) ∧ LamX.Tabs T H ∧ ∃ n : Int, H dd = some (.xd (erF fld wd n)) ∧ ∀ H2 p, LamX.ExtN H H2 → LamX.Tabs T H2 → H2 p = some (.tup [.str wd, .int n]) → D.rt (.ref p) H2)
      rfl rfl scTried.nd rfl rfl ⟨rfl, by decide, .inl gW⟩ (fun W pn xe tk _ => ?_) (fun a oe cls d pn hz hf => ?_)), ?_⟩
  · refine ⟨fun pins s' σ H' D I h' => ?_⟩
    obtain ⟨Ech, hW, h1, h2, h3⟩ := h'
    exact (pss_one (ps_ret (pe_tup (pa_cons pe_str (pa_cons (act W pn xe Ech _ _ tk hW) pa_nil))))).run pins s' σ H' D I ⟨h1, h2, h3⟩
  · refine ⟨fun pins s' σ H' D I h' => ?_⟩
    obtain ⟨C, dd, fld, wd, ok, rfl, rfl, ⟨σ0, rfl⟩, tb, n, h2, h3⟩ := h'
    have h1 : (σ0.set 1 (some (.ref a)))[1]? = some (some (V.ref a)) := by
      have l2 : (σ0.set 1 (some (.ref a))).length = 2 := I.len
      rw [List.length_set] at l2
      rw [List.getElem?_set_self (by omega)]
    have hot : L2H.Hot1 ((cxOf C8.CX0 X.prog X.w X.K X.mg X.base ["_law_ask", "_law_e"] "_law_tried" (defScope sTried) g cdg X.A X.stack s H C8.E0).nox.suite a ((a, oe) :: pn)).A (a, oe) := by
      obtain ⟨vs, hv⟩ := hf
      exact ⟨rfl, vs, hv, hz.2.2 vs hv⟩
    have hrm : L2H.RoomH 2 ((cxOf C8.CX0 X.prog X.w X.K X.mg X.base ["_law_ask", "_law_e"] "_law_tried" (defScope sTried) g cdg X.A X.stack s H C8.E0).nox.suite a ((a, oe) :: pn)).A := ⟨by have := hr.dp; show X.A.depth + 1 + 3 * 2 + 5 < _; omega, by have := hr.un; show X.A.units + 3 + 16 * 2 + 200 < _; omega⟩
    refine (pss_one (ps_ret (pe_tup (pa_cons (pe_xfP (X := ((cxOf C8.CX0 X.prog X.w X.K X.mg X.base ["_law_ask", "_law_e"] "_law_tried" (defScope sTried) g cdg X.A X.stack s H C8.E0).nox.suite a ((a, oe) :: pn))) ok.xf ok.nw hz.zc hf List.mem_cons_self (pv 1)) (pa_cons (pe_callT (X := ((cxOf C8.CX0 X.prog X.w X.K X.mg X.base ["_law_ask", "_law_e"] "_law_tried" (defScope sTried) g cdg X.A X.stack s H C8.E0).nox.suite a ((a, oe) :: pn))) (p := (a, oe)) (ok.FF a dd) hrm List.mem_cons_self hot ⟨rfl, hz.zc, hf⟩ (by rfl) gF kF bF (pa_cons (pv 1) pa_nil)) pa_nil))))).run pins s' _ H' D I ?_
    refine ⟨_, h1, rfl, _, _, h2, er_w ok.nf, _, h1, n, rfl, h2, tb, fun H2 x2 t2 => ⟨two, fun p hp => ?_⟩⟩
    exact h3 _ p (LamV.ext_new x2 hp) (LamV.tabs_new t2 hp) upd_same
  · exact ⟨_, fun cls d σ' H' ⟨C, dd, fld, wd, n, ok, e1, e2, e3, e5, e4⟩ => ⟨by rw [e1]; exact ok.ex, fun a na => ⟨C, dd, fld, wd, ok, e1, e2, ⟨σ', rfl⟩, e5, n, e3, e4⟩⟩, rfl, hc, h⟩
end
theorem okN {P : Program} {w : World} {K : PySem.W.Frag} {mg : Str → Option Value} {base : Heap} {x qual : Str} {st : Stmt} {f : Addr} {fd : FuncData} {N ps : List Str} {k : Nat} {sp : Sp} (F : L2.Fun K x qual st f fd) (S : FnScope N ps (defScope st)) (len : ∀ vs H Q E, sp vs H Q E → vs.length = ps.length)
    (body : ∀ cdv A outer s H vs Q E, Room k (A.deeper (envOfC qual (defScope st) s.heap.objs.size f cdv)) → sp vs H Q E →
      ∃ t, PSs (cxOf (L2N.CX P w) P w K mg base N qual (defScope st) f cdv A outer s H E) (defBody st) t ∧ t { nx := fun _ H' => Q .non H', rt := Q } (L2.start N vs) H) : FnOk P w K mg base (L2N.CX P w) (k + 1) f fd ps sp := by
  obtain ⟨_, _, _, _, _, _, cdv, _, _, rfl, lk, hcd⟩ := F.ex
  exact fn_of lk hcd S len fun A outer s H vs Q E hr h => body cdv A outer s H vs Q E hr h
/-- a def that may raise, its errors with the context None -/
structure CalN (P : Program) (w : World) (K : PySem.W.Frag) (mg : Str → Option Value) (base : Heap) (k : Nat) (x : Str) (sp : Sp) : Prop where
  ex : ∃ (f : Addr) (fd : FuncData) (ps : List Str), FnOk P w K mg base (L2N.CX P w) k f fd ps sp ∧ mg x = some (.ref f) ∧ PySem.W.keepIn K (.ref f) = true ∧ Binds K fd ps []
theorem pe_cN {X : Cx} {W : WX} {E : XK} {k j : Nat} {x : Str} {sp : Sp} {e : Expr} {es : List Expr} {t : TA} {p pos : Pos} (c : CalN X.prog X.w X.K X.mg X.base k x sp) (tk : L2N.Takes X W) (hW : ∀ cls d σ H, E cls d H → W cls d σ H) (hr : Room j X.A) (hk : k ≤ j) (hg : Gl X x) (ha : PA X (e :: es) t)
    (hdb : (x == ("__debug__" : Str)) = false := by decide) (he : starEach (e :: es) X.env = (false, eval e X.env) :: starEach es X.env := by rfl) (hpl : (backTo pos (starEach es X.env)).any (·.1) = false := by rfl) :
    PE X (.Call (.Name x p) (e :: es) [] pos) (tCall sp [] E t) := by
  obtain ⟨f, fd, ps, F, hm, kp, b⟩ := c.ex
  exact pe_call F (hr.mono hk) hg hm kp b .nil (L2N.passes_call tk hW) ha hdb he hpl
end Lw

set_option Elab.async false
set_option linter.all false
set_option maxRecDepth 100000
namespace Lw
open PySem L2
abbrev sBreak : Stmt := top 10
def brV : Option Nat → V
  | none => .non
  | some j => .int (j : Int)
def spBreak (C : Addr) : Sp := fun vs H Q _ => ∃ (g : Addr) (n : Int) (us : Es) (p : Addr) (es : List Int), vs = [.ref g, .ref p] ∧ GraphAt C H g n us ∧ TI H p es ∧ es.length ≤ 1000 ∧
  ∀ r H', Same H H' → FB (psOf us) es r → Q (brV r) H'
theorem ps_len (us : Es) : (psOf us).length = us.length := by
  unfold psOf
  rw [List.length_map]
theorem prt_at {us : Es} {e : Int} (h : Inr (psOf us) e) : ∃ ee, us[e.toNat]? = some ee ∧ ee.2 = prt (psOf us) e := by
  obtain ⟨h0, h1⟩ := h
  unfold psOf at h1
  rw [List.length_map] at h1
  have hlt : e.toNat < us.length := by omega
  refine ⟨us[e.toNat], List.getElem?_eq_getElem hlt, ?_⟩
  unfold prt psOf
  simp [List.getD, hlt]
theorem ints_at {es : List Int} {i : Nat} {y : V} (h : (es.map V.int)[i]? = some y) : y = .int (es.getD i 0) := by
  rw [List.getElem?_map] at h
  obtain ⟨z, hz, rfl⟩ := Option.map_eq_some_iff.mp h
  simp [List.getD, hz]
theorem dec_int' {i j : Int} : decide (V.int i = V.int j) = decide (i = j) := by
  by_cases h : i = j
  · rw [h, decide_eq_true rfl, decide_eq_true rfl]
  · rw [decide_eq_false h, decide_eq_false (fun z => h (by injection z))]
/-- the state after i edges -/
def stV (ps : List (Int × Int)) (es : List Int) (i : Nat) : V := if i = 0 then .non else .int (prt ps (es.getD (i - 1) 0)).2
section
variable {P : Program} {w : World} {K : PySem.W.Frag} {mg : Str → Option Value} {base : Heap}
theorem scBreak : FnScope ["graph", "path", "edges", "state", "place", "number", "source", "target"] ["graph", "path"] (defScope sBreak) := ⟨rfl, rfl, rfl, by decide +kernel, rfl, by decide +kernel, by decide +kernel⟩
set_option maxHeartbeats 4000000 in
theorem ok_break {f C : Addr} {mc : Value} {fd : FuncData} {k : Nat} (F : Fun K "first_break" "first_break" sBreak f fd) (T : Bi mg) (G : GTxt K mg C mc) (cE : C8.Met P w K mg base 1 C "edges" (spEdges C) []) : FnOk P w K mg base CX0 (k + 2) f fd ["graph", "path"] (spBreak C) := by
  refine F.ok scBreak (fun vs H Q E h => ?_) (fun cdv A outer s H vs Q E hr h => ?_)
  · obtain ⟨g, n, us, p, es, rfl, _⟩ := h
    rfl
  · obtain ⟨g, n, us, p, es, rfl, GA, hp, hl, q⟩ := h
    obtain ⟨⟨dx, t, h1, h2⟩, ed⟩ := id GA
    refine ⟨_, pss_cons (ps_set (i := 2) scBreak.nd rfl (Or.inl rfl) (C8.pe_mt0 cE hr (Nat.le_add_left 1 k) (pv 0)))
      (pss_cons (ps_set (i := 3) scBreak.nd rfl (Or.inl rfl) pe_non)
      (pss_cons (ps_for PassesOwn.never rfl (pi_enumA (by rfl) G.enum (pa_cons (pv 1) pa_nil)) (pg_tup rfl (pgs_cons (pg_name (i := 4) scBreak.nd rfl (.inl rfl)) (pgs_cons (pg_name (i := 5) scBreak.nd rfl (.inl rfl)) pgs_nil)))
        (pss_cons (ps_if (pt_not (pt_chain op_le op_lt pe_int (pv 5) (pe_callB call_len_seq (by rfl) T.len PySem.boot_len (pa_cons (pv 2) pa_nil)))) (pss_one (ps_ret (pv 4))) pss_nil)
        (pss_cons (ps_asg (pe_ix ix_list (pv 2) (pv 5) (fun _ _ => rfl)) (pg_tup rfl (pgs_cons (pg_name (i := 6) scBreak.nd rfl (.inl rfl)) (pgs_cons (pg_name (i := 7) scBreak.nd rfl (.inl rfl)) pgs_nil))))
        (pss_cons (ps_if (PW.pt (pw_and (pt_cmpR op_notN (pv 3) pe_non (nomark _)) (pw_and1 (pt_cmpR op_ne (pv 6) (pv 3) (nomark _))))) (pss_one (ps_ret (pv 4))) pss_nil)
        (pss_one (ps_set (i := 3) scBreak.nd rfl (Or.inl rfl) (pv 7)))))))
      (pss_one (ps_ret pe_non)))), ?_⟩
    refine ⟨_, rfl, g, dx, _, rfl, h1, look_no _ _ (by decide +kernel) (by decide +kernel), g, n, us, rfl, GA, fun e he => ?_⟩
    have s1 := same_upd (o := .lst (vsOf us)) he
    have ee : upd H e (.lst (vsOf us)) e = some (.lst (vsOf us)) := upd_same
    generalize upd H e (.lst (vsOf us)) = H1 at *
    have hp1 := hp.same s1
    refine ⟨_, rfl, p, es.map V.int, SqT, rfl, .inr rfl, SqT.of hp1, fun J w => ?_⟩
    refine for_it w (fun i σ H' => ∃ v4 v5 v6 v7 : Option V, σ = [some (.ref g), some (.ref p), some (.ref e), some (stV (psOf us) es i), v4, v5, v6, v7] ∧ Same H1 H' ∧ ∀ j, j < i → ¬ Bad (psOf us) es j) ⟨none, none, none, none, rfl, fun _ _ z => z, fun j hj => by omega⟩ (fun i σ H' _ p => by obtain ⟨_, _, _, _, _, s, _⟩ := p; exact SqT.of (hp1.same s)) ?_ ?_
    · rintro i x σ H2 H' hi ⟨v4, v5, v6, v7, rfl, sm, nb⟩ ⟨Ta, x, y, rfl, hT, rfl, gx, gy⟩
      have ey := ints_at gy
      subst ey
      have ex : x = .int (i : Nat) := (Option.some.inj gx).symm
      subst ex
      rw [List.length_map] at hi
      have s2 := same_upd (o := .tup [.int (i : Nat), .int (es.getD i 0)]) hT
      have eT : upd H2 Ta (.tup [.int (i : Nat), .int (es.getD i 0)]) Ta = some (.tup [.int (i : Nat), .int (es.getD i 0)]) := upd_same
      have sm2 := sm.trans s2
      generalize upd H2 Ta (.tup [.int (i : Nat), .int (es.getD i 0)]) = H3 at *
      obtain ⟨z, hz⟩ : ∃ z, es.getD i 0 = z := ⟨_, rfl⟩
      rw [hz] at eT
      have out : Bad (psOf us) es i → Q (.int (i : Nat)) H3 := fun b => q (some i) H3 (s1.trans sm2) ⟨hi, b, nb⟩
      refine ⟨Ta, _, rfl, SqT.of eT, rfl, _, _, rfl, _, _, rfl, rfl, ?_⟩
      refine ⟨_, rfl, _, _, rfl, rfl, _, rfl, ?_⟩
      by_cases c0 : 0 ≤ z
      · refine if_t (decide_eq_true c0) ⟨_, rfl, e, _, rfl, .inl (SqL.of (sm2 _ _ ee)), _, _, rfl, rfl, _, rfl, ?_⟩
        rw [vsOf_len]
        by_cases c1 : z < (us.length : Int)
        · refine if_f (by rw [decide_eq_true c1]; rfl) ?_
          have hin : Inr (psOf us) z := ⟨c0, by rw [ps_len]; exact c1⟩
          obtain ⟨x, hx, hx2⟩ := prt_at hin
          have ex := sm2 _ _ (s1 _ _ (ed x (List.mem_of_getElem? hx)))
          have hat : atI (vsOf us) z = some (.ref x.1) := by
            rw [show z = ((z.toNat : Nat) : Int) by omega]
            exact atI_nat (vsOf_get hx)
          refine ⟨_, rfl, _, rfl, e, _, _, _, rfl, rfl, SqL.of (sm2 _ _ ee), hat, ?_⟩
          refine ⟨x.1, _, rfl, SqT.of ex, rfl, _, _, rfl, _, _, rfl, rfl, ?_⟩
          have fin : ¬ Bad (psOf us) es i → ∃ v4 v5 v6 v7 : Option V, [some (V.ref g), some (V.ref p), some (V.ref e), some (V.int x.2.2), some (V.int (i : Nat)), some (V.int z), some (V.int x.2.1), some (V.int x.2.2)] = [some (.ref g), some (.ref p), some (.ref e), some (stV (psOf us) es (i + 1)), v4, v5, v6, v7] ∧ Same H1 H3 ∧ ∀ j, j < i + 1 → ¬ Bad (psOf us) es j := fun b => by
            refine ⟨some (.int (i : Nat)), some (.int z), some (.int x.2.1), some (.int x.2.2), ?_, sm2, fun j hj => ?_⟩
            · unfold stV
              rw [if_neg (by omega), Nat.add_sub_cancel, hz, ← hx2]
            · by_cases ej : j = i
              · rw [ej]
                exact b
              · exact nb j (by omega)
          by_cases ci : i = 0
          · have e0 : stV (psOf us) es i = .non := by
              unfold stV
              rw [if_pos ci]
            rw [e0]
            refine ⟨_, rfl, rfl, _, rfl, if_f rfl (if_f rfl ⟨_, rfl, fin fun b => ?_⟩)⟩
            rcases b with b | ⟨b, _⟩
            · rw [hz] at b
              exact b hin
            · omega
          · have e0 : stV (psOf us) es i = .int (prt (psOf us) (es.getD (i - 1) 0)).2 := by
              unfold stV
              rw [if_neg ci]
            rw [e0]
            refine ⟨_, rfl, rfl, _, rfl, if_t rfl ⟨_, rfl, _, rfl, rfl, _, rfl, ?_⟩⟩
            by_cases cq : x.2.1 = (prt (psOf us) (es.getD (i - 1) 0)).2
            · refine if_f (by rw [dec_int', decide_eq_true cq]; rfl) ⟨_, rfl, fin fun b => ?_⟩
              rcases b with b | ⟨_, b⟩
              · rw [hz] at b
                exact b hin
              · rw [hz, ← hx2] at b
                exact b cq.symm
            · refine if_t (by rw [dec_int', decide_eq_false cq]; rfl) ⟨_, rfl, out (.inr ⟨by omega, ?_⟩)⟩
              rw [hz, ← hx2]
              exact fun z => cq z.symm
        · refine if_t (by rw [decide_eq_false c1]; rfl) ⟨_, rfl, out (.inl ?_)⟩
          rw [hz]
          exact fun h => c1 (by have := h.2; rw [ps_len] at this; exact this)
      · refine if_f (decide_eq_false c0) ⟨_, rfl, if_t rfl ⟨_, rfl, out (.inl ?_)⟩⟩
        rw [hz]
        exact fun h => c0 h.1
    · rintro σ H2 ⟨v4, v5, v6, v7, rfl, sm, nb⟩
      rw [List.length_map] at nb
      exact q none H2 (s1.trans sm) nb
end
end Lw

set_option Elab.async false
set_option linter.all false
set_option maxRecDepth 100000
namespace Lw
open PySem L2
abbrev sCheckRow : Stmt := top 12
/-- InvalidRow(k) is raised -/
def OutR (CR : Addr) (H : Hp) (k : Int) (E : XK) : Prop := ∀ H1 d, Same H H1 → H1 d = none → E (.ref CR) (some d) (upd H1 d (.xd (erF "place" "invalidrow" k)))
def spCkRow (C CR : Addr) : Sp := fun vs H Q E => ∃ (g : Addr) (n : Int) (us : Es) (r : Addr) (xs ys : List Int), vs = [.ref g, .ref r] ∧ GraphAt C H g n us ∧ RowAt H r xs ys ∧ xs.length ≤ 300 ∧ ys.length ≤ 300 ∧
  (ys = [] → OutR CR H (-1) E) ∧ (ys ≠ [] → (FB (psOf us) (xs ++ ys ++ ys.take 1) none → ∀ H', Same H H' → Q .non H') ∧ ∀ j, FB (psOf us) (xs ++ ys ++ ys.take 1) (some j) → OutR CR H (j : Int) E)
theorem small_place {n : Nat} (h : n ≤ 1000) : ((n : Nat) : Int).natAbs < 10 ^ 100 := by
  rw [Int.natAbs_natCast]
  exact Nat.lt_of_le_of_lt h (by decide)
section
variable {P : Program} {w : World} {K : PySem.W.Frag} {mg : Str → Option Value} {base : Heap}
theorem scCheckRow : FnScope ["graph", "row", "head", "cycle", "place"] ["graph", "row"] (defScope sCheckRow) := ⟨rfl, rfl, rfl, by decide +kernel, rfl, by decide +kernel, by decide +kernel⟩
set_option maxHeartbeats 4000000 in
theorem okN_ckrow {f C CR : Addr} {fd : FuncData} {k : Nat} (F : Fun K "check_row" "check_row" sCheckRow f fd) (T : Bi mg) (R : ErrIn P w K mg base "InvalidRow" CR "place" "invalidrow") (cB : C8.Cal P w K mg base 2 "first_break" (spBreak C) []) : FnOk P w K mg base (L2N.CX P w) (k + 4) f fd ["graph", "row"] (spCkRow C CR) := by
  refine okN F scCheckRow (fun vs H Q E h => ?_) (fun cdv A outer s H vs Q E hr h => ?_)
  · obtain ⟨g, n, us, r, xs, ys, rfl, _⟩ := h
    rfl
  · obtain ⟨g, n, us, r, xs, ys, rfl, GA, ⟨h, c, hrow, hh, hc⟩, lx, ly, k0, kq⟩ := h
    refine ⟨_, pss_cons (ps_asg (pv 1) (pg_tup rfl (pgs_cons (pg_name (i := 2) scCheckRow.nd rfl (.inl rfl)) (pgs_cons (pg_name (i := 3) scCheckRow.nd rfl (.inl rfl)) pgs_nil))))
      (pss_cons (ps_if (pt_cmpR op_eq (pe_callB call_len_seq (by rfl) T.len PySem.boot_len (pa_cons (pv 3) pa_nil)) pe_int (nomark _)) (pss_one (ps_raiseN rfl (L2N.takes_of rfl rfl rfl rfl) R hr (by omega) (by rfl) (pa_cons (pe_un un_neg pe_int) pa_nil))) pss_nil)
      (pss_cons (ps_set (i := 4) scCheckRow.nd rfl (.inl rfl) (C8.pe_c cB hr (by omega) (by rfl) (pa_cons (pv 0) (pa_cons (pe_op op_catA (pe_op op_catA (pv 2) (pv 3)) (pe_slice sl_tupA (pv 3) po_none (po_some pe_int))) pa_nil))))
      (pss_one (ps_if (pt_cmpR op_notN (pv 4) pe_non (nomark _)) (pss_one (ps_raiseN rfl (L2N.takes_of rfl rfl rfl rfl) R hr (by omega) (by rfl) (pa_cons (pv 4) pa_nil))) pss_nil)))), ?_⟩
    refine ⟨_, rfl, r, _, rfl, SqT.of hrow, rfl, _, _, rfl, _, _, rfl, rfl, ?_⟩
    refine ⟨_, rfl, c, _, rfl, .inr (SqT.of hc), rfl, _, rfl, ?_⟩
    rw [List.length_map, dec_int']
    by_cases ce : ys = []
    · refine if_t (by rw [ce]; rfl) ⟨1, rfl, ?_⟩
      exact er_tail (n := -1) (by decide +kernel) fun d hd => k0 ce H d (fun _ _ z => z) hd
    have lp : 0 < ys.length := List.length_pos_iff.mpr ce
    refine if_f (decide_eq_false (by omega)) ?_
    obtain ⟨kn, kj⟩ := kq ce
    refine ⟨_, rfl, _, rfl, _, rfl, ?_⟩
    refine catA hh hc (by rw [List.length_map, List.length_map]; omega) fun t1 H1 s1 e1 => ?_
    refine ⟨_, rfl, 1, rfl, slA (s1 _ _ hc) fun t2 H2 s2 e2 => ?_⟩
    have e2' : H2 t2 = some (.tup ((ys.take 1).map V.int)) := by
      rw [e2, show (1 : Int) = ((1 : Nat) : Int) from rfl, cut_lo' (by rw [List.length_map]; omega), List.map_take]
    refine catA (s2 _ _ e1) e2' (by simp; omega) fun t3 H3 s3 e3 => ?_
    have s03 := (s1.trans s2).trans s3
    have e3' : TI H3 t3 (xs ++ ys ++ ys.take 1) := by
      unfold TI
      rw [e3, List.map_append, List.map_append]
    have ll : (xs ++ ys ++ ys.take 1).length ≤ 1000 := by
      simp
      omega
    refine ⟨g, n, us, t3, _, rfl, GA.same s03, e3', ll, fun rr H4 s4 fb => ?_⟩
    have s04 := s03.trans s4
    cases rr with
    | none => exact ⟨_, rfl, rfl, _, rfl, if_f rfl (kn fb H4 s04)⟩
    | some j =>
      refine ⟨_, rfl, rfl, _, rfl, if_t rfl ⟨_, rfl, ?_⟩⟩
      exact er_tail (n := (j : Int)) (small_place (Nat.le_trans (Nat.le_of_lt fb.1) ll)) fun d hd => kj j fb H4 d s04 hd
end
end Lw

set_option Elab.async false
set_option linter.all false
set_option maxRecDepth 100000
/-! turned, shortest_cycle, normal_row -/
namespace Lw
open PySem L2
abbrev sTurned : Stmt := top 13
abbrev sShort : Stmt := top 14
abbrev sNormal : Stmt := top 15
def spTurned : Sp := fun vs H Q _ => ∃ (c : Addr) (k : Int) (ys : List Int), vs = [.ref c, .int k] ∧ TI H c ys ∧ ys ≠ [] ∧ ys.length ≤ 500 ∧ ∀ r H', Same H H' → TI H' r (rot ys (k % (ys.length : Int)).toNat) → Q (.ref r) H'
/-! ### the shortest part of a cycle that gives it -/
def Gives (ys : List Int) (d : Nat) : Prop := ys.length % d = 0 ∧ (List.replicate (ys.length / d) (ys.take d)).flatten = ys
structure IsSh (ys : List Int) (d : Nat) : Prop where
  d1 : 1 ≤ d
  dl : d ≤ ys.length
  gv : Gives ys d
  mn : ∀ d', 1 ≤ d' → d' < d → ¬ Gives ys d'
def spShort : Sp := fun vs H Q _ => ∃ (c : Addr) (ys : List Int), vs = [.ref c] ∧ TI H c ys ∧ ys ≠ [] ∧ ys.length ≤ 500 ∧ ∀ (r : Addr) (H' : Hp) (d : Nat), Same H H' → TI H' r (ys.take d) → IsSh ys d → Q (.ref r) H'
theorem gives_all (ys : List Int) (h : ys ≠ []) : Gives ys ys.length := by
  have h0 : 0 < ys.length := List.length_pos_iff.mpr h
  refine ⟨Nat.mod_self _, ?_⟩
  rw [Nat.div_self h0]
  simp
section
variable {P : Program} {w : World} {K : PySem.W.Frag} {mg : Str → Option Value} {base : Heap}
theorem scTurned : FnScope ["cycle", "count", "start"] ["cycle", "count"] (defScope sTurned) := ⟨rfl, rfl, rfl, by decide +kernel, rfl, by decide +kernel, by decide +kernel⟩
theorem ok_turned {f : Addr} {fd : FuncData} {k : Nat} (F : Fun K "turned" "turned" sTurned f fd) (T : Bi mg) : FnOk P w K mg base CX0 (k + 1) f fd ["cycle", "count"] spTurned := by
  refine F.ok scTurned (fun vs H Q E h => ?_) (fun cdv A outer s H vs Q E hr h => ?_)
  · obtain ⟨c, n, ys, rfl, _⟩ := h
    rfl
  · obtain ⟨c, n, ys, rfl, hc, hy, hl, q⟩ := h
    refine ⟨_, pss_cons (ps_set (i := 2) scTurned.nd rfl (Or.inl rfl) (pe_op op_mod (pv 1) (pe_callB call_len_seq (by rfl) T.len PySem.boot_len (pa_cons (pv 0) pa_nil))))
      (pss_one (ps_ret (pe_op op_catA (pe_slice sl_tupA (pv 0) (po_some (pv 2)) po_none) (pe_slice sl_tupA (pv 0) po_none (po_some (pv 2)))))), ?_⟩
    have h0 : 0 < ys.length := List.length_pos_iff.mpr hy
    refine ⟨_, rfl, _, rfl, c, _, rfl, .inr (SqT.of hc), _, _, rfl, rfl, (by show (0 : Int) < ((ys.map V.int).length : Int); rw [List.length_map]; omega), ?_⟩
    have e0 : 0 ≤ n % (ys.length : Int) := Int.emod_nonneg _ (by omega)
    have e1 : n % (ys.length : Int) < (ys.length : Int) := Int.emod_lt_of_pos _ (by omega)
    obtain ⟨j, hj⟩ : ∃ j : Nat, n % (ys.length : Int) = (j : Int) := ⟨(n % (ys.length : Int)).toNat, (Int.toNat_of_nonneg e0).symm⟩
    have hjl : j ≤ (ys.map V.int).length := by
      rw [List.length_map]
      omega
    rw [hj] at q
    have ej : n % ((ys.map V.int).length : Int) = (j : Int) := by
      rw [List.length_map]
      exact hj
    refine ⟨_, rfl, _, rfl, _, rfl, ?_⟩
    dsimp only [tNoPart]
    refine slA hc fun r1 H1 s1 h1 => ?_
    refine ⟨_, rfl, _, rfl, _, rfl, slA (s1 _ _ hc) fun r2 H2 s2 h2 => ?_⟩
    have h1' : H1 r1 = some (.tup ((ys.drop j).map V.int)) := by
      rw [h1, ej, cut_hi' hjl, List.map_drop]
    have h2' : H2 r2 = some (.tup ((ys.take j).map V.int)) := by
      rw [h2, ej, cut_lo' hjl, List.map_take]
    refine catA (s2 _ _ h1') h2' (by simp; omega) fun r3 H3 s3 h3 => ?_
    refine q r3 H3 ((s1.trans s2).trans s3) ?_
    unfold TI rot
    rw [h3, List.map_append]
    rfl
theorem scShort : FnScope ["cycle", "size", "part"] ["cycle"] (defScope sShort) := ⟨rfl, rfl, rfl, by decide +kernel, rfl, by decide +kernel, by decide +kernel⟩
set_option maxHeartbeats 4000000 in
theorem ok_short {f : Addr} {fd : FuncData} {k : Nat} (F : Fun K "shortest_cycle" "shortest_cycle" sShort f fd) (T : Bi mg) : FnOk P w K mg base CX0 (k + 1) f fd ["cycle"] spShort := by
  refine F.ok scShort (fun vs H Q E h => ?_) (fun cdv A outer s H vs Q E hr h => ?_)
  · obtain ⟨c, ys, rfl, _⟩ := h
    rfl
  · obtain ⟨c, ys, rfl, hc, hy, hl, q⟩ := h
    refine ⟨_, pss_cons (ps_set (i := 1) scShort.nd rfl (Or.inl rfl) (pe_callB call_len_seq (by rfl) T.len PySem.boot_len (pa_cons (pv 0) pa_nil)))
      (pss_cons (ps_for PassesOwn.never rfl (pi_range2 (by rfl) T.range (pa_cons pe_int (pa_cons (pv 1) pa_nil))) (pg_name (i := 2) scShort.nd rfl (Or.inl rfl))
        (pss_one (ps_if (PW.pt (pw_and (pt_cmpR op_eq (pe_op op_mod (pv 1) (pv 2)) pe_int (nomark _)) (pw_and1 (pt_cmpR (op_eqD hr.units) (pe_op op_repT (pe_slice sl_tupA (pv 0) po_none (po_some (pv 2))) (pe_op op_fdiv (pv 1) (pv 2))) (pv 0) (nomark _)))))
          (pss_one (ps_ret (pe_slice sl_tupA (pv 0) po_none (po_some (pv 2))))) pss_nil)))
      (pss_one (ps_ret (pv 0)))), ?_⟩
    have h0 : 0 < ys.length := List.length_pos_iff.mpr hy
    refine ⟨_, rfl, c, _, rfl, .inr (SqT.of hc), ?_⟩
    rw [List.length_map]
    refine ⟨_, rfl, 1, (ys.length : Int), rfl, ⟨by decide, by decide, by omega, by omega⟩, ?_⟩
    refine for_it (walk_range (lo := 1) (n := ((ys.length : Int) - 1).toNat)) (fun i σ H' => ∃ v : Option V, σ = [some (.ref c), some (.int ys.length), v] ∧ Same H H' ∧ ∀ d, 1 ≤ d → d < 1 + i → ¬ Gives ys d)
      ⟨none, rfl, fun _ _ e => e, fun d h1 h2 => by omega⟩ (fun _ _ _ _ _ => True.intro) ?_ ?_
    · rintro i x σ H1 H' hi ⟨v, rfl, sm, hno⟩ ⟨rfl, rfl⟩
      have hd1 : (1 : Int) + (i : Int) = ((1 + i : Nat) : Int) := by omega
      have hdl : 1 + i < ys.length := by omega
      have dl2 : 1 + i ≤ (ys.map V.int).length := by
        rw [List.length_map]
        omega
      have c' := hc.same sm
      refine ⟨_, rfl, _, rfl, _, _, rfl, rfl, (by show (0 : Int) < 1 + (i : Int); omega), rfl, _, rfl, ?_⟩
      by_cases hm : ys.length % (1 + i) = 0
      · refine if_t (decide_eq_true ?_) ?_
        · show V.int ((ys.length : Int) % (1 + (i : Int))) = V.int 0
          rw [hd1, show ((ys.length : Int) % ((1 + i : Nat) : Int)) = ((ys.length % (1 + i) : Nat) : Int) from rfl, hm]
          rfl
        refine ⟨_, rfl, _, rfl, _, rfl, slA c' fun r1 H1 s1 h1 => ?_⟩
        have h1' : H1 r1 = some (.tup ((ys.take (1 + i)).map V.int)) := by
          rw [h1]
          show some (HO.tup (cutV (ys.map V.int) none (some (1 + (i : Int))))) = _
          rw [hd1, cut_lo' dl2, List.map_take]
        have hk2 : 2 ≤ ys.length / (1 + i) := by
          have e := Nat.div_add_mod ys.length (1 + i)
          rw [hm] at e
          obtain ⟨qq, hqq⟩ : ∃ qq, ys.length / (1 + i) = qq := ⟨_, rfl⟩
          rw [hqq] at e ⊢
          match qq, e with
          | 0, e => omega
          | 1, e => omega
          | qq + 2, _ => omega
        have ediv : (ys.length : Int) / (1 + (i : Int)) = ((ys.length / (1 + i) : Nat) : Int) := by
          rw [hd1]
          rfl
        have hkl : ys.length / (1 + i) ≤ ys.length := Nat.div_le_self _ _
        refine ⟨_, rfl, _, rfl, _, _, rfl, rfl, ⟨(by show (0 : Int) < 1 + (i : Int); omega), (by show 1 + (i : Int) < 1073741824; omega)⟩, r1, _, _, rfl, rfl, SqT.of h1', ?_, ?_, ?_, ?_, fun p hp => ?_⟩
        · intro z
          have z1 := congrArg List.length z
          rw [List.length_map, List.length_take, Nat.min_eq_left (by omega)] at z1
          cases z1.symm.trans (Nat.add_comm 1 i)
        · show (2 : Int) ≤ (ys.length : Int) / (1 + (i : Int))
          rw [ediv]
          omega
        · show (ys.length : Int) / (1 + (i : Int)) ≤ 1000
          rw [ediv]
          omega
        · rw [List.length_map, List.length_take]
          omega
        have er : (List.replicate ((ys.length : Int) / (1 + (i : Int))).toNat ((ys.take (1 + i)).map V.int)).flatten = ((List.replicate (ys.length / (1 + i)) (ys.take (1 + i))).flatten).map V.int := by
          rw [ediv, Int.toNat_natCast, List.map_flatten, List.map_replicate]
        have s2 := s1.trans (same_upd (o := .tup (List.replicate ((ys.length : Int) / (1 + (i : Int))).toNat ((ys.take (1 + i)).map V.int)).flatten) hp)
        have cc := c'.same s2
        refine ⟨_, rfl, _, _, .tup (SqT.of (by rw [upd_same, er])) (dp_ints _), .tup (SqT.of cc) (dp_ints _), sh_ints _, sh_ints _, _, rfl, ?_⟩
        have ee : PyData.eqv (.tuple ((List.replicate (ys.length / (1 + i)) (ys.take (1 + i))).flatten.map PyData.int)) (.tuple (ys.map PyData.int)) = decide ((List.replicate (ys.length / (1 + i)) (ys.take (1 + i))).flatten = ys) := eqv_ints _ _
        by_cases hg : (List.replicate (ys.length / (1 + i)) (ys.take (1 + i))).flatten = ys
        · refine if_t (by rw [ee]; exact decide_eq_true hg) ?_
          refine ⟨_, rfl, _, rfl, _, rfl, slA cc fun r3 H3 s3 h3 => ?_⟩
          refine q r3 H3 (1 + i) ((sm.trans s2).trans s3) ?_ ⟨by omega, by omega, ⟨hm, hg⟩, hno⟩
          unfold TI
          rw [h3]
          show some (HO.tup (cutV (ys.map V.int) none (some (1 + (i : Int))))) = _
          rw [hd1, cut_lo' dl2, List.map_take]
        · refine if_f (by rw [ee]; exact decide_eq_false hg) ?_
          refine ⟨_, rfl, sm.trans s2, fun d h1 h2 => ?_⟩
          by_cases hd : d = 1 + i
          · subst hd
            exact fun z => hg z.2
          · exact hno d h1 (by omega)
      · refine if_f (decide_eq_false ?_) ?_
        · intro z
          injection z with z
          refine hm ?_
          have z' : ((ys.length : Int) % (1 + (i : Int))) = 0 := z
          rw [hd1] at z'
          have z2 : ((ys.length % (1 + i) : Nat) : Int) = 0 := z'
          omega
        refine iteF ⟨_, rfl, sm, fun d h1 h2 => ?_⟩
        by_cases hd : d = 1 + i
        · subst hd
          exact fun z => hm z.1
        · exact hno d h1 (by omega)
    · rintro σ H1 ⟨v, rfl, sm, hno⟩
      refine ⟨_, rfl, q c H1 ys.length sm ?_ ⟨by omega, Nat.le_refl _, gives_all ys hy, fun d' h1 h2 => hno d' h1 (by omega)⟩⟩
      rw [List.take_length]
      exact hc.same sm
end
theorem getD_take {ys : List Int} {d t : Nat} (h : t < d) : (ys.take d).getD t 0 = ys.getD t 0 := by
  simp [List.getD, List.getElem?_take, h]
theorem list_ext {xs ys : List Int} (hl : xs.length = ys.length) (h : ∀ t, t < xs.length → xs.getD t 0 = ys.getD t 0) : xs = ys := by
  refine List.ext_getElem hl fun t h1 h2 => ?_
  have := h t h1
  simpa [List.getD, h1, h2] using this
/-- a part that gives the cycle is a period -/
theorem gives_at {ys : List Int} {d t : Nat} (hd : 1 ≤ d) (hdl : d ≤ ys.length) (g : Gives ys d) (ht : t < ys.length) : ys.getD t 0 = ys.getD (t % d) 0 := by
  have hl : (ys.take d).length = d := by
    rw [List.length_take]
    omega
  have e := Nat.div_add_mod ys.length d
  rw [g.1] at e
  have h1 := rep_get (ys.take d) (by omega) (ys.length / d) t (by rw [hl, Nat.mul_comm]; omega)
  rw [g.2, hl, getD_take (Nat.mod_lt _ hd)] at h1
  exact h1
theorem sq_tail {xs ys : List Int} (t : Nat) : sq xs ys (xs.length + t) = ys.getD (t % ys.length) 0 := by
  unfold sq
  rw [if_neg (by omega), Nat.add_sub_cancel_left]
theorem gives_per {xs ys : List Int} {d : Nat} (hd : 1 ≤ d) (hdl : d ≤ ys.length) (g : Gives ys d) : Per (sq xs ys) xs.length d := fun i hi => by
  have h0 : 0 < ys.length := by omega
  have key : ∀ t, sq xs ys (xs.length + t) = ys.getD (t % d) 0 := fun t => by
    rw [sq_tail, gives_at hd hdl g (Nat.mod_lt t h0), Nat.mod_mod_of_dvd t (Nat.dvd_of_mod_eq_zero g.1)]
  have e1 : i = xs.length + (i - xs.length) := by omega
  have e2 : i + d = xs.length + ((i - xs.length) + d) := by omega
  rw [e2, key]
  rw [e1, key, Nat.add_sub_cancel_left, Nat.add_mod_right]
/-- a period that divides gives the cycle -/
theorem per_gives {xs ys : List Int} {d : Nat} (hd : 1 ≤ d) (hdl : d ≤ ys.length) (hm : ys.length % d = 0) (q : Per (sq xs ys) xs.length d) : Gives ys d := by
  refine ⟨hm, ?_⟩
  have hl : (ys.take d).length = d := by
    rw [List.length_take]
    omega
  have e := Nat.div_add_mod ys.length d
  rw [hm] at e
  have hlen : ((List.replicate (ys.length / d) (ys.take d)).flatten).length = ys.length := by
    rw [List.length_flatten, List.map_replicate, List.sum_replicate_nat, hl]
    rw [Nat.mul_comm]
    omega
  refine list_ext hlen fun t ht => ?_
  rw [hlen] at ht
  rw [rep_get (ys.take d) (by omega) _ _ (by rw [hl, Nat.mul_comm]; omega), hl, getD_take (Nat.mod_lt _ hd)]
  have h1 := q.cong hd (i := xs.length + t % d) (j := xs.length + t) (Nat.le_add_right _ _) (Nat.le_add_right _ _) (by rw [Nat.add_mod, Nat.mod_mod, ← Nat.add_mod])
  rw [sq_tail, sq_tail, Nat.mod_eq_of_lt ht, Nat.mod_eq_of_lt (Nat.lt_of_lt_of_le (Nat.mod_lt _ hd) hdl)] at h1
  exact h1
theorem least_per {s : Nat → Int} {h : Nat} : ∀ p, 1 ≤ p → Per s h p → ∃ p0, 1 ≤ p0 ∧ p0 ≤ p ∧ Per s h p0 ∧ ∀ p', 1 ≤ p' → Per s h p' → p0 ≤ p' := by
  intro p
  induction p using Nat.strongRecOn with
  | _ p ih =>
    intro h1 hp
    by_cases hx : ∃ p', 1 ≤ p' ∧ p' < p ∧ Per s h p'
    · obtain ⟨p', a, b, c⟩ := hx
      obtain ⟨p0, x, y, z, u⟩ := ih p' b a c
      exact ⟨p0, x, by omega, z, u⟩
    · exact ⟨p, h1, Nat.le_refl _, hp, fun p' a b => Nat.le_of_not_lt fun c => hx ⟨p', a, c, b⟩⟩
theorem sh_min {xs ys : List Int} {d : Nat} (hy : ys ≠ []) (h : IsSh ys d) : ∀ p', 1 ≤ p' → Per (sq xs ys) xs.length p' → d ≤ p' := by
  intro p' h1 hp
  refine Nat.le_of_not_lt fun hlt => ?_
  obtain ⟨p0, a, b, c, e⟩ := least_per p' h1 hp
  have hdl := h.dl
  exact h.mn p0 a (by omega) (per_gives a (by omega) (least_dvd (sq_per xs ys hy) c a e) c)
theorem emod_nat {a : Int} {d : Nat} (hd : 1 ≤ d) : ((a % (d : Int)).toNat : Int) = a % (d : Int) := Int.toNat_of_nonneg (Int.emod_nonneg _ (by omega))
/-- the edge that the cycle, continued backwards, has ahead of place k -/
theorem back_edge {xs ys : List Int} {d k : Nat} (hd : 1 ≤ d) (hdl : d ≤ ys.length) (hk : k < xs.length) (q : Per (sq xs ys) (k + 1) d) :
    (ys.take d).getD (((k : Int) - (xs.length : Int)) % (d : Int)).toNat 0 = sq xs ys (k + d) := by
  obtain ⟨j, hj⟩ : ∃ j, (((k : Int) - (xs.length : Int)) % (d : Int)).toNat = j := ⟨_, rfl⟩
  have e := emod_nat (a := (k : Int) - (xs.length : Int)) hd
  rw [hj] at e
  have hjd : j < d := by
    have := Int.emod_lt_of_pos ((k : Int) - (xs.length : Int)) (show (0 : Int) < (d : Int) by omega)
    omega
  rw [hj, getD_take hjd]
  have h1 : sq xs ys (xs.length + j) = ys.getD j 0 := by rw [sq_tail, Nat.mod_eq_of_lt (by omega)]
  rw [← h1]
  refine q.cong hd (by omega) (by omega) ?_
  have z : ((xs.length + j : Nat) : Int) % (d : Int) = ((k + d : Nat) : Int) % (d : Int) := by
    have e4 : (d : Int) * (((k : Int) - (xs.length : Int)) / (d : Int)) + ((k : Int) - (xs.length : Int)) % (d : Int) = (k : Int) - (xs.length : Int) := Int.mul_ediv_add_emod _ _
    have e5 : ((xs.length + j : Nat) : Int) = ((k + d : Nat) : Int) + (d : Int) * (-(((k : Int) - (xs.length : Int)) / (d : Int)) - 1) := by
      rw [Int.mul_sub, Int.mul_neg, Int.mul_one]
      push_cast
      omega
    rw [e5, Int.add_mul_emod_self_left]
  exact_mod_cast z
/-- the turned cycle is what follows place k -/
theorem rot_seg {xs ys : List Int} {d k : Nat} (hd : 1 ≤ d) (hdl : d ≤ ys.length) (hk : k ≤ xs.length) (q : Per (sq xs ys) k d) :
    rot (ys.take d) (((k : Int) - (xs.length : Int)) % (d : Int)).toNat = seg (sq xs ys) k d := by
  obtain ⟨j, hj⟩ : ∃ j, (((k : Int) - (xs.length : Int)) % (d : Int)).toNat = j := ⟨_, rfl⟩
  have e := emod_nat (a := (k : Int) - (xs.length : Int)) hd
  rw [hj] at e
  have hjd : j < d := by
    have := Int.emod_lt_of_pos ((k : Int) - (xs.length : Int)) (show (0 : Int) < (d : Int) by omega)
    omega
  have hl : (ys.take d).length = d := by
    rw [List.length_take]
    omega
  rw [hj]
  have hrl : (rot (ys.take d) j).length = d := by
    simp only [rot, List.length_append, List.length_drop, List.length_take]
    omega
  refine list_ext (by rw [hrl, seg_len]) fun t ht => ?_
  rw [hrl] at ht
  rw [seg_get _ _ _ _ ht]
  have h2 : (rot (ys.take d) j).getD t 0 = (ys.take d).getD ((j + t) % d) 0 := by
    unfold rot
    by_cases c : t < d - j
    · rw [Nat.mod_eq_of_lt (by omega)]
      simp only [List.getD]
      rw [List.getElem?_append_left (by rw [List.length_drop, hl]; omega), List.getElem?_drop]
    · have e3 : (j + t) % d = t - (d - j) := by
        rw [show j + t = (t - (d - j)) + d by omega, Nat.add_mod_right, Nat.mod_eq_of_lt (by omega)]
      rw [e3]
      simp only [List.getD]
      rw [List.getElem?_append_right (by rw [List.length_drop, hl]; omega), List.length_drop, hl, List.getElem?_take_of_lt (by omega)]
  have hm := Nat.mod_lt (j + t) hd
  rw [h2, getD_take hm]
  have h1 : sq xs ys (xs.length + (j + t) % d) = ys.getD ((j + t) % d) 0 := by rw [sq_tail, Nat.mod_eq_of_lt (by omega)]
  rw [← h1]
  refine q.cong hd (by omega) (by omega) ?_
  have z : ((xs.length + (j + t) : Nat) : Int) % (d : Int) = ((k + t : Nat) : Int) % (d : Int) := by
    push_cast
    rw [e, show (xs.length : Int) + (((k : Int) - (xs.length : Int)) % (d : Int) + (t : Int)) = ((k : Int) - (xs.length : Int)) % (d : Int) + ((xs.length : Int) + (t : Int)) by omega, Int.add_emod, Int.emod_emod_of_dvd _ (Int.dvd_refl _), ← Int.add_emod]
    congr 1
    omega
  have z2 : (xs.length + (j + t)) % d = (k + t) % d := by exact_mod_cast z
  rw [Nat.add_mod, Nat.mod_mod, ← Nat.add_mod]
  exact z2
theorem head_seg {xs ys : List Int} {k : Nat} (hk : k ≤ xs.length) : xs.take k = seg (sq xs ys) 0 k := by
  refine list_ext (by rw [seg_len, List.length_take]; omega) fun t ht => ?_
  rw [List.length_take] at ht
  rw [seg_get _ _ _ _ (by omega), getD_take (by omega), Nat.zero_add]
  unfold sq
  rw [if_pos (by omega)]
def spNormal : Sp := fun vs H Q _ => ∃ (r : Addr) (xs ys : List Int), vs = [.ref r] ∧ RowAt H r xs ys ∧ ys ≠ [] ∧ xs.length ≤ 500 ∧ ys.length ≤ 500 ∧
  ∀ (r' : Addr) (H' : Hp) (m p : Nat), Same H H' → IsNF (sq xs ys) m p → m ≤ xs.length → p ≤ ys.length → RowAt H' r' (seg (sq xs ys) 0 m) (seg (sq xs ys) m p) → Q (.ref r') H'
section
variable {P : Program} {w : World} {K : PySem.W.Frag} {mg : Str → Option Value} {base : Heap}
theorem scNormal : FnScope ["row", "head", "long_cycle", "cycle", "kept"] ["row"] (defScope sNormal) := ⟨rfl, rfl, rfl, by decide +kernel, rfl, by decide +kernel, by decide +kernel⟩
set_option maxHeartbeats 4000000 in
theorem ok_normal {f : Addr} {fd : FuncData} {k : Nat} (F : Fun K "normal_row" "normal_row" sNormal f fd) (T : Bi mg) (cT : C8.Cal P w K mg base 1 "turned" spTurned []) (cS : C8.Cal P w K mg base 1 "shortest_cycle" spShort []) : FnOk P w K mg base CX0 (k + 2) f fd ["row"] spNormal := by
  refine F.ok scNormal (fun vs H Q E h => ?_) (fun cdv A outer s H vs Q E hr h => ?_)
  · obtain ⟨r, xs, ys, rfl, _⟩ := h
    rfl
  · obtain ⟨r, xs, ys, rfl, ⟨h, c, hrow, hh, hc⟩, hy, hlx, hly, q⟩ := h
    have hk : 1 ≤ k + 1 := Nat.le_add_left 1 k
    refine ⟨_, pss_cons (ps_asg (pv 0) (pg_tup rfl (pgs_cons (pg_name (i := 1) scNormal.nd rfl (Or.inl rfl)) (pgs_cons (pg_name (i := 2) scNormal.nd rfl (Or.inl rfl)) pgs_nil))))
      (pss_cons (ps_set (i := 3) scNormal.nd rfl (Or.inl rfl) (C8.pe_c cS hr hk (by rfl) (pa_cons (pv 2) pa_nil)))
      (pss_cons (ps_set (i := 4) scNormal.nd rfl (Or.inl rfl) (pe_callB call_len_seq (by rfl) T.len PySem.boot_len (pa_cons (pv 1) pa_nil)))
      (pss_cons (ps_while PassesOwn.never (PW.pt (pw_and (pt_cmpR op_gt (pv 4) pe_int (nomark _)) (pw_and1 (pt_cmpR op_eq (pe_ix ix_tup (pv 1) (pe_op op_sub (pv 4) pe_int) (fun _ _ => rfl))
          (pe_ix ix_tup (pv 3) (pe_op op_mod (pe_op op_sub (pe_op op_sub (pv 4) pe_int) (pe_callB call_len_seq (by rfl) T.len PySem.boot_len (pa_cons (pv 1) pa_nil))) (pe_callB call_len_seq (by rfl) T.len PySem.boot_len (pa_cons (pv 3) pa_nil))) (fun _ _ => rfl)) (nomark _)))))
        (pss_one (ps_aug (i := 4) scNormal.nd rfl (.inl rfl) pe_int ip_sub)))
      (pss_one (ps_ret (pe_tup (pa_cons (pe_slice sl_tupA (pv 1) po_none (po_some (pv 4))) (pa_cons (C8.pe_c cT hr hk (by rfl) (pa_cons (pv 3) (pa_cons (pe_op op_sub (pv 4) (pe_callB call_len_seq (by rfl) T.len PySem.boot_len (pa_cons (pv 1) pa_nil))) pa_nil))) pa_nil)))))))), ?_⟩
    refine ⟨_, rfl, r, _, rfl, SqT.of hrow, rfl, _, _, rfl, _, _, rfl, rfl, ?_⟩
    refine ⟨_, rfl, c, ys, rfl, hc, hy, hly, fun cy H1 d s1 hcy sh => ?_⟩
    have hh1 := hh.same s1
    have hdl := sh.dl
    have hd1 := sh.d1
    have ldl : ((ys.take d).map V.int).length = d := by
      rw [List.length_map, List.length_take]
      omega
    refine ⟨_, rfl, h, _, rfl, .inr (SqT.of hh1), ?_⟩
    rw [List.length_map]
    -- the while
    refine ⟨fun m σ H' => ∃ kp : Nat, m = kp ∧ σ = [some (.ref r), some (.ref h), some (.ref c), some (.ref cy), some (.int (kp : Int))] ∧ H' = H1 ∧ kp ≤ xs.length ∧ Per (sq xs ys) kp d, ⟨xs.length, xs.length, rfl, rfl, rfl, Nat.le_refl _, gives_per hd1 hdl sh.gv⟩, ?_⟩
    rintro kp σ H' ⟨_, rfl, rfl, rfl, hkp, per⟩
    have fin : (∀ m', Per (sq xs ys) m' d → kp ≤ m') → tRet (tTup (tCons (tSl (rSlA K) (tVar 1) tNoPart (tPart (tVar 4))) (tCons (tCall spTurned [] C8.E0 (tCons (tVar 3) (tCons (tOp (rI0 fun i j => .int (i - j)) (tVar 4) (tCB (fun xs H Q => ∃ p ys, xs = [.ref p] ∧ (SqL K H p ys ∨ SqT K H p ys) ∧ Q (.int ys.length) H) (tCons (tVar 1) tNil))) tNil))) tNil)))
        { nx := fun _ H' => Q .non H', rt := Q } [some (.ref r), some (.ref h), some (.ref c), some (.ref cy), some (.int (kp : Int))] H' := fun hmin => by
      refine ⟨_, rfl, _, rfl, _, rfl, slA hh1 fun r1 H2 s2 h2 => ?_⟩
      have h2' : TI H2 r1 (seg (sq xs ys) 0 kp) := by
        unfold TI
        rw [h2, cut_lo' (by rw [List.length_map]; exact hkp), ← List.map_take, head_seg hkp]
      refine ⟨_, rfl, _, rfl, _, rfl, h, _, rfl, .inr (SqT.of (hh1.same s2)), _, _, rfl, rfl, cy, _, ys.take d, rfl, hcy.same s2, ?_, ?_, fun r2 H3 s3 h3 => ?_⟩
      · intro z
        have := congrArg List.length z
        rw [List.length_take] at this
        have h0 : ([] : List Int).length = 0 := rfl
        omega
      · rw [List.length_take]
        omega
      rw [List.length_map] at h3
      have lt : (ys.take d).length = d := by
        rw [List.length_take]
        omega
      rw [lt, rot_seg hd1 hdl hkp per] at h3
      refine ⟨(by show 2 ≤ sizeLine; decide), fun p hp => ?_⟩
      have s4 := same_upd (o := .tup [.ref r1, .ref r2]) hp
      exact q p _ kp d (((s1.trans s2).trans s3).trans s4) (nf_of (sq_per xs ys hy) (by omega) hd1 (sh_min hy sh) per hmin) hkp hdl ⟨r1, r2, upd_same, (h2'.same s3).same s4, TI.same h3 s4⟩
    refine ⟨_, rfl, _, _, rfl, rfl, _, rfl, ?_⟩
    match kp, hkp, per, fin with
    | 0, hkp, per, fin =>
      refine if_f (decide_eq_false (by omega)) (iteF ?_)
      exact fin fun m' _ => Nat.zero_le _
    | kp + 1, hkp, per, fin =>
      refine if_t (decide_eq_true (by omega)) ?_
      have e1 : ((kp + 1 : Nat) : Int) - 1 = (kp : Int) := by omega
      have i1 : atI (xs.map V.int) (((kp + 1 : Nat) : Int) - 1) = some (.int (xs.getD kp 0)) := by
        rw [e1]
        exact int_at (by omega)
      have dpos : (0 : Int) < (((ys.take d).map V.int).length : Int) := by
        rw [ldl]
        omega
      obtain ⟨j, hj⟩ : ∃ j : Nat, (((kp : Int) - (xs.length : Int)) % (d : Int)).toNat = j := ⟨_, rfl⟩
      have ej := emod_nat (a := (kp : Int) - (xs.length : Int)) hd1
      rw [hj] at ej
      have hjd : j < d := by
        have := Int.emod_lt_of_pos ((kp : Int) - (xs.length : Int)) (show (0 : Int) < (d : Int) by omega)
        omega
      have i2 : atI ((ys.take d).map V.int) ((((kp + 1 : Nat) : Int) - 1 - ((xs.map V.int).length : Int)) % (((ys.take d).map V.int).length : Int)) = some (.int ((ys.take d).getD j 0)) := by
        rw [e1, ldl, List.length_map, ← ej]
        exact int_at (by rw [List.length_take]; omega)
      have hb := back_edge (xs := xs) (ys := ys) (d := d) (k := kp) hd1 hdl (by omega) per
      rw [hj] at hb
      refine ⟨_, rfl, _, rfl, _, _, rfl, rfl, h, _, _, _, rfl, rfl, SqT.of hh1, i1, _, rfl, _, rfl, _, _, rfl, rfl, _, rfl, h, _, rfl, .inr (SqT.of hh1), _, _, rfl, rfl, _, rfl, cy, _, rfl, .inr (SqT.of hcy), _, _, rfl, rfl, dpos, cy, _, _, _, rfl, rfl, SqT.of hcy, i2, rfl, _, rfl, ?_⟩
      have hs : sq xs ys kp = xs.getD kp 0 := by
        unfold sq
        rw [if_pos (by omega)]
      by_cases hx : sq xs ys kp = sq xs ys (kp + d)
      · refine if_t (decide_eq_true (by rw [hb, ← hx, hs])) ?_
        refine ⟨fun σ' H'' => ∃ kp', kp' < kp + 1 ∧ σ' = [some (.ref r), some (.ref h), some (.ref c), some (.ref cy), some (.int (kp' : Int))] ∧ H'' = H' ∧ kp' ≤ xs.length ∧ Per (sq xs ys) kp' d, fun σ' H'' z => ?_, ?_⟩
        · obtain ⟨kp', a1, a2, a3, a4, a5⟩ := z
          exact ⟨kp', a1, kp', rfl, a2, a3, a4, a5⟩
        · refine ⟨_, rfl, _, _, rfl, rfl, kp, by omega, ?_, rfl, by omega, fun i hi => ?_⟩
          · show [some (V.ref r), some (V.ref h), some (V.ref c), some (V.ref cy), some (V.int (((kp + 1 : Nat) : Int) - 1))] = _
            rw [e1]
          · by_cases hi2 : i = kp
            · rw [hi2]
              exact hx
            · exact per i (by omega)
      · refine if_f (decide_eq_false (fun z => hx ?_)) ?_
        · injection z with z
          rw [hs, ← hb]
          exact z
        · refine fin fun m' hm' => ?_
          refine Nat.le_of_not_lt fun hlt => hx (hm' kp (by omega))
end
end Lw

set_option Elab.async false
set_option linter.all false
set_option maxRecDepth 100000
/-! edge_at, state_at and drop, with their errors -/
namespace Lw
open PySem L2
abbrev sEdgeAt : Stmt := top 16
abbrev sStateAt : Stmt := top 18
abbrev sDrop : Stmt := top 17
/-- an own error is raised -/
def OutE (CE : Addr) (fld wd : Str) (H : Hp) (k : Int) (E : XK) : Prop := ∀ H1 d, Same H H1 → H1 d = none → E (.ref CE) (some d) (upd H1 d (.xd (erF fld wd k)))
def spEAt (CO : Addr) : Sp := fun vs H Q E => ∃ (r : Addr) (xs ys : List Int) (p : Int), vs = [.ref r, .int p] ∧ RowAt H r xs ys ∧ ys ≠ [] ∧ p.natAbs < 10 ^ 100 ∧ (0 ≤ p → Q (.int (sq xs ys p.toNat)) H) ∧ (p < 0 → OutE CO "number" "outofrange" H p E)
def spSt (C CR CO : Addr) : Sp := fun vs H Q E => ∃ (g : Addr) (n : Int) (us : Es) (r : Addr) (xs ys : List Int) (p : Int), vs = [.ref g, .ref r, .int p] ∧ GraphAt C H g n us ∧ RowAt H r xs ys ∧ xs.length ≤ 300 ∧ ys.length ≤ 300 ∧ p.natAbs < 10 ^ 100 ∧
  (ys = [] → OutR CR H (-1) E) ∧ (ys ≠ [] → RowOf (psOf us) (sq xs ys) ∧ (p < 0 → OutE CO "number" "outofrange" H p E) ∧ (0 ≤ p → ∀ H', Same H H' → Q (.int (prt (psOf us) (sq xs ys p.toNat)).1) H'))
/-- the row behind its first c edges -/
def dr (s : Nat → Int) (c : Nat) : Nat → Int := fun i => s (c + i)
def spDrop (CC : Addr) : Sp := fun vs H Q E => ∃ (r : Addr) (xs ys : List Int) (c : Int), vs = [.ref r, .int c] ∧ RowAt H r xs ys ∧ ys ≠ [] ∧ xs.length ≤ 400 ∧ ys.length ≤ 400 ∧ c.natAbs < 10 ^ 100 ∧ (c < 0 → OutE CC "count" "invalidcount" H c E) ∧
  (0 ≤ c → ∀ (r' : Addr) (H' : Hp) (m p : Nat), Same H H' → IsNF (dr (sq xs ys) c.toNat) m p → m ≤ xs.length → p ≤ ys.length → RowAt H' r' (seg (dr (sq xs ys) c.toNat) 0 m) (seg (dr (sq xs ys) c.toNat) m p) → Q (.ref r') H')
theorem rot_zero (ys : List Int) : rot ys 0 = ys := by
  unfold rot
  simp
theorem drop_sq {xs ys : List Int} {c t : Nat} (hy : ys ≠ []) (ht : t = (c - xs.length) % ys.length) : sq (xs.drop c) (rot ys t) = dr (sq xs ys) c := by
  have hn := len_pos' hy
  have htl : t < ys.length := by
    rw [ht]
    exact Nat.mod_lt _ hn
  funext i
  show (if i < (xs.drop c).length then (xs.drop c).getD i 0 else (rot ys t).getD ((i - (xs.drop c).length) % (rot ys t).length) 0) = (if c + i < xs.length then xs.getD (c + i) 0 else ys.getD ((c + i - xs.length) % ys.length) 0)
  rw [List.length_drop, rot_len]
  by_cases h : c + i < xs.length
  · rw [if_pos h, if_pos (by omega)]
    simp [List.getD, List.getElem?_drop]
  · rw [if_neg h, if_neg (by omega), rot_get htl (Nat.mod_lt _ hn)]
    by_cases hc : c ≤ xs.length
    · have t0 : t = 0 := by
        rw [ht, Nat.sub_eq_zero_of_le hc, Nat.zero_mod]
      rw [t0, Nat.zero_add, Nat.mod_mod]
      congr 2
      omega
    · rw [ht, ← Nat.add_mod]
      congr 2
      omega
theorem cut_any {xs : List V} {c : Nat} : cutV xs (some (c : Int)) none = xs.drop c := by
  unfold cutV
  rw [HT.sIx_none, HT.sIx_nat]
  rw [List.take_of_length_le (by rw [List.length_drop]; exact Nat.le_refl _)]
  by_cases h : c ≤ xs.length
  · rw [Nat.min_eq_left h]
  · rw [Nat.min_eq_right (by omega), List.drop_of_length_le (Nat.le_refl _), List.drop_of_length_le (by omega)]
section
variable {P : Program} {w : World} {K : PySem.W.Frag} {mg : Str → Option Value} {base : Heap}
theorem scEdgeAt : FnScope ["row", "place", "head", "cycle"] ["row", "place"] (defScope sEdgeAt) := ⟨rfl, rfl, rfl, by decide +kernel, rfl, by decide +kernel, by decide +kernel⟩
theorem okN_eat {f CO : Addr} {fd : FuncData} {k : Nat} (F : Fun K "edge_at" "edge_at" sEdgeAt f fd) (T : Bi mg) (R : ErrIn P w K mg base "OutOfRange" CO "number" "outofrange") : FnOk P w K mg base (L2N.CX P w) (k + 4) f fd ["row", "place"] (spEAt CO) := by
  refine okN F scEdgeAt (fun vs H Q E h => ?_) (fun cdv A outer s H vs Q E hr h => ?_)
  · obtain ⟨r, xs, ys, p, rfl, _⟩ := h
    rfl
  · obtain ⟨r, xs, ys, p, rfl, ⟨h, c, hrow, hh, hc⟩, hy, hp, k0, k1⟩ := h
    refine ⟨_, pss_cons (ps_if (pt_cmpR op_lt (pv 1) pe_int (nomark _)) (pss_one (ps_raiseN rfl (L2N.takes_of rfl rfl rfl rfl) R hr (by omega) (by rfl) (pa_cons (pv 1) pa_nil))) pss_nil)
      (pss_cons (ps_asg (pv 0) (pg_tup rfl (pgs_cons (pg_name (i := 2) scEdgeAt.nd rfl (Or.inl rfl)) (pgs_cons (pg_name (i := 3) scEdgeAt.nd rfl (Or.inl rfl)) pgs_nil))))
      (pss_cons (ps_if (pt_cmpR op_lt (pv 1) (pe_callB call_len_seq (by rfl) T.len PySem.boot_len (pa_cons (pv 2) pa_nil)) (nomark _)) (pss_one (ps_ret (pe_ix ix_tup (pv 2) (pv 1) (fun _ _ => rfl)))) pss_nil)
      (pss_one (ps_ret (pe_ix ix_tup (pv 3) (pe_op op_mod (pe_op op_sub (pv 1) (pe_callB call_len_seq (by rfl) T.len PySem.boot_len (pa_cons (pv 2) pa_nil))) (pe_callB call_len_seq (by rfl) T.len PySem.boot_len (pa_cons (pv 3) pa_nil))) (fun _ _ => rfl)))))), ?_⟩
    have hl := len_pos' hy
    refine ⟨_, rfl, _, _, rfl, rfl, _, rfl, ?_⟩
    by_cases h0 : p < 0
    · exact if_t (decide_eq_true h0) ⟨_, rfl, er_tail hp fun d hd => k1 h0 H d (fun _ _ z => z) hd⟩
    refine if_f (decide_eq_false h0) ?_
    have h0' : 0 ≤ p := by omega
    refine ⟨_, rfl, r, _, rfl, SqT.of hrow, rfl, _, _, rfl, _, _, rfl, rfl, ?_⟩
    refine ⟨_, rfl, _, rfl, h, _, rfl, .inr (SqT.of hh), _, _, rfl, rfl, _, rfl, ?_⟩
    by_cases hlt : p < (xs.length : Int)
    · refine if_t (decide_eq_true (by rw [List.length_map]; exact hlt)) ?_
      exact ⟨_, rfl, _, rfl, h, _, _, _, rfl, rfl, SqT.of hh, head_at h0' hlt, k0 h0'⟩
    · refine if_f (decide_eq_false (by rw [List.length_map]; exact hlt)) ?_
      exact ⟨_, rfl, _, rfl, _, rfl, h, _, rfl, .inr (SqT.of hh), _, _, rfl, rfl, _, rfl, c, _, rfl, .inr (SqT.of hc), _, _, rfl, rfl, (by show (0 : Int) < ((ys.map V.int).length : Int); rw [List.length_map]; omega), c, _, _, _, rfl, rfl, SqT.of hc, cyc_at hy h0' hlt, k0 h0'⟩
theorem scStateAt : FnScope ["graph", "row", "place"] ["graph", "row", "place"] (defScope sStateAt) := ⟨rfl, rfl, rfl, by decide +kernel, rfl, by decide +kernel, by decide +kernel⟩
set_option maxHeartbeats 4000000 in
theorem okN_st {f C CR CO : Addr} {fd : FuncData} {k : Nat} (F : Fun K "state_at" "state_at" sStateAt f fd) (cR : CalN P w K mg base 4 "check_row" (spCkRow C CR)) (cE : CalN P w K mg base 4 "edge_at" (spEAt CO)) (mE : C8.Met P w K mg base 1 C "edge" (spEdge0 C) []) : FnOk P w K mg base (L2N.CX P w) (k + 5) f fd ["graph", "row", "place"] (spSt C CR CO) := by
  refine okN F scStateAt (fun vs H Q E h => ?_) (fun cdv A outer s H vs Q E hr h => ?_)
  · obtain ⟨g, n, us, r, xs, ys, p, rfl, _⟩ := h
    rfl
  · obtain ⟨g, n, us, r, xs, ys, p, rfl, GA, RA, lx, ly, hp, k0, k1⟩ := h
    refine ⟨_, pss_cons (ps_expr (pe_cN cR (L2N.takes_of rfl rfl rfl rfl) (fun _ _ _ _ h => h) hr (by omega) (by rfl) (pa_cons (pv 0) (pa_cons (pv 1) pa_nil))))
      (pss_one (ps_ret (pe_ix ix_tup (C8.pe_mt mE hr (by omega) (pv 0) (pa_cons (pe_cN cE (L2N.takes_of rfl rfl rfl rfl) (fun _ _ _ _ h => h) hr (by omega) (by rfl) (pa_cons (pv 1) (pa_cons (pv 2) pa_nil))) pa_nil)) pe_int (fun _ _ => rfl)))), ?_⟩
    refine ⟨_, rfl, _, rfl, g, n, us, r, xs, ys, rfl, GA, RA, lx, ly, k0, fun hy => ⟨fun fb H1 s1 => ?_, fun j fb => by cases FB.uniq ((k1 hy).1.none hy) fb⟩⟩
    obtain ⟨ro, kO, kQ⟩ := k1 hy
    have GA1 := GA.same s1
    obtain ⟨⟨dx, t, h1, h2⟩, ed⟩ := id GA1
    refine ⟨_, rfl, g, dx, _, rfl, h1, look_no _ _ (by decide +kernel) (by decide +kernel), _, rfl, _, rfl, r, xs, ys, p, rfl, RA.same s1, hy, hp, fun h0 => ?_, fun h0 => fun H2 d s2 hd => kO h0 H2 d (s1.trans s2) hd⟩
    have hin := (ro p.toNat).1
    obtain ⟨e, he, he2⟩ := prt_at hin
    refine ⟨g, n, us, (sq xs ys p.toNat).toNat, e, ?_, GA1, he, ?_⟩
    · rw [Int.toNat_of_nonneg hin.1]
      rfl
    · refine ⟨e.1, _, _, _, rfl, rfl, SqT.of (ed e (List.mem_of_getElem? he)), rfl, ?_⟩
      rw [he2]
      exact kQ h0 H1 s1
theorem scDrop : FnScope ["row", "count", "head", "cycle"] ["row", "count"] (defScope sDrop) := ⟨rfl, rfl, rfl, by decide +kernel, rfl, by decide +kernel, by decide +kernel⟩
set_option maxHeartbeats 4000000 in
theorem okN_drop {f CC : Addr} {fd : FuncData} {k : Nat} {kws : List (Str × V)} (F : FunD K "drop" "drop" (defArgs sDrop) (defBody sDrop) (defScope sDrop) [] kws f fd) (T : Bi mg) (mM : mg "max" = none) (R : ErrIn P w K mg base "InvalidCount" CC "count" "invalidcount") (cN : C8.Cal P w K mg base 2 "normal_row" spNormal []) (cT : C8.Cal P w K mg base 1 "turned" spTurned []) :
    FnOk P w K mg base (L2N.CX P w) (k + 4) f fd ["row", "count"] (spDrop CC) := by
  refine F.ok scDrop (fun vs H Q E h => ?_) (fun cdv A outer s H vs Q E hr h => ?_)
  · obtain ⟨r, xs, ys, c, rfl, _⟩ := h
    rfl
  · obtain ⟨r, xs, ys, c, rfl, ⟨h, cy, hrow, hh, hc⟩, hy, lx, ly, hp, k0, k1⟩ := h
    refine ⟨_, pss_cons (ps_if (pt_cmpR op_lt (pv 1) pe_int (nomark _)) (pss_one (ps_raiseN rfl (L2N.takes_of rfl rfl rfl rfl) R hr (by omega) (by rfl) (pa_cons (pv 1) pa_nil))) pss_nil)
      (pss_cons (ps_asg (pv 0) (pg_tup rfl (pgs_cons (pg_name (i := 2) scDrop.nd rfl (Or.inl rfl)) (pgs_cons (pg_name (i := 3) scDrop.nd rfl (Or.inl rfl)) pgs_nil))))
      (pss_one (ps_ret (C8.pe_c cN hr (by omega) (by rfl) (pa_cons (pe_tup (pa_cons (pe_slice sl_tupA (pv 2) (po_some (pv 1)) po_none) (pa_cons (C8.pe_c cT hr (by omega) (by rfl) (pa_cons (pv 3) (pa_cons (pe_callB (call_max2 rfl) (by rfl) mM PyProof.Rows.boot_max (pa_cons pe_int (pa_cons (pe_op op_sub (pv 1) (pe_callB call_len_seq (by rfl) T.len PySem.boot_len (pa_cons (pv 2) pa_nil))) pa_nil))) pa_nil))) pa_nil))) pa_nil))))), ?_⟩
    refine ⟨_, rfl, _, _, rfl, rfl, _, rfl, ?_⟩
    by_cases h0 : c < 0
    · exact if_t (decide_eq_true h0) ⟨_, rfl, er_tail hp fun d hd => k0 h0 H d (fun _ _ z => z) hd⟩
    refine if_f (decide_eq_false h0) ?_
    obtain ⟨c, rfl⟩ : ∃ n : Nat, c = (n : Int) := ⟨c.toNat, by omega⟩
    have kQ := k1 (by omega)
    rw [Int.toNat_natCast] at kQ
    refine ⟨_, rfl, r, _, rfl, SqT.of hrow, rfl, _, _, rfl, _, _, rfl, rfl, ?_⟩
    refine ⟨_, rfl, _, rfl, (c : Int), rfl, ?_⟩
    dsimp only [tNoPart]
    refine slA hh fun h1 H1 s1 e1 => ?_
    have e1' : TI H1 h1 (xs.drop c) := by
      unfold TI
      rw [e1, cut_any, List.map_drop]
    refine ⟨_, rfl, _, rfl, _, rfl, h, _, rfl, .inr (SqT.of (s1 _ _ hh)), _, _, rfl, rfl, _, _, rfl, ?_⟩
    refine ⟨cy, _, ys, rfl, hc.same s1, hy, by omega, fun c1 H2 s2 e2 => ⟨(by show 2 ≤ sizeLine; decide), fun p hp2 => ?_⟩⟩
    have hn := len_pos' hy
    have hb : (fun i j : Int => V.int (i - j)) (c : Int) ((xs.map V.int).length : Int) = V.int ((c : Int) - (xs.length : Int)) := by
      rw [List.length_map]
    have et : ((if (c : Int) - ((xs.map V.int).length : Int) > 0 then (c : Int) - ((xs.map V.int).length : Int) else 0) % (ys.length : Int)).toNat = (c - xs.length) % ys.length := by
      rw [List.length_map]
      have e0 : (if (c : Int) - (xs.length : Int) > 0 then (c : Int) - (xs.length : Int) else 0) = ((c - xs.length : Nat) : Int) := by
        by_cases hcl : (c : Int) - (xs.length : Int) > 0
        · rw [if_pos hcl]
          omega
        · rw [if_neg hcl]
          omega
      rw [e0, show (((c - xs.length : Nat) : Int) % (ys.length : Int)) = (((c - xs.length) % ys.length : Nat) : Int) from rfl, Int.toNat_natCast]
    rw [et] at e2
    have s3 := same_upd (o := .tup [.ref h1, .ref c1]) hp2
    have e3 : upd H2 p (.tup [.ref h1, .ref c1]) p = some (.tup [.ref h1, .ref c1]) := upd_same
    have es := drop_sq (xs := xs) (ys := ys) (c := c) hy rfl
    refine ⟨p, xs.drop c, rot ys ((c - xs.length) % ys.length), rfl, ⟨h1, c1, e3, (e1'.same s2).same s3, e2.same s3⟩, ?_, ?_, ?_, fun r' H' m q sm nf hm hq ra => ?_⟩
    · intro z
      have := congrArg List.length z
      rw [rot_len] at this
      have h0 : ([] : List Int).length = 0 := rfl
      omega
    · rw [List.length_drop]
      omega
    · rw [rot_len]
      omega
    · rw [es] at nf ra
      rw [List.length_drop] at hm
      rw [rot_len] at hq
      exact kQ r' H' m q (((s1.trans s2).trans s3).trans sm) nf (by omega) hq ra
end
end Lw

set_option Elab.async false
set_option linter.all false
set_option maxRecDepth 100000
namespace Lw
open PySem L2
abbrev sAfter : Stmt := top 31
/-- the edges behind an edge -/
abbrev folB (ps : List (Int × Int)) (e : Int) (p : Int × Int) : Bool := decide (p.1 = (prt ps e).2)
def spAfter : Sp := fun vs H Q _ => ∃ (p q : Addr) (n : Int) (ts : Es) (e : Int), vs = [.ref p, .int e] ∧ PlanAt H p q n ts ∧ Inr (psOf ts) e ∧ ts.length ≤ 1000 ∧
  ∀ D H', Same H H' → H D = none → H' D = some (.lst ((sel (folB (psOf ts) e) (psOf ts) ts.length).map V.int)) → Q (.ref D) H'
section
variable {P : Program} {w : World} {K : PySem.W.Frag} {mg : Str → Option Value} {base : Heap}
theorem scAfter : FnScope ["_law_plan_here", "_law_edge_here", "_law_number"] ["_law_plan_here", "_law_edge_here"] (defScope sAfter) := ⟨rfl, rfl, rfl, by decide +kernel, rfl, by decide +kernel, by decide +kernel⟩
theorem ix_es {us : Es} {e : Int} {x : Addr × Int × Int} (h : 0 ≤ e) (hx : us[e.toNat]? = some x) : atI (vsOf us) e = some (.ref x.1) := by
  rw [show e = ((e.toNat : Nat) : Int) by omega]
  exact atI_nat (vsOf_get hx)
set_option maxHeartbeats 4000000 in
theorem ok_after {f : Addr} {fd : FuncData} {k : Nat} (F : Fun K "_law_after" "_law_after" sAfter f fd) (T : Bi mg) : FnOk P w K mg base CX0 (k + 1) f fd ["_law_plan_here", "_law_edge_here"] spAfter := by
  refine F.ok scAfter (fun vs H Q E h => ?_) (fun cdv A outer s H vs Q E hr h => ?_)
  · obtain ⟨p, q0, n, ts, e, rfl, _⟩ := h
    rfl
  · obtain ⟨p, q0, n, ts, e, rfl, PA, hin, hl, q⟩ := h
    refine ⟨_, pss_one (ps_ret (pe_lc (own := [("_law_number", 2)]) (g := gName 2) (tt := tTest (tOp rEq (tOp (rIxT K) (tOp (rIxL K) (tOp (rIxT K) (tVar 0) (tC (.int 1))) (tVar 2)) (tC (.int 0))) (tOp (rIxT K) (tOp (rIxL K) (tOp (rIxT K) (tVar 0) (tC (.int 1))) (tVar 1)) (tC (.int 1))))) (te := tVar 2) rfl scAfter.nd
        (pi_range1 (by rfl) T.range (pa_cons (pe_callB call_len_seq (by rfl) T.len PySem.boot_len (pa_cons (pe_ix ix_tup (pv 0) pe_int (fun _ _ => rfl)) pa_nil)) pa_nil))
          (blkOk_by (N := ["_law_plan_here", "_law_edge_here", "_law_number"]) (sc := defScope sAfter) (by decide +kernel))
          (fun _ _ _ _ _ => by exact pg_name (i := 2) scAfter.nd rfl (Or.inl rfl))
          (fun _ _ _ _ _ => by exact pts_one (pt_cmpR op_eq (pe_ix ix_tup (pe_ix ix_list (pe_ix ix_tup (pv 0) pe_int (fun _ _ => rfl)) (pv 2) (fun _ _ => rfl)) pe_int (fun _ _ => rfl)) (pe_ix ix_tup (pe_ix ix_list (pe_ix ix_tup (pv 0) pe_int (fun _ _ => rfl)) (pv 1) (fun _ _ => rfl)) pe_int (fun _ _ => rfl)) (nomark _)))
          (fun _ _ _ _ _ => by exact pv 2))), ?_⟩
    obtain ⟨x, hx, hx2⟩ := prt_at hin
    refine ⟨_, rfl, p, _, _, _, rfl, rfl, SqT.of PA.tp, rfl, q0, _, rfl, .inl (SqL.of PA.ls), _, rfl, by omega, by rw [vsOf_len]; omega, fun D hD => ?_⟩
    refine lc_it (walk_range (lo := 0) (n := (((vsOf ts).length : Nat) : Int).toNat)) (fun i H' => Same H H' ∧ H' D = some (.lst ((sel (folB (psOf ts) e) (psOf ts) i).map V.int))) ⟨same_upd hD, upd_same⟩ (fun _ _ _ _ => True.intro) ?_ ?_
    · rintro i z H1 H' hi ⟨sm, eD⟩ ⟨rfl, rfl⟩
      rw [Int.toNat_natCast, vsOf_len] at hi
      have hy : ts[i]? = some ts[i] := List.getElem?_eq_getElem hi
      refine ⟨rfl, ?_⟩
      have e0 : (0 : Int) + (i : Int) = (i : Int) := by omega
      have ai : atI (vsOf ts) (0 + (i : Int)) = some (.ref (ts[i]).1) := by
        rw [e0]
        exact atI_nat (vsOf_get hy)
      refine ⟨_, rfl, p, _, _, _, rfl, rfl, SqT.of (sm _ _ PA.tp), rfl, _, rfl, q0, _, _, _, rfl, rfl, SqL.of (sm _ _ PA.ls), ai, _, _, _, _, rfl, rfl, SqT.of (sm _ _ (PA.ed _ (List.mem_of_getElem? hy))), rfl, ?_⟩
      refine ⟨_, rfl, p, _, _, _, rfl, rfl, SqT.of (sm _ _ PA.tp), rfl, _, rfl, q0, _, _, _, rfl, rfl, SqL.of (sm _ _ PA.ls), ix_es hin.1 hx, _, _, _, _, rfl, rfl, SqT.of (sm _ _ (PA.ed _ (List.mem_of_getElem? hx))), rfl, ?_⟩
      refine ⟨rfl, _, rfl, ?_⟩
      rw [dec_int', hx2, sel_succ (psOf_at hy)]
      by_cases hc : (ts[i]).2.1 = (prt (psOf ts) e).2
      · refine if_t (decide_eq_true hc) ⟨_, rfl, _, eD, ?_, ?_, ?_⟩
        · rw [List.length_map]
          exact small1000 (Nat.le_trans (sel_len _ _ _) (by omega))
        · exact fun b o eb => by
            rw [upd_ne (ne_of_none eb hD)]
            exact sm _ _ eb
        · rw [upd_same, if_pos (decide_eq_true hc), List.map_append]
          show some (HO.lst (_ ++ [V.int (0 + (i : Int))])) = _
          rw [e0]
          rfl
      · refine if_f (decide_eq_false hc) ?_
        rw [if_neg (fun z => hc (of_decide_eq_true z))]
        exact ⟨sm, eD⟩
    · rintro H1 ⟨sm, eD⟩
      rw [Int.toNat_natCast, vsOf_len] at eD
      exact q D H1 sm hD eD
end
end Lw

set_option Elab.async false
set_option linter.all false
set_option maxRecDepth 100000
namespace Lw
open PySem L2
abbrev sLNormal : Stmt := top 32
def spLNormal : Sp := fun vs H Q _ => ∃ (r : Addr) (xs ys : List Int), vs = [.ref r] ∧ RowAt H r xs ys ∧ ys ≠ [] ∧ xs.length ≤ 200 ∧ ys.length ≤ 100 ∧
  ∀ (r' : Addr) (H' : Hp) (xs' ys' : List Int), Same H H' → RowAt H' r' xs' ys' → sq xs' ys' = sq xs ys → ys' ≠ [] → xs'.length ≤ xs.length → ys'.length ≤ ys.length → Q (.ref r') H'
theorem cut_end {xs : List V} {v : V} : cutV (xs ++ [v]) none (some (-1)) = xs := by
  unfold cutV
  rw [HT.sIx_none]
  have e : HT.sIx (xs ++ [v]).length (xs ++ [v]).length (some (-1)) = xs.length := by
    have e2 : HT.sIx (xs ++ [v]).length (xs ++ [v]).length (some (-1)) = ((-1 : Int) + ((xs ++ [v]).length : Int)).toNat := rfl
    rw [e2, List.length_append]
    show ((-1 : Int) + ((xs.length + 1 : Nat) : Int)).toNat = xs.length
    omega
  rw [e]
  simp
section
variable {P : Program} {w : World} {K : PySem.W.Frag} {mg : Str → Option Value} {base : Heap}
abbrev NLN : List Str := ["_law_row_here", "_law_head", "_law_cycle", "_law_sizes", "_law_size"]
theorem scLNormal : FnScope NLN ["_law_row_here"] (defScope sLNormal) := ⟨rfl, rfl, rfl, by decide +kernel, rfl, by decide +kernel, by decide +kernel⟩
theorem repA {H : Hp} {a : Addr} {xs : List V} {n : Nat} {Q : VK} (h : H a = some (.tup xs)) (hx : xs ≠ []) (n1 : 1 ≤ n) (n2 : n ≤ 1000) (hl : xs.length ≤ 1000) (q : ∀ r H', Same H H' → H' r = some (.tup (List.replicate n xs).flatten) → Q (.ref r) H') : rRepA K (.ref a) (.int (n : Int)) H Q := by
  refine ⟨a, (n : Int), xs, rfl, rfl, SqT.of h, hx, by omega, by omega, hl, fun z => q a H (fun _ _ e => e) ?_, fun _ p hp => q p _ (same_upd hp) ?_⟩
  · have : n = 1 := by omega
    rw [h, this]
    simp
  · rw [upd_same, Int.toNat_natCast]
abbrev tLenV (K : PySem.W.Frag) (i : Nat) : TE := tCB (fun xs H Q => ∃ p ys, xs = [.ref p] ∧ (SqL K H p ys ∨ SqT K H p ys) ∧ Q (.int ys.length) H) (tCons (tVar i) tNil)
set_option maxHeartbeats 8000000 in
theorem ok_lnormal {f : Addr} {fd : FuncData} {k : Nat} (F : Fun K "_law_normal" "_law_normal" sLNormal f fd) (T : Bi mg) : FnOk P w K mg base CX0 (k + 1) f fd ["_law_row_here"] spLNormal := by
  refine F.ok scLNormal (fun vs H Q E h => ?_) (fun cdv A outer s H vs Q E hr h => ?_)
  · obtain ⟨r, xs, ys, rfl, _⟩ := h
    rfl
  · obtain ⟨r, xs, ys, rfl, ⟨h, c, hrow, hh, hc⟩, hy, lx, ly, q⟩ := h
    have lp : 0 < ys.length := List.length_pos_iff.mpr hy
    refine ⟨_, pss_cons (ps_asg (pv 0) (pg_tup rfl (pgs_cons (pg_name (i := 1) scLNormal.nd rfl (by first | exact Or.inl rfl | exact Or.inr rfl)) (pgs_cons (pg_name (i := 2) scLNormal.nd rfl (by first | exact Or.inl rfl | exact Or.inr rfl)) pgs_nil))))
      (pss_cons (ps_setLc (i := 3) (own := [("_law_size", 4)]) (g := gName 4) (tt := tTest (tOp (rEqD K) (tVar 2) (tSl (rSlA K) (tOp (rRepA K) (tSl (rSlA K) (tVar 2) tNoPart (tPart (tVar 4))) (tLenV K 2)) tNoPart (tPart (tLenV K 2))))) (te := tVar 4) rfl scLNormal.nd rfl rfl (sw_true rfl rfl rfl (by decide +kernel))
          (pi_range2 (by rfl) T.range (pa_cons pe_int (pa_cons (pe_op op_add (pe_callB call_len_seq (by rfl) T.len PySem.boot_len (pa_cons (pv 2) pa_nil)) pe_int) pa_nil)))
          (blkOk_by (N := NLN) (sc := defScope sLNormal) (by decide +kernel))
          (fun _ _ _ _ _ => by exact pg_name (i := 4) scLNormal.nd rfl (Or.inl rfl))
          (fun _ _ _ _ _ => by exact pts_one (pt_cmpR (op_eqD hr.units) (pv 2) (pe_slice sl_tupA (pe_op op_repA (pe_slice sl_tupA (pv 2) po_none (po_some (pv 4))) (pe_callB call_len_seq (by rfl) T.len PySem.boot_len (pa_cons (pv 2) pa_nil))) po_none (po_some (pe_callB call_len_seq (by rfl) T.len PySem.boot_len (pa_cons (pv 2) pa_nil)))) (nomark _)))
          (fun _ _ _ _ _ => by exact pv 4))
      (pss_cons (ps_set (i := 2) scLNormal.nd rfl (by first | exact Or.inl rfl | exact Or.inr rfl) (pe_slice sl_tupA (pv 2) po_none (po_some (pe_ix ix_list (pe_lc (own := [("_law_size", 4)]) (g := gName 4) (tt := tTest (tOp rEq (tOp (rI (fun _ j => 0 < j) fun i j => .int (i % j)) (tLenV K 2) (tVar 4)) (tC (.int 0)))) (te := tVar 4) rfl scLNormal.nd
          (pi_seqA (pv 3))
          (blkOk_by (N := NLN) (sc := defScope sLNormal) (by decide +kernel))
          (fun _ _ _ _ _ => by exact pg_name (i := 4) scLNormal.nd rfl (Or.inl rfl))
          (fun _ _ _ _ _ => by exact pts_one (pt_cmpR op_eq (pe_op op_mod (pe_callB call_len_seq (by rfl) T.len PySem.boot_len (pa_cons (pv 2) pa_nil)) (pv 4)) pe_int (nomark _)))
          (fun _ _ _ _ _ => by exact pv 4)) pe_int (fun _ _ => rfl)))))
      (pss_cons (ps_while PassesOwn.never (PW.pt (pw_and (pt_cmpR op_gt (pe_callB call_len_seq (by rfl) T.len PySem.boot_len (pa_cons (pv 1) pa_nil)) pe_int (nomark _)) (pw_and1 (pt_cmpR op_eq (pe_ix ix_tup (pv 1) (pe_un un_neg pe_int) (fun _ _ => rfl)) (pe_ix ix_tup (pv 2) (pe_un un_neg pe_int) (fun _ _ => rfl)) (nomark _)))))
        (pss_one (ps_asg (pe_tup (pa_cons (pe_slice sl_tupA (pv 1) po_none (po_some (pe_un un_neg pe_int))) (pa_cons (pe_op op_catA (pe_tup (pa_cons (pe_ix ix_tup (pv 2) (pe_un un_neg pe_int) (fun _ _ => rfl)) pa_nil)) (pe_slice sl_tupA (pv 2) po_none (po_some (pe_un un_neg pe_int)))) pa_nil)))
          (pg_tup rfl (pgs_cons (pg_name (i := 1) scLNormal.nd rfl (by first | exact Or.inl rfl | exact Or.inr rfl)) (pgs_cons (pg_name (i := 2) scLNormal.nd rfl (by first | exact Or.inl rfl | exact Or.inr rfl)) pgs_nil))))))
      (pss_one (ps_ret (pe_tup (pa_cons (pv 1) (pa_cons (pv 2) pa_nil)))))))), ?_⟩
    refine ⟨_, rfl, r, _, rfl, SqT.of hrow, rfl, _, _, rfl, _, _, rfl, rfl, ?_⟩
    -- sizes
    refine ⟨_, rfl, c, _, rfl, .inr (SqT.of hc), _, _, rfl, rfl, ?_⟩
    rw [List.length_map]
    refine ⟨1, (ys.length : Int) + 1, rfl, ⟨by decide, by decide, by omega, by omega⟩, fun D hD => ?_⟩
    refine lc_it (walk_range (lo := 1) (n := ((ys.length : Int) + 1 - 1).toNat)) (fun i H' => ∃ ds : List Nat, Same H H' ∧ H' D = some (.lst ((ds.map fun d : Nat => (d : Int)).map V.int)) ∧ ds.length ≤ i ∧ (∀ d ∈ ds, Sz ys d) ∧ (i = ys.length → ys.length ∈ ds)) ⟨[], same_upd hD, upd_same, Nat.le_refl _, (fun d hd => by cases hd), fun z => by omega⟩ (fun _ _ _ _ => True.intro) ?_ ?_
    · rintro i z H1 H' hi ⟨ds, sm, eD, hl, hs, hm⟩ ⟨rfl, rfl⟩
      have hi : i < ys.length := by omega
      have hd1 : (1 : Int) + (i : Int) = ((1 + i : Nat) : Int) := by omega
      have c' := hc.same sm
      refine ⟨rfl, ?_⟩
      refine ⟨_, rfl, _, rfl, _, rfl, 1 + (i : Int), rfl, slA c' fun t1 H2 s2 e2 => ?_⟩
      have e2' : TI H2 t1 (ys.take (1 + i)) := by
        unfold TI
        rw [e2, hd1, cut_lo' (by rw [List.length_map]; omega), List.map_take]
      have cc2 := c'.same s2
      refine ⟨_, rfl, c, _, rfl, .inr (SqT.of cc2), ?_⟩
      rw [List.length_map]
      refine repA e2' (fun z => ?_) (by omega) (by omega) (by rw [List.length_map, List.length_take]; omega) fun t3 H3 s3 e3 => ?_
      · have := congrArg List.length z
        rw [List.length_map, List.length_take, List.length_nil] at this
        omega
      have e3' : TI H3 t3 (List.replicate ys.length (ys.take (1 + i))).flatten := by
        unfold TI
        rw [e3, List.map_flatten, List.map_replicate]
      have cc3 := cc2.same s3
      refine ⟨_, rfl, c, _, rfl, .inr (SqT.of cc3), _, rfl, slA e3' fun t4 H4 s4 e4 => ?_⟩
      have e4' : TI H4 t4 ((List.replicate ys.length (ys.take (1 + i))).flatten.take ys.length) := by
        unfold TI
        rw [e4, List.length_map, cut_lo', List.map_take]
        rw [List.length_map, rep_len, List.length_take]
        exact Nat.le_mul_of_pos_right _ (by omega)
      have cc4 := cc3.same s4
      have s14 := (s2.trans s3).trans s4
      have eD4 := s14 _ _ eD
      refine ⟨_, _, .tup (SqT.of cc4) (dp_ints _), .tup (SqT.of e4') (dp_ints _), sh_ints _, sh_ints _, _, rfl, ?_⟩
      have ee : PyData.eqv (.tuple (ys.map PyData.int)) (.tuple (((List.replicate ys.length (ys.take (1 + i))).flatten.take ys.length).map PyData.int)) = decide (ys = (List.replicate ys.length (ys.take (1 + i))).flatten.take ys.length) := eqv_ints _ _
      by_cases hg : ys = (List.replicate ys.length (ys.take (1 + i))).flatten.take ys.length
      · refine if_t (by rw [ee]; exact decide_eq_true hg) ⟨_, rfl, _, eD4, ?_, ds ++ [1 + i], ?_, ?_, ?_, ?_, ?_⟩
        · rw [List.length_map, List.length_map]
          exact small1000 (by omega)
        · exact same_at (sm.trans s14) hD
        · rw [upd_same, List.map_append, List.map_append]
          show some (HO.lst (_ ++ [V.int (1 + (i : Int))])) = _
          rw [hd1]
          rfl
        · rw [List.length_append]
          simp
          omega
        · intro d hd
          rcases List.mem_append.mp hd with m | m
          · exact hs d m
          · rw [List.mem_singleton.mp m]
            exact ⟨by omega, by omega, hg⟩
        · intro z
          exact List.mem_append.mpr (.inr (List.mem_singleton.mpr (by omega)))
      · refine if_f (by rw [ee]; exact decide_eq_false hg) ⟨ds, sm.trans s14, eD4, by omega, hs, fun z => ?_⟩
        have := (sz_all hy).2.2
        rw [← z, show i + 1 = 1 + i by omega] at this
        rw [show ys.length = 1 + i by omega] at hg
        exact absurd this hg
    · rintro H1 ⟨ds, sm, eD, hl, hs, hm⟩
      have hm := hm (by omega)
      have c1 := hc.same sm
      -- the first size that divides
      refine ⟨_, rfl, _, rfl, D, _, SqL, rfl, .inl rfl, SqL.of eD, fun J w D2 hD2 => ?_⟩
      refine lc_it w (fun i H' => ∃ es : List Nat, Same H1 H' ∧ H' D2 = some (.lst ((es.map fun d : Nat => (d : Int)).map V.int)) ∧ es.length ≤ i ∧ (∀ d ∈ es, Sz ys d ∧ ys.length % d = 0) ∧ (ys.length ∈ ds.take i → ys.length ∈ es)) ⟨[], same_upd hD2, upd_same, Nat.le_refl _, (fun d hd => by cases hd), fun z => by cases z⟩ (fun i H' _ p => by obtain ⟨_, sm, _⟩ := p; exact SqL.of (sm _ _ eD)) ?_ ?_
      · rintro i x H2 H' hi ⟨es, sm2, eD2, hl2, hs2, hm2⟩ ⟨rfl, gx⟩
        rw [List.getElem?_map, List.getElem?_map] at gx
        obtain ⟨d', hd', rfl⟩ := Option.map_eq_some_iff.mp gx
        obtain ⟨d, hd, rfl⟩ := Option.map_eq_some_iff.mp hd'
        have sz := hs d (List.mem_of_getElem? hd)
        have cc := c1.same sm2
        have hi : i < ds.length := (List.getElem?_eq_some_iff.mp hd).1
        refine ⟨rfl, ?_⟩
        refine ⟨_, rfl, c, _, rfl, .inr (SqT.of cc), _, rfl, _, _, rfl, rfl, (by show (0 : Int) < (d : Int); have := sz.1; omega), rfl, _, rfl, ?_⟩
        rw [dec_int', List.length_map]
        have em : (ys.length : Int) % (d : Int) = ((ys.length % d : Nat) : Int) := rfl
        by_cases hz : ys.length % d = 0
        · refine if_t (decide_eq_true (by rw [em, hz]; rfl)) ⟨_, rfl, _, eD2, ?_, es ++ [d], ?_, ?_, ?_, ?_, ?_⟩
          · rw [List.length_map, List.length_map]
            exact small1000 (by omega)
          · exact same_at sm2 hD2
          · rw [upd_same, List.map_append, List.map_append]
            rfl
          · rw [List.length_append]
            simp
            omega
          · intro d2 h2
            rcases List.mem_append.mp h2 with m | m
            · exact hs2 d2 m
            · rw [List.mem_singleton.mp m]
              exact ⟨sz, hz⟩
          · intro h2
            rw [List.take_add_one, hd] at h2
            rcases List.mem_append.mp h2 with m | m
            · exact List.mem_append.mpr (.inl (hm2 m))
            · exact List.mem_append.mpr (.inr m)
        · refine if_f (decide_eq_false (by rw [em]; omega)) ⟨es, sm2, eD2, by omega, hs2, fun h2 => ?_⟩
          rw [List.take_add_one, hd] at h2
          rcases List.mem_append.mp h2 with m | m
          · exact hm2 m
          · have e := List.mem_singleton.mp m
            rw [← e, Nat.mod_self] at hz
            exact absurd rfl hz
      · rintro H2 ⟨es, sm2, eD2, hl2, hs2, hm2⟩
        have hin : ys.length ∈ es := hm2 (by
          rw [List.length_map, List.length_map, List.take_length]
          exact hm)
        obtain ⟨d, rest, rfl⟩ : ∃ d rest, es = d :: rest := by
          cases es with
          | nil => cases hin
          | cons d rest => exact ⟨d, rest, rfl⟩
        obtain ⟨sz, hz⟩ := hs2 d (List.mem_cons_self ..)
        have cc := c1.same sm2
        have a0 : atI (((d :: rest).map fun d : Nat => (d : Int)).map V.int) 0 = some (.int (d : Int)) := by
          show atI _ ((0 : Nat) : Int) = _
          exact atI_nat rfl
        refine ⟨D2, _, _, _, rfl, rfl, SqL.of eD2, a0, (d : Int), rfl, slA cc fun cy H3 s3 e3 => ?_⟩
        have e3' : TI H3 cy (ys.take d) := by
          unfold TI
          rw [e3, cut_lo' (by rw [List.length_map]; exact sz.2.1), List.map_take]
        have sa := (sm.trans sm2).trans s3
        have dl := sz.2.1
        have d1 := sz.1
        -- the while
        refine ⟨fun m σ H' => ∃ (xs' ys' : List Int) (h' c' : Addr) (v4 : Option V), m = xs'.length ∧ σ = [some (.ref r), some (.ref h'), some (.ref c'), some (.ref D), v4] ∧ Same H H' ∧ TI H' h' xs' ∧ TI H' c' ys' ∧ sq xs' ys' = sq xs ys ∧ ys' ≠ [] ∧ xs'.length ≤ xs.length ∧ ys'.length ≤ ys.length, ⟨xs.length, xs, ys.take d, h, cy, none, rfl, rfl, sa, hh.same sa, e3', sz_sq sz hz, (fun z => ?_), Nat.le_refl _, by rw [List.length_take]; omega⟩, ?_⟩
        · have := congrArg List.length z
          rw [List.length_take, List.length_nil] at this
          omega
        rintro m σ H' ⟨xs', ys', h', c', v4, rfl, rfl, sb, hx, hyy, es, hne, l1, l2⟩
        have fin : tRet (tTup (tCons (tVar 1) (tCons (tVar 2) tNil))) { nx := fun _ H' => Q .non H', rt := Q } [some (.ref r), some (.ref h'), some (.ref c'), some (.ref D), v4] H' := by
          refine ⟨_, rfl, _, rfl, (by show 2 ≤ sizeLine; decide), fun p hp => ?_⟩
          have s4 := same_upd (o := .tup [.ref h', .ref c']) hp
          exact q p _ xs' ys' (sb.trans s4) ⟨h', c', upd_same, hx.same s4, hyy.same s4⟩ es hne l1 (by omega)
        refine ⟨_, rfl, h', _, rfl, .inr (SqT.of hx), _, _, rfl, rfl, _, rfl, ?_⟩
        rw [List.length_map]
        by_cases c0 : 0 < xs'.length
        · obtain ⟨xa, xe, rfl⟩ := last_of c0
          obtain ⟨ya, ye, rfl⟩ := last_of (List.length_pos_iff.mpr hne)
          have ax : atI ((xa ++ [xe]).map V.int) (-1) = some (.int xe) := by
            rw [List.map_append]
            exact atI_last _ _
          have ay : atI ((ya ++ [ye]).map V.int) (-1) = some (.int ye) := by
            rw [List.map_append]
            exact atI_last _ _
          refine if_t (decide_eq_true (by omega)) ⟨_, rfl, 1, rfl, h', _, _, _, rfl, rfl, SqT.of hx, ax, _, rfl, 1, rfl, c', _, _, _, rfl, rfl, SqT.of hyy, ay, rfl, _, rfl, ?_⟩
          rw [dec_int']
          by_cases ce : xe = ye
          · subst ce
            refine if_t (decide_eq_true rfl) ?_
            refine ⟨fun σ' H'' => ∃ (ys'' : List Int) (h'' c'' : Addr) (v4 : Option V), σ' = [some (.ref r), some (.ref h''), some (.ref c''), some (.ref D), v4] ∧ Same H H'' ∧ TI H'' h'' xa ∧ TI H'' c'' (xe :: ya), fun σ' H'' z => ?_, ?_⟩
            · obtain ⟨_, h'', c'', v4', z1, z2, z3, z4⟩ := z
              rw [List.length_append, List.length_singleton] at l1 l2
              refine ⟨xa.length, by rw [List.length_append, List.length_singleton]; omega, xa, xe :: ya, h'', c'', v4', rfl, z1, z2, z3, z4, (sq_shift _ _ _).trans es, (fun z => by cases z), by omega, ?_⟩
              rw [List.length_cons]
              exact l2
            · refine ⟨_, rfl, 1, rfl, -1, rfl, slA hx fun t1 H4 s4 e4 => ?_⟩
              have e4' : TI H4 t1 xa := by
                unfold TI
                rw [e4, List.map_append]
                exact congrArg (fun l => some (HO.tup l)) cut_end
              have c4 := hyy.same s4
              refine ⟨_, rfl, 1, rfl, c', _, _, _, rfl, rfl, SqT.of c4, ay, (by show 1 ≤ sizeLine; decide), fun t2 ht2 => ?_⟩
              have s5 := same_upd (o := .tup [.int xe]) ht2
              have e5 : upd H4 t2 (.tup [.int xe]) t2 = some (.tup [.int xe]) := upd_same
              generalize upd H4 t2 (.tup [.int xe]) = H5 at *
              refine ⟨_, rfl, 1, rfl, -1, rfl, slA (c4.same s5) fun t3 H6 s6 e6 => ?_⟩
              have e6' : H6 t3 = some (.tup (ya.map V.int)) := by
                rw [e6, List.map_append]
                exact congrArg (fun l => some (HO.tup l)) cut_end
              refine catA (s6 _ _ e5) e6' (by rw [List.length_append] at l2; simp; omega) fun t4 H7 s7 e7 => ?_
              refine ⟨(by show 2 ≤ sizeLine; decide), fun tp htp => ?_⟩
              have s8 := same_upd (o := .tup [.ref t1, .ref t4]) htp
              have s48 := ((s5.trans s6).trans s7).trans s8
              refine ⟨tp, _, rfl, SqT.of upd_same, rfl, _, _, rfl, _, _, rfl, rfl, [], t1, t4, v4, rfl, sb.trans (s4.trans s48), e4'.same s48, ?_⟩
              exact s8 _ _ e7
          · exact if_f (decide_eq_false ce) fin
        · exact if_f (decide_eq_false (by omega)) (iteF fin)
end
end Lw

set_option Elab.async false
set_option linter.all false
set_option maxRecDepth 100000
namespace Lw
open PySem L2
abbrev sLRow : Stmt := top 35
def spLRow : Sp := fun vs H Q _ => ∃ (b l : Addr) (ns : List Int) (p q : Addr) (n : Int) (ts : Es), vs = [.ref b, .ref p] ∧ BagAt H b l ns ∧ PlanAt H p q n ts ∧ ts.length ≤ 24 ∧
  ∀ (r : Addr) (H' : Hp) (xs ys : List Int), KeepB b H H' → BagAt H' b l ns → RowAt H' r xs ys → RowOf (psOf ts) (sq xs ys) → ys ≠ [] → xs.length ≤ 100 → ys.length ≤ 100 → Q (.ref r) H'
theorem inV_no {k : Int} {ks : List Int} (h : k ∉ ks) : inV (.int k) (ks.map V.int) = false := by
  cases e : inV (.int k) (ks.map V.int) with
  | false => rfl
  | true =>
    unfold inV at e
    obtain ⟨x, hx, hxe⟩ := List.any_eq_true.mp e
    obtain ⟨z, hz, rfl⟩ := List.mem_map.mp hx
    refine absurd ?_ h
    have : z = k ∨ k = z := by
      first
        | exact .inl (by simpa [eqV] using hxe)
        | exact .inr (by simpa [eqV] using hxe)
    rcases this with rfl | rfl <;> exact hz
theorem flat_all (ks : List Int) : (ks.map V.int).all flatV = true := by
  rw [List.all_eq_true]
  intro x hx
  obtain ⟨z, _, rfl⟩ := List.mem_map.mp hx
  rfl
/-- a chosen edge -/
theorem sel_mem {E : List (Int × Int)} {e z : Int} {m : Nat} (hm : m = E.length) (h : z ∈ sel (folB E e) E m) : Inr E z ∧ (prt E z).1 = (prt E e).2 := by
  unfold sel at h
  obtain ⟨j, hj, rfl⟩ := List.mem_map.mp h
  obtain ⟨h1, h2⟩ := List.mem_filter.mp hj
  have hlt : j < E.length := by
    rw [← hm]
    exact List.mem_range.mp h1
  rw [List.getElem?_eq_getElem hlt] at h2
  have h3 : folB E e E[j] = true := h2
  refine ⟨⟨by omega, by omega⟩, ?_⟩
  have ep : prt E (j : Int) = E[j] := by
    unfold prt
    simp [List.getD, hlt]
  rw [ep]
  exact of_decide_eq_true h3
theorem sel_some {n : Int} {ts : Es} {e : Int} (va : Valid n ts) (he : Inr (psOf ts) e) : sel (folB (psOf ts) e) (psOf ts) ts.length ≠ [] := by
  obtain ⟨x, hx, hx2⟩ := prt_at he
  have rg := va.rg x (List.mem_of_getElem? hx)
  obtain ⟨y, hy, hy2⟩ := va.sr x.2.2 rg.2.2.1 rg.2.2.2
  obtain ⟨j, hj⟩ := List.getElem?_of_mem hy
  have hlt : j < ts.length := (List.getElem?_eq_some_iff.mp hj).1
  intro z
  have : (j : Int) ∈ sel (folB (psOf ts) e) (psOf ts) ts.length := by
    unfold sel
    refine List.mem_map.mpr ⟨j, List.mem_filter.mpr ⟨List.mem_range.mpr hlt, ?_⟩, rfl⟩
    rw [psOf_at hj]
    show decide (y.2.1 = (prt (psOf ts) e).2) = true
    rw [← hx2]
    exact decide_eq_true hy2
  rw [z] at this
  cases this
section
variable {P : Program} {w : World} {K : PySem.W.Frag} {mg : Str → Option Value} {base : Heap}
theorem scLRow : FnScope ["_law_bag_here", "_law_plan_here", "_law_here", "_law_path", "_law_most", "_law_turn", "_law_at"] ["_law_bag_here", "_law_plan_here"] (defScope sLRow) := ⟨rfl, rfl, rfl, by decide +kernel, rfl, by decide +kernel, by decide +kernel⟩
set_option maxHeartbeats 8000000 in
theorem ok_lrow {f : Addr} {fd : FuncData} {k : Nat} (F : Fun K "_law_row" "_law_row" sLRow f fd) (T : Bi mg) (cP : C8.Cal P w K mg base 1 "_law_pull" spPull []) (cO : C8.Cal P w K mg base 2 "_law_of" (spOf K) []) (cA : C8.Cal P w K mg base 1 "_law_after" spAfter []) (cN : C8.Cal P w K mg base 1 "_law_normal" spLNormal []) : FnOk P w K mg base CX0 (k + 3) f fd ["_law_bag_here", "_law_plan_here"] spLRow := by
  refine F.ok scLRow (fun vs H Q E h => ?_) (fun cdv A outer s H vs Q E hr h => ?_)
  · obtain ⟨b, l, ns, p, q0, n, ts, rfl, _⟩ := h
    rfl
  · obtain ⟨b, l, ns, p, q0, n, ts, rfl, B, PA, hl, q⟩ := h
    refine ⟨_, pss_cons (ps_par (i := 2) (j := 3) (by rfl) scLRow.nd rfl rfl (by decide) rfl rfl (pa_cons (C8.pe_c cP hr (by omega) (by rfl) (pa_cons (pv 0) (pa_cons (pe_callB call_len_seq (by rfl) T.len PySem.boot_len (pa_cons (pe_ix ix_tup (pv 1) pe_int (fun _ _ => rfl)) pa_nil)) pa_nil))) (pa_cons (pe_lst pa_nil) pa_nil)) (by rfl))
      (pss_cons (ps_set (i := 4) scLRow.nd rfl (.inl rfl) (C8.pe_c cP hr (by omega) (by rfl) (pa_cons (pv 0) (pa_cons pe_int pa_nil))))
      (pss_cons (ps_for PassesOwn.never rfl (pi_range1 (by rfl) T.range (pa_cons pe_int pa_nil)) (pg_name (i := 5) scLRow.nd rfl (.inl rfl))
        (C8.pss_cut (ps_if (PW.pt (pw_and (pt_cmpR op_ge (pe_callB call_len_seq (by rfl) T.len PySem.boot_len (pa_cons (pv 3) pa_nil)) (pv 4) (nomark _)) (pw_and1 (pt_cmpR op_in_seq (pv 2) (pv 3) (by rfl)))))
            (pss_cons (ps_set (i := 6) scLRow.nd rfl (.inl rfl) (pe_bm PySem.F.plainAttrs_list PySem.F.slot_list_index PySem.F.type_list_index mt_index (pv 3) (pa_cons (pv 2) pa_nil)))
            (pss_one (ps_ret (C8.pe_c cN hr (by omega) (by rfl) (pa_cons (pe_tup (pa_cons (pe_callTy call_tuple_of (by rfl) T.tuple (by decide +kernel) (pa_cons (pe_slice sl_list (pv 3) po_none (po_some (pv 6))) pa_nil)) (pa_cons (pe_callTy call_tuple_of (by rfl) T.tuple (by decide +kernel) (pa_cons (pe_slice sl_list (pv 3) (po_some (pv 6)) po_none) pa_nil)) pa_nil))) pa_nil))))) pss_nil)
        (pss_cons (ps_set (i := 3) scLRow.nd rfl (.inl rfl) (pe_op op_cat (pv 3) (pe_lst (pa_cons (pv 2) pa_nil))))
        (pss_one (ps_set (i := 2) scLRow.nd rfl (.inl rfl) (C8.pe_c cO hr (by omega) (by rfl) (pa_cons (pv 0) (pa_cons (C8.pe_c cA hr (by omega) (by rfl) (pa_cons (pv 1) (pa_cons (pv 2) pa_nil))) pa_nil))))))))
      (pss_one ps_never))), ?_⟩
    have tp : 0 < ts.length := by
      have n1 := PA.n1
      obtain ⟨e, he, _⟩ := PA.va.sr 0 (by omega) (by omega)
      exact List.length_pos_of_mem he
    refine ⟨_, rfl, _, rfl, p, _, _, _, rfl, rfl, SqT.of PA.tp, rfl, q0, _, rfl, .inl (SqL.of PA.ls), b, l, ns, _, rfl, B, by rw [vsOf_len]; omega, by rw [vsOf_len]; omega, fun v o v0 v1 BO => ?_⟩
    rw [vsOf_len] at v1
    have k1 : KeepB b H (upd H b o) := .updb
    have B1 := B.upd BO
    have PA1 := PA.keep B k1
    generalize upd H b o = H1 at *
    refine ⟨(by show 0 ≤ sizeLine; exact Nat.zero_le _), fun a ha => ⟨_, _, rfl, ?_⟩⟩
    have s2 := same_upd (o := .lst []) ha
    have ea : upd H1 a (.lst []) a = some (.lst []) := upd_same
    have B2 := B1.same s2
    have PA2 := PA1.same s2
    have k2 := k1.trans (.of_same s2)
    generalize upd H1 a (.lst []) = H2 at *
    refine ⟨_, rfl, b, l, ns, 4, rfl, B2, by decide, by decide, fun mo o2 m0 m1 BO2 => ?_⟩
    have k3 := k2.trans (.updb (o := o2))
    have ab : a ≠ b := B1.ne_new ha
    have ea : upd H2 b o2 a = some (.lst []) := by
      rw [upd_ne ab]
      exact ea
    have PA3 := PA2.keep B2 (.updb (o := o2))
    have B3 := B2.upd BO2
    generalize upd H2 b o2 = H3 at *
    refine ⟨40, rfl, by decide, by decide, ?_⟩
    refine for_it (walk_range (lo := 0) (n := (40 : Int).toNat)) (fun i σ H' => ∃ (e : Int) (pa : Addr) (ps : List Int) (v5 v6 : Option V), σ = [some (.ref b), some (.ref p), some (.int e), some (.ref pa), some (.int mo), v5, v6] ∧ KeepB b H H' ∧ BagAt H' b l ns ∧ PlanAt H' p q0 n ts ∧ pa ≠ b ∧ H' pa = some (.lst (ps.map V.int)) ∧ ps.length = i ∧ Drawn (psOf ts) ps e mo.toNat)
      ⟨v, a, [], none, none, rfl, k3, B3, PA3, ab, ea, rfl, ⟨⟨v0, by rw [ps_len]; exact v1⟩, (fun j hj => by cases hj), fun j k _ hk => by cases hk⟩⟩ (fun _ _ _ _ _ => True.intro) ?_ ?_
    · rintro i x σ H4 H' hi ⟨e, pa, ps, v5, v6, rfl, kk, B4, PA4, pb, ep, hln, dr⟩ ⟨rfl, rfl⟩
      have hi40 : i < 40 := hi
      refine ⟨fun σ H'' => σ = [some (.ref b), some (.ref p), some (.int e), some (.ref pa), some (.int mo), some (.int (0 + (i : Int))), v6] ∧ H'' = H' ∧ (mo.toNat ≤ ps.length → e ∉ ps), ?_, ?_⟩
      · refine ⟨_, rfl, pa, _, rfl, .inl (SqL.of ep), _, rfl, _, _, rfl, rfl, _, rfl, ?_⟩
        rw [List.length_map]
        by_cases c0 : mo ≤ (ps.length : Int)
        · refine if_t (decide_eq_true c0) ⟨_, rfl, _, rfl, pa, _, rfl, .inl (SqL.of ep), rfl, flat_all ps, _, rfl, ?_⟩
          by_cases c1 : e ∈ ps
          · refine if_t (inV_yes c1) ?_
            obtain ⟨j, hj, hje, hjm⟩ := first_ix c1
            have gj : (ps.map V.int)[j]? = some (.int e) := by
              rw [List.getElem?_map, List.getElem?_eq_getElem hj, ← hje]
              simp [List.getD, hj]
            refine ⟨_, rfl, .inl ⟨rfl, _, SqL.of ep⟩, _, rfl, pa, _, _, j, _, rfl, rfl, SqL.of ep, rfl, flat_all ps, gj, beq_self_eq_true e, fun m z hm hz => ?_, ?_⟩
            · have ez := ints_at hz
              rw [ez]
              exact beq_eq_false_iff_ne.mpr (hjm m hm)
            refine ⟨_, rfl, _, rfl, (j : Int), rfl, pa, _, rfl, SqL.of ep, fun t1 h1 => ?_⟩
            rw [cut_lo' (by rw [List.length_map]; omega), ← List.map_take]
            have s1 := same_upd (o := .lst ((ps.take j).map V.int)) h1
            have e1 : upd H' t1 (.lst ((ps.take j).map V.int)) t1 = some (.lst ((ps.take j).map V.int)) := upd_same
            generalize upd H' t1 (.lst ((ps.take j).map V.int)) = G1 at *
            refine ⟨t1, _, rfl, .inl ⟨SqL.of e1, fun t2 h2 => ?_⟩⟩
            have s2 := same_upd (o := .tup ((ps.take j).map V.int)) h2
            have e2 : upd G1 t2 (.tup ((ps.take j).map V.int)) t2 = some (.tup ((ps.take j).map V.int)) := upd_same
            generalize upd G1 t2 (.tup ((ps.take j).map V.int)) = G2 at *
            have s12 := s1.trans s2
            refine ⟨_, rfl, _, rfl, (j : Int), rfl, pa, _, rfl, SqL.of (s12 _ _ ep), fun t3 h3 => ?_⟩
            rw [cut_hi' (by rw [List.length_map]; omega), ← List.map_drop]
            have s3 := same_upd (o := .lst ((ps.drop j).map V.int)) h3
            have e3 : upd G2 t3 (.lst ((ps.drop j).map V.int)) t3 = some (.lst ((ps.drop j).map V.int)) := upd_same
            generalize upd G2 t3 (.lst ((ps.drop j).map V.int)) = G3 at *
            refine ⟨t3, _, rfl, .inl ⟨SqL.of e3, fun t4 h4 => ?_⟩⟩
            have s4 := same_upd (o := .tup ((ps.drop j).map V.int)) h4
            have e4 : upd G3 t4 (.tup ((ps.drop j).map V.int)) t4 = some (.tup ((ps.drop j).map V.int)) := upd_same
            generalize upd G3 t4 (.tup ((ps.drop j).map V.int)) = G4 at *
            refine ⟨(by show 2 ≤ sizeLine; decide), fun t5 h5 => ?_⟩
            have s5 := same_upd (o := .tup [.ref t2, .ref t4]) h5
            have e5 : upd G4 t5 (.tup [.ref t2, .ref t4]) t5 = some (.tup [.ref t2, .ref t4]) := upd_same
            generalize upd G4 t5 (.tup [.ref t2, .ref t4]) = G5 at *
            have s15 := ((s12.trans s3).trans s4).trans s5
            refine ⟨t5, ps.take j, ps.drop j, rfl, ⟨t2, t4, e5, s5 _ _ (s4 _ _ (s3 _ _ e2)), s5 _ _ e4⟩, (fun z => ?_), by rw [List.length_take]; omega, by rw [List.length_drop]; omega, fun r' G6 xs' ys' s6 ra es ne l1 l2 => ?_⟩
            · have := congrArg List.length z
              rw [List.length_drop, List.length_nil] at this
              omega
            refine q r' G6 xs' ys' (kk.trans (.of_same (s15.trans s6))) (B4.same (s15.trans s6)) ra ?_ ne (by rw [List.length_take] at l1; omega) (by rw [List.length_drop] at l2; omega)
            rw [es]
            exact dr.row hj hje
          · exact if_f (inV_no c1) ⟨rfl, rfl, fun _ => c1⟩
        · refine if_f (decide_eq_false c0) (iteF ⟨rfl, rfl, fun z => by omega⟩)
      · rintro σ H5 ⟨rfl, rfl, hn⟩
        refine ⟨_, rfl, _, rfl, (by show 1 ≤ sizeLine; decide), fun t1 h1 => ?_⟩
        have s1 := same_upd (o := .lst [.int e]) h1
        have e1 : upd H5 t1 (.lst [.int e]) t1 = some (.lst [.int e]) := upd_same
        generalize upd H5 t1 (.lst [.int e]) = G1 at *
        refine ⟨pa, t1, _, _, rfl, rfl, s1 _ _ ep, e1, ?_, fun t2 h2 => ?_⟩
        · rw [List.length_map]
          exact Nat.le_of_lt (small1000 (by show ps.length + 1 ≤ 1000; omega))
        have s2 := same_upd (o := .lst (ps.map V.int ++ [.int e])) h2
        have e2 : upd G1 t2 (.lst (ps.map V.int ++ [.int e])) t2 = some (.lst (ps.map V.int ++ [.int e])) := upd_same
        generalize upd G1 t2 (.lst (ps.map V.int ++ [.int e])) = G2 at *
        have s12 := s1.trans s2
        have n2 : t2 ≠ b := (B4.same s1).ne_new h2
        refine ⟨_, rfl, _, rfl, _, rfl, p, q0, n, ts, e, rfl, PA4.same s12, dr.inr, by omega, fun D G3 s3 hD eD => ?_⟩
        have B6 := (B4.same s12).same s3
        refine ⟨b, l, D, ns, _, rfl, B6, SqL.of eD, (B4.same s12).ne_new hD, (fun z => sel_some PA4.va dr.inr (List.map_eq_nil_iff.mp z)), ?_, fun j v o hj BO => ?_⟩
        · rw [List.length_map]
          exact Nat.le_trans (sel_len _ _ _) (by omega)
        have ev := ints_at hj
        rw [List.getElem?_map] at hj
        obtain ⟨z, hz, rfl⟩ := Option.map_eq_some_iff.mp hj
        obtain ⟨z1, z2⟩ := sel_mem (ps_len ts).symm (List.mem_of_getElem? hz)
        have kb : KeepB b G3 (upd G3 b o) := .updb
        have s13 := s12.trans s3
        refine ⟨z, t2, ps ++ [e], _, _, rfl, (kk.trans (.of_same s13)).trans kb, B6.upd BO, (PA4.same s13).keep B6 kb, n2, ?_, by rw [List.length_append, hln]; rfl, dr.next z1 z2 hn⟩
        rw [upd_ne n2, s3 _ _ e2, List.map_append]
        rfl
    · rintro σ H4 ⟨e, pa, ps, v5, v6, rfl, kk, B4, PA4, pb, ep, hln, dr⟩
      have := dr.short (by omega) (by rw [ps_len]; exact hl)
      have h40 : ps.length = 40 := hln
      omega
end
end Lw

set_option Elab.async false
set_option linter.all false
set_option maxRecDepth 100000
/-! what the law of rows without first edges needs beside the defs -/
namespace Lw
open PySem L2
section
variable {K : PySem.W.Frag} {f : Addr} {fd : FuncData}
theorem drop_kb (F : FunD K "drop" "drop" (defArgs sDrop) (defBody sDrop) (defScope sDrop) [] [("count", .int 1)] f fd) : KBn K fd ["row", "count"] 1 ["count"] (fun us ws => us ++ ws) (fun vs zs => vs ++ zs) := by
  obtain ⟨mv, h⟩ := F.kbinds0 (ps := ["row", "count"]) 1 ["count"] [] (fun us mv ws => us ++ ws) (by simp) (fun q hq => by cases hq) (fun r1 _ r3 => r1.append r3) (fun D doc pm an cdv ct us mv ws h1 h2 h3 => match us, mv, ws, h1, h2, h3 with | [_], [], [_], _, _, _ => rfl)
  exact h
theorem drop_b (F : FunD K "drop" "drop" (defArgs sDrop) (defBody sDrop) (defScope sDrop) [] [("count", .int 1)] f fd) : ∃ ds, Vals [.int 1] ds ∧ Binds K fd ["row", "count"] ds :=
  F.binds0 1 (by simp) rfl (fun D doc pm an cdv ct us ks h1 h2 => match us, ks, h1, h2 with | [_], [_], _, _ => ⟨_, _, _, _, _, _, rfl, rfl, rfl⟩)
end
theorem takes0N {X : Cx} : L2N.Takes X (fun _ _ _ _ => False) := fun _ _ x => by
  obtain ⟨_, _, _, _, _, _, _, _, _, _, _, _, _, _, _, _, z⟩ := x
  exact z.elim
theorem passN0 {X : Cx} : Passes (L2N.CX X.prog X.w) X E0 := fun pins σ H s e s' I c => L2N.passes_call takes0N (fun _ _ _ _ h => h) pins σ H s e s' I c
/-! ### rows -/
theorem per_dr {s : Nat → Int} {m p c : Nat} (h : Per s m p) : Per (dr s c) m p := fun i hi => by
  have := h (c + i) (by omega)
  show s (c + i) = s (c + (i + p))
  rw [this, Nat.add_assoc]
theorem row_dr {E : List (Int × Int)} {s : Nat → Int} {c : Nat} (h : RowOf E s) : RowOf E (dr s c) := fun i => h (c + i)
theorem dr_dr (s : Nat → Int) (c d : Nat) : dr (dr s c) d = dr s (c + d) := funext fun i => by
  show s (c + (d + i)) = s (c + d + i)
  rw [Nat.add_assoc]
theorem nf_small {xs ys : List Int} {c m p : Nat} (hy : ys ≠ []) (h : IsNF (dr (sq xs ys) c) m p) : m ≤ xs.length ∧ p ≤ ys.length := by
  have hn := len_pos' hy
  have q := per_dr (c := c) (sq_per xs ys hy)
  exact ⟨h.minm _ (q.back hn h.per), h.minp _ _ hn q⟩
/-- a normal form is its own -/
theorem nf_same {s : Nat → Int} {m p : Nat} {xs ys : List Int} (h : IsNF s m p) (hy : ys ≠ []) (e : sq xs ys = s) (lx : xs.length ≤ m) (ly : ys.length ≤ p) : xs = seg s 0 m ∧ ys = seg s m p := by
  have hn := len_pos' hy
  have q := sq_per xs ys hy
  rw [e] at q
  have e1 : ys.length = p := Nat.le_antisymm ly (h.minp _ _ hn q)
  rw [e1] at q
  have e2 : xs.length = m := Nat.le_antisymm lx (h.minm _ q)
  constructor
  · refine list_ext (by rw [seg_len, e2]) fun t ht => ?_
    rw [seg_get _ _ _ _ (by omega), ← e, Nat.zero_add]
    unfold sq
    rw [if_pos ht]
  · refine list_ext (by rw [seg_len, e1]) fun t ht => ?_
    rw [seg_get _ _ _ _ (by omega), ← e, ← e2, sq_tail, Nat.mod_eq_of_lt ht]
theorem cyc_seg {ys : List Int} (hy : ys ≠ []) : seg (sq [] ys) 0 ys.length = ys := by
  refine list_ext (seg_len _ _ _) fun t ht => ?_
  rw [seg_len] at ht
  rw [seg_get _ _ _ _ ht]
  have := sq_tail (xs := []) (ys := ys) t
  rw [Nat.mod_eq_of_lt ht] at this
  exact this
theorem other_sq {xs ys : List Int} (hy : ys ≠ []) : sq (xs ++ ys) (ys ++ ys) = sq xs ys := by
  have := sq_unr (xs := xs) (ys := ys) (more := ys.length) (k := 2) hy (by decide)
  rw [cyc_seg hy, Nat.mod_self, rot_zero] at this
  simpa using this
theorem sq_found {s : Nat → Int} {m p : Nat} (h : IsNF s m p) : sq (seg s 0 m) (seg s m p) = s := sq_seg h.p1 h.per
theorem seg_ne {s : Nat → Int} {m p : Nat} (h : 1 ≤ p) : seg s m p ≠ [] := fun z => by
  have := congrArg List.length z
  rw [seg_len] at this
  have h0 : ([] : List Int).length = 0 := rfl
  omega
theorem nf_012 : IsNF (dr (sq [0, 1] [2]) 0) 2 1 := by
  have e : dr (sq [0, 1] [2]) 0 = sq [0, 1] [2] := funext fun i => by
    show sq [0, 1] [2] (0 + i) = _
    rw [Nat.zero_add]
  rw [e]
  refine ⟨Nat.le_refl _, sq_per _ _ (by simp), fun _ _ h _ => h, fun m' q => Nat.le_of_not_lt fun h => ?_⟩
  have := q 1 (by omega)
  have z : (1 : Int) = 2 := this
  omega
/-! ### data -/
abbrev rowD (xs ys : List Int) : PyData := .tuple [.tuple (xs.map PyData.int), .tuple (ys.map PyData.int)]
theorem dp_row {K : PySem.W.Frag} {H : Hp} {r : Addr} {xs ys : List Int} (h : RowAt H r xs ys) : Dp K H (.ref r) (rowD xs ys) := by
  obtain ⟨a, c, h1, h2, h3⟩ := h
  exact .tup (SqT.of h1) (.cons (.tup (SqT.of h2) (dp_ints _)) (.cons (.tup (SqT.of h3) (dp_ints _)) .nil))
theorem sh_row (xs ys : List Int) : SeqAt.shaped (rowD xs ys) = true := by
  show (((PyData.canLayAll0 (xs.map PyData.int)) && ((PyData.canLayAll0 (ys.map PyData.int)) && true)) && decide (max (PyData.depthAll (xs.map PyData.int) + 1) (max (PyData.depthAll (ys.map PyData.int) + 1) 0) + 1 ≤ 64)) = true
  rw [lay_ints, lay_ints, dep_ints, dep_ints]
  rfl
theorem eq_row (xs ys : List Int) : PyData.eqv (rowD xs ys) (rowD xs ys) = true := by
  show (PyData.eqvAll (xs.map PyData.int) (xs.map PyData.int) && (PyData.eqvAll (ys.map PyData.int) (ys.map PyData.int) && true)) = true
  rw [eqv_ints, eqv_ints, decide_eq_true rfl, decide_eq_true rfl]
  rfl
theorem sh_lst (xs : List Int) : SeqAt.shaped (.list (xs.map PyData.int)) = true := by
  show (PyData.canLayAll0 (xs.map PyData.int) && decide (PyData.depthAll (xs.map PyData.int) + 1 ≤ 64)) = true
  rw [lay_ints, dep_ints]
  rfl
theorem eq_lst (xs : List Int) : PyData.eqv (.list (xs.map PyData.int)) (.list (xs.map PyData.int)) = true := by
  show PyData.eqvAll (xs.map PyData.int) (xs.map PyData.int) = true
  rw [eqv_ints, decide_eq_true rfl]
theorem eq_tup (xs : List Int) : PyData.eqv (.tuple (xs.map PyData.int)) (.tuple (xs.map PyData.int)) = true := by
  show PyData.eqvAll (xs.map PyData.int) (xs.map PyData.int) = true
  rw [eqv_ints, decide_eq_true rfl]
abbrev toldD (wd : Str) (n : Int) : PyData := .tuple [.str wd, .int n]
theorem sh_told (a b c : Int) : SeqAt.shaped (.list [toldD "invalidcount" a, toldD "outofrange" b, toldD "invalidrow" c]) = true := by
  have e : SeqAt.shaped (.list [toldD "invalidcount" a, toldD "outofrange" b, toldD "invalidrow" c]) = SeqAt.shaped (.list [toldD "invalidcount" 0, toldD "outofrange" 0, toldD "invalidrow" 0]) := rfl
  rw [e]
  decide +kernel
theorem eq_told (w1 w2 w3 : Str) (a b c : Int) : PyData.eqv (.list [toldD w1 a, toldD w2 b, toldD w3 c]) (.list [toldD w1 a, toldD w2 b, toldD w3 c]) = true := by
  show ((w1 == w1) && ((a == a) && true) && (((w2 == w2) && ((b == b) && true)) && (((w3 == w3) && ((c == c) && true)) && true))) = true
  simp
theorem lk_tup {H : Hp} {a b : Addr} {xs : List Int} {k : Nat} (h1 : TI H a xs) (h2 : TI H b xs) (hl : xs.length ≤ 1000) : Lk H (k + 2) (.ref a) (.ref b) := by
  refine .inr (.inr ⟨a, b, _, _, rfl, rfl, h1, h2, rfl, by rw [List.length_map]; exact hl, fun i u v hu hv => ?_⟩)
  rw [hu] at hv
  cases hv
  rw [List.getElem?_map] at hu
  obtain ⟨z, _, rfl⟩ := Option.map_eq_some_iff.mp hu
  exact .inl ⟨rfl, rfl⟩
theorem lk_row {H : Hp} {a b : Addr} {xs ys : List Int} {k : Nat} (h1 : RowAt H a xs ys) (h2 : RowAt H b xs ys) (hl : xs.length ≤ 1000) (hl2 : ys.length ≤ 1000) : Lk H (k + 3) (.ref a) (.ref b) := by
  obtain ⟨p1, q1, e1, f1, g1⟩ := h1
  obtain ⟨p2, q2, e2, f2, g2⟩ := h2
  refine .inr (.inr ⟨a, b, _, _, rfl, rfl, e1, e2, rfl, (by show 2 ≤ 1000; decide), fun i u v hu hv => ?_⟩)
  match i, hu, hv with
  | 0, hu, hv =>
    cases hu
    cases hv
    exact lk_tup f1 f2 hl
  | 1, hu, hv =>
    cases hu
    cases hv
    exact lk_tup g1 g2 hl2
/-! ### what the lambdas give -/
section
variable {T : List (Addr × Str)} {Er : Addr → Str → Str → Prop} {C CR CO CC : Addr} {σ : L2.St} {H : Hp} {Q : VK}
theorem toldT {CE : Addr} {fld wd : Str} {k : Int} {H1 : Hp} {d : Addr} (ok : Er CE fld wd) (tb : LamX.Tabs T H) (s1 : Same H H1) (hd : H1 d = none) (rest : ∀ p H2, LamX.ExtN H H2 → LamX.Tabs T H2 → H2 p = some (.tup [.str wd, .int k]) → Q (.ref p) H2) :
    ∃ (C dd : Addr) (fld' wd' : Str) (n : Int), Er C fld' wd' ∧ (Value.ref CE) = .ref C ∧ (some d) = some dd ∧ upd H1 d (.xd (erF fld wd k)) dd = some (.xd (erF fld' wd' n)) ∧ LamX.Tabs T (upd H1 d (.xd (erF fld wd k))) ∧
      ∀ H2 p, LamX.ExtN (upd H1 d (.xd (erF fld wd k))) H2 → LamX.Tabs T H2 → H2 p = some (.tup [.str wd', .int n]) → Q (.ref p) H2 :=
  ⟨CE, d, fld, wd, k, ok, rfl, rfl, upd_same, (tb.ext s1).ext (same_upd hd), fun H2 p x2 t2 e2 => rest p H2 ((LamX.ExtN.of (s1.trans (same_upd hd))).trans x2) t2 e2⟩
theorem tried_drop {P1 P2 : Hp → Prop} {r : Addr} {xs ys : List Int} {c : Int} (ok : Er CC "count" "invalidcount") (tb : LamX.Tabs T H) (hP : P1 H) (hP2 : P2 H) (h0 : σ[0]? = some (some (.ref r))) (h1 : σ[1]? = some (some (.int c))) (RA : RowAt H r xs ys) (hy : ys ≠ []) (lx : xs.length ≤ 400) (ly : ys.length ≤ 400) (hc : c.natAbs < 10 ^ 100) (neg : c < 0)
    (rest : ∀ p H2, LamX.ExtN H H2 → LamX.Tabs T H2 → H2 p = some (.tup [.str "invalidcount", .int c]) → Q (.ref p) H2) :
    TriedT T Er (fun E G Q' => P1 G ∧ P2 G ∧ tCallN 1 1 (spDrop CC) (fun vs zs => vs ++ zs) E (tCons (tVar 0) tNil) (tCons (tVar 1) tNil) σ G Q') H Q := by
  refine ⟨hP, hP2, _, h0, _, h1, rfl, rfl, r, xs, ys, c, rfl, RA, hy, lx, ly, hc, fun _ => fun H1 d s1 hd => toldT ok tb s1 hd rest, fun z => absurd neg (by omega)⟩
theorem tried_st {P1 P2 : Hp → Prop} {g r : Addr} {n : Int} {us : Es} {xs ys : List Int} {c : Int} (ok : Er CO "number" "outofrange") (tb : LamX.Tabs T H) (hP : P1 H) (hP2 : P2 H) (h1 : σ[1]? = some (some (.ref g))) (h2 : σ[2]? = some (some (.ref r))) (h3 : σ[3]? = some (some (.int c))) (GA : GraphAt C H g n us) (RA : RowAt H r xs ys) (hy : ys ≠ []) (lx : xs.length ≤ 300) (ly : ys.length ≤ 300) (hc : c.natAbs < 10 ^ 100) (neg : c < 0) (ro : RowOf (psOf us) (sq xs ys))
    (rest : ∀ p H2, LamX.ExtN H H2 → LamX.Tabs T H2 → H2 p = some (.tup [.str "outofrange", .int c]) → Q (.ref p) H2) :
    TriedT T Er (fun E G Q' => P1 G ∧ P2 G ∧ tCall (spSt C CR CO) [] E (tCons (tVar 1) (tCons (tVar 2) (tCons (tVar 3) tNil))) σ G Q') H Q := by
  refine ⟨hP, hP2, _, h1, _, h2, _, h3, g, n, us, r, xs, ys, c, rfl, GA, RA, lx, ly, hc, fun z => absurd z hy, fun _ => ⟨ro, fun _ => fun H1 d s1 hd => toldT ok tb s1 hd rest, fun z => absurd neg (by omega)⟩⟩
theorem tried_st0 {K : PySem.W.Frag} {P1 P2 : Hp → Prop} {g r : Addr} {n : Int} {us : Es} {xs ys : List Int} {c : Int} (ok : Er CR "place" "invalidrow") (tb : LamX.Tabs T H) (hP : P1 H) (hP2 : P2 H) (h0 : σ[0]? = some (some (.ref g))) (h1 : σ[1]? = some (some (.ref r))) (h2 : σ[2]? = some (some (.int c))) (GA : GraphAt C H g n us) (RA : RowAt H r xs ys) (lx : xs.length ≤ 300) (hc : c.natAbs < 10 ^ 100)
    (rest : ∀ p H2, LamX.ExtN H H2 → LamX.Tabs T H2 → H2 p = some (.tup [.str "invalidrow", .int (-1)]) → Q (.ref p) H2) :
    TriedT T Er (fun E G Q' => P1 G ∧ P2 G ∧ tCall (spSt C CR CO) [] E (tCons (tVar 0) (tCons (tTup (tCons (tOp (rIxT K) (tVar 1) (tC (.int 0))) (tCons (tTup tNil) tNil))) (tCons (tVar 2) tNil))) σ G Q') H Q := by
  obtain ⟨h, c', e1, e2, e3⟩ := RA
  refine ⟨hP, hP2, _, h0, _, h1, r, _, _, _, rfl, rfl, SqT.of e1, rfl, (by show 0 ≤ sizeLine; exact Nat.zero_le _), fun e0 he0 => ?_⟩
  have s1 := same_upd (o := .tup []) he0
  have k1 : upd H e0 (.tup []) e0 = some (.tup []) := upd_same
  generalize upd H e0 (.tup []) = H1 at *
  refine ⟨(by show 2 ≤ sizeLine; decide), fun t2 ht2 => ?_⟩
  have s2 := same_upd (o := .tup [.ref h, .ref e0]) ht2
  have k2 : upd H1 t2 (.tup [.ref h, .ref e0]) t2 = some (.tup [.ref h, .ref e0]) := upd_same
  generalize upd H1 t2 (.tup [.ref h, .ref e0]) = H2 at *
  have s12 := s1.trans s2
  exact ⟨_, h2, g, n, us, t2, xs, [], c, rfl, GA.same s12, ⟨h, e0, k2, e2.same s12, s2 _ _ k1⟩, lx, Nat.zero_le _, hc, fun _ => fun H3 d s3 hd => toldT ok tb (s12.trans s3) hd rest, fun z => absurd rfl z⟩
end
theorem RowAt.extN {H H' : Hp} {r : Addr} {xs ys : List Int} (h : RowAt H r xs ys) (e : LamX.ExtN H H') : RowAt H' r xs ys := by
  obtain ⟨a, c, h1, h2, h3⟩ := h
  exact ⟨a, c, e _ _ h1 (fun ps z => by cases z), e _ _ h2 (fun ps z => by cases z), e _ _ h3 (fun ps z => by cases z)⟩
/-- a turn's things -/
structure Tn (C b l : Addr) (T : List (Addr × Str)) (ns : List Int) (p q g r : Addr) (n : Int) (ts us : Es) (xs ys : List Int) (H : Hp) : Prop where
  bag : BagAt H b l ns
  tab : LamX.Tabs T H
  pl : PlanAt H p q n ts
  gr : GraphAt C H g n us
  row : RowAt H r xs ys
section
variable {C b l p q g r : Addr} {T : List (Addr × Str)} {ns : List Int} {n : Int} {ts us : Es} {xs ys : List Int} {H H' : Hp}
theorem Tn.same (h : Tn C b l T ns p q g r n ts us xs ys H) (s : Same H H') : Tn C b l T ns p q g r n ts us xs ys H' := ⟨h.bag.same s, h.tab.ext s, h.pl.same s, h.gr.same s, h.row.same s⟩
theorem Tn.keep (h : Tn C b l T ns p q g r n ts us xs ys H) (k : KeepB b H H') (B : BagAt H' b l ns) : Tn C b l T ns p q g r n ts us xs ys H' := ⟨B, tabs_keep h.tab h.bag k, h.pl.keep h.bag k, h.gr.keep h.bag k, h.row.keep h.bag k⟩
theorem Tn.extN (h : Tn C b l T ns p q g r n ts us xs ys H) (e : LamX.ExtN H H') (t : LamX.Tabs T H') : Tn C b l T ns p q g r n ts us xs ys H' := ⟨h.bag.extN e, t, h.pl.extN e, h.gr.extN e, h.row.extN e⟩
/-- a list of the frame's own is written -/
theorem Tn.off {W : Addr} {ws : List V} {o : HO} (h : Tn C b l T ns p q g r n ts us xs ys H) (eW : H W = some (.lst ws)) (nb : W ≠ b) (nl : W ≠ l) (nq : W ≠ q) : Tn C b l T ns p q g r n ts us xs ys (upd H W o) := by
  have ne : ∀ {a : Addr} {u : HO}, H a = some u → (∀ z, u ≠ .lst z) → upd H W o a = some u := fun {a u} e z => by
    rw [upd_ne (fun e2 => by rw [e2, eW] at e; exact z _ (Option.some.inj e).symm)]
    exact e
  have nw : ∀ {a : Addr} {u : HO}, H a = some u → a ≠ W → upd H W o a = some u := fun {a u} e z => (upd_ne z).trans e
  obtain ⟨⟨dx, t, h1, h2⟩, ed⟩ := h.gr
  obtain ⟨ra, rc, r1, r2, r3⟩ := h.row
  refine ⟨?_, fun p hp => ?_, ⟨ne h.pl.tp (fun z q => by cases q), nw h.pl.ls nq.symm, fun x hx => ne (h.pl.ed x hx) (fun z q => by cases q), h.pl.va, h.pl.n1⟩, ⟨⟨dx, t, ne h1 (fun z q => by cases q), ne h2 (fun z q => by cases q)⟩, fun x hx => ne (ed x hx) (fun z q => by cases q)⟩, ⟨ra, rc, ne r1 (fun z q => by cases q), ne r2 (fun z q => by cases q), ne r3 (fun z q => by cases q)⟩⟩
  · obtain ⟨ob, ho, hB⟩ := h.bag.ob
    exact ⟨⟨ob, nw ho nb.symm, hB⟩, nw h.bag.sc nl.symm, h.bag.ln⟩
  · obtain ⟨ps, h1, h2, h3⟩ := h.tab p hp
    refine ⟨ps, ne h1 (fun z q => by cases q), h2, fun pos cv hc => ?_⟩
    obtain ⟨c, e1, e2⟩ := h3 pos cv hc
    exact ⟨c, e1, ne e2 (fun z q => by cases q)⟩
end
end Lw

set_option Elab.async false
set_option linter.all false
set_option maxRecDepth 100000
namespace Lw
open PySem L2
abbrev sLaw : Stmt := top 37
abbrev NL : List Str := ["_law_script", "_law_bag_here", "_law_turn", "_law_plan_here", "_law_graph_here", "_law_row_here", "_law_one", "_law_two", "_law_found", "_law_at", "_law_other", "_law_form", "_law_low", "_law_words"]
theorem scLaw : FnScope NL ["_law_script"] (defScope sLaw) := ⟨rfl, rfl, rfl, by decide +kernel, rfl, by decide +kernel, by decide +kernel⟩
structure Lib (P : Program) (w : World) (K : PySem.W.Frag) (mg : Str → Option Value) (base : Heap) (TT : List (Addr × Str)) (C CR CO CC : Addr) (mc : Value) : Prop where
  T : Bi mg
  G : GTxt K mg C mc
  bag : C8.Cal P w K mg base 1 "_law_bag" (spBag K) []
  pull : C8.Cal P w K mg base 1 "_law_pull" spPull []
  of : C8.Cal P w K mg base 2 "_law_of" (spOf K) []
  plan : C8.Cal P w K mg base 2 "_law_plan" spPlan []
  like : C8.Cal P w K mg base 6 "_law_like" (spLike 5) []
  graph : C8.Cal P w K mg base 4 "_law_graph" (spGraph C) []
  row : C8.Cal P w K mg base 3 "_law_row" spLRow []
  unr : C8.Cal P w K mg base 3 "_law_unrolled" spUnr []
  nor : C8.Cal P w K mg base 1 "_law_normal" spLNormal []
  led : C8.Cal P w K mg base 1 "_law_edge" spLEdge []
  lfi : C8.Cal P w K mg base 2 "_law_first" spLFirst []
  ck : CalN P w K mg base 4 "check_row" (spCkRow C CR)
  st : CalN P w K mg base 5 "state_at" (spSt C CR CO)
  drop : ∃ (f : Addr) (fd : FuncData), FnOk P w K mg base (L2N.CX P w) 4 f fd ["row", "count"] (spDrop CC) ∧ mg "drop" = some (.ref f) ∧ PySem.W.keepIn K (.ref f) = true ∧ KBn K fd ["row", "count"] 1 ["count"] (fun us ws => us ++ ws) (fun vs zs => vs ++ zs) ∧ ∃ ds, Vals [.int 1] ds ∧ Binds K fd ["row", "count"] ds
  tried : ∃ (g : Addr) (oc : Value) (od : Option Addr) (dV kV doc pm : Value) (an : Option Addr) (cdv ct : Value) (osl : Array (Option Value)), mg "_law_tried" = some (.ref g) ∧ PySem.W.keepIn K (.ref g) = true ∧
    K.lookup g = some ⟨oc, od, .func (PySem.W.fnOf "_law_tried" "_law_tried" (defArgs sTried) (defBody sTried) (defScope sTried) dV kV doc pm an cdv ct), osl⟩ ∧ PySem.W.codeIn K cdv "_law_tried" = true ∧ Binds K (PySem.W.fnOf "_law_tried" "_law_tried" (defArgs sTried) (defBody sTried) (defScope sTried) dV kV doc pm an cdv ct) ["_law_ask"] []
  err : ∃ (CW fF : Addr) (fdF : FuncData), mg "WindowError" = some (.ref CW) ∧ mg "_law_field" = some (.ref fF) ∧ PySem.W.keepIn K (.ref fF) = true ∧ Binds K fdF ["_law_e"] [] ∧
    ErOkT P w K mg base TT CW fF fdF CC "count" "invalidcount" ∧ ErOkT P w K mg base TT CW fF fdF CO "number" "outofrange" ∧ ErOkT P w K mg base TT CW fF fdF CR "place" "invalidrow"
def spLaw (K : PySem.W.Frag) (Pt Pf : Addr) : Sp := fun vs H Q _ => ∃ (a : Addr) (ns : List Int), vs = [.ref a] ∧ SqL K H a (ns.map V.int) ∧ ns.length ≤ 63 ∧ H Pt = some (.tbl #[]) ∧ H Pf = some (.tbl #[]) ∧ ∀ H', Q (.bl true) H'
section
variable {P : Program} {w : World} {K : PySem.W.Frag} {mg : Str → Option Value} {base : Heap}
set_option maxHeartbeats 16000000 in
theorem ok_law {f C CR CO CC c Pt Pf : Addr} {qn qf : Str} {mc : Value} {oc dV kV doc pm ct : Value} {od an : Option Addr} {osl : Array (Option Value)} (lk : K.lookup f = some ⟨oc, od, .func (PySem.W.fnOf "law" "law" (defArgs sLaw) (defBody sLaw) (defScope sLaw) dV kV doc pm an (.ref c) ct), osl⟩) (hcd : PySem.W.codeIn K (.ref c) "law" = true)
    (TB : LamX.TabB base mg c Pt) (hq0 : ("law" ++ ".<locals>." : Str) ++ "<lambda>" = qn) (nPf : Pf ≠ Pt) (L : Lib P w K mg base [(Pt, qn), (Pf, qf)] C CR CO CC mc) : FnOk P w K mg base CX0 12 f (PySem.W.fnOf "law" "law" (defArgs sLaw) (defBody sLaw) (defScope sLaw) dV kV doc pm an (.ref c) ct) ["_law_script"] (spLaw K Pt Pf) := by
  refine fn_of lk hcd scLaw (fun vs H Q E h => ?_) (fun A outer s H vs Q E hr h => ?_)
  · obtain ⟨a, ns, rfl, _⟩ := h
    rfl
  · obtain ⟨a, ns, rfl, hS, hln, htb, htf, q⟩ := h
    have T := L.T
    obtain ⟨gT, ocT, odT, dVT, kVT, docT, pmT, anT, cdvT, ctT, oslT, mT, kT, lkT, hcT, bT⟩ := L.tried
    obtain ⟨CW, fF, fdF, gW, gF, kF, bF, EC, EO, ER⟩ := L.err
    obtain ⟨fD, fdD, FD, mD, kD, kbD, dsD, vD, bD⟩ := L.drop
    obtain ⟨TT, hTT⟩ : ∃ TT : List (Addr × Str), [(Pt, qn), (Pf, qf)] = TT := ⟨_, rfl⟩
    rw [hTT] at EC EO ER
    have hm1 : (Pt, qn) ∈ TT := by
      rw [← hTT]
      exact List.mem_cons_self
    have hm2 : ∀ r ∈ TT, r.1 = Pt → r.2 = qn := fun r hr e => by
      rw [← hTT] at hr
      rcases List.mem_cons.mp hr with z | z
      · rw [z]
      · rw [List.mem_singleton.mp z] at e
        exact absurd e nPf
    suffices hh : ∃ t, PSs (cxOf CX0 P w K mg base NL "law" (defScope sLaw) f (.ref c) A outer s H E).nox (defBody sLaw) t ∧ t { nx := fun _ H' => Q .non H', rt := Q } (start NL [.ref a]) H by
      obtain ⟨t, h1, h2⟩ := hh
      exact ⟨t, h1.nox, h2⟩
    have hqn : (cxOf CX0 P w K mg base NL "law" (defScope sLaw) f (.ref c) A outer s H E).nox.env.qual ++ "<lambda>" = qn := hq0
    refine ⟨_, pss_cons (ps_set (i := 1) scLaw.nd rfl (by first | exact Or.inl rfl | exact Or.inr rfl) (C8.pe_c L.bag hr (by decide) (by rfl) (pa_cons (pv 0) pa_nil))) (pss_cons (ps_for PassesOwn.never rfl (pi_range1 (by rfl) T.range (pa_cons pe_int pa_nil)) (pg_name (i := 2) scLaw.nd rfl (by first | exact Or.inl rfl | exact Or.inr rfl)) (pss_cons (ps_set (i := 3) scLaw.nd rfl (by first | exact Or.inl rfl | exact Or.inr rfl) (C8.pe_c L.plan hr (by decide) (by rfl) (pa_cons (pv 1) (pa_cons pe_int (pa_cons pe_int pa_nil))))) (C8.pss_cut (ps_asg (pe_tup (pa_cons (C8.pe_c L.graph hr (by decide) (by rfl) (pa_cons (pv 3) pa_nil)) (pa_cons (C8.pe_c L.row hr (by decide) (by rfl) (pa_cons (pv 1) (pa_cons (pv 3) pa_nil))) pa_nil))) (pg_tup rfl (pgs_cons (pg_name (i := 4) scLaw.nd rfl (by first | exact Or.inl rfl | exact Or.inr rfl)) (pgs_cons (pg_name (i := 5) scLaw.nd rfl (by first | exact Or.inl rfl | exact Or.inr rfl)) pgs_nil)))) (C8.pss_cut (ps_asg (pe_tup (pa_cons (C8.pe_c L.of hr (by decide) (by rfl) (pa_cons (pv 1) (pa_cons (pe_lst (pa_cons (C8.pe_c L.pull hr (by decide) (by rfl) (pa_cons (pv 1) (pa_cons pe_int pa_nil))) (pa_cons (C8.pe_c L.pull hr (by decide) (by rfl) (pa_cons (pv 1) (pa_cons (pe_op op_pow pe_int pe_int) pa_nil))) pa_nil))) pa_nil))) (pa_cons (C8.pe_c L.pull hr (by decide) (by rfl) (pa_cons (pv 1) (pa_cons pe_int pa_nil))) pa_nil))) (pg_tup rfl (pgs_cons (pg_name (i := 6) scLaw.nd rfl (by first | exact Or.inl rfl | exact Or.inr rfl)) (pgs_cons (pg_name (i := 7) scLaw.nd rfl (by first | exact Or.inl rfl | exact Or.inr rfl)) pgs_nil)))) (C8.pss_cut (ps_set (i := 8) scLaw.nd rfl (by first | exact Or.inl rfl | exact Or.inr rfl) (pe_callN (E := E0) FD (hr.mono (by decide)) (by rfl) mD kD kbD passN0 (pa_cons (C8.pe_c L.unr hr (by decide) (by rfl) (pa_cons (pv 1) (pa_cons (pv 5) pa_nil))) pa_nil) (pk_cons (pv 6) pk_nil))) (C8.pss_cut (ps_if (PW.pt (pw_or (pt_not (pt_val (C8.pe_c L.like hr (by decide) (by rfl) (pa_cons (pv 8) (pa_cons (C8.pe_c L.nor hr (by decide) (by rfl) (pa_cons (pv 8) pa_nil)) pa_nil))))) (pw_or1 (pt_cmpR op_notN (pe_cN (W := fun _ _ _ _ => False) (E := E0) L.ck takes0N (fun _ _ _ _ h => h) hr (by decide) (by rfl) (pa_cons (pv 4) (pa_cons (pv 8) pa_nil))) pe_non (nomark _))))) (pss_one (ps_ret pe_bl)) pss_nil) (C8.pss_cut (ps_if (pt_cmpR (op_neD hr.units) (C8.pe_c L.lfi hr (by decide) (by rfl) (pa_cons (pv 8) (pa_cons pe_int pa_nil))) (pe_callTy call_tuple_of (by rfl) T.tuple (by decide +kernel) (pa_cons (pe_lc (own := [("_law_at", 9)]) (g := gName 9) (tt := tYes) (te := tCall spLEdge [] E0 (tCons (tVar 5) (tCons (tOp (rI0 fun i j => .int (i + j)) (tVar 6) (tVar 9)) tNil))) rfl scLaw.nd (pi_range1 (by rfl) T.range (pa_cons pe_int pa_nil)) (blkOk_by (N := NL) (sc := defScope sLaw) (by decide +kernel)) (fun _ _ _ _ _ => by exact pg_name (i := 9) scLaw.nd rfl (by first | exact Or.inl rfl | exact Or.inr rfl)) (fun _ _ _ _ _ => pts_nil) (fun _ _ _ _ _ => by exact (C8.pe_c L.led hr (by decide) (by rfl) (pa_cons (pv 5) (pa_cons (pe_op op_add (pv 6) (pv 9)) pa_nil))))) pa_nil)) (nomark _)) (pss_one (ps_ret pe_bl)) pss_nil) (C8.pss_cut (ps_if (PW.pt (pw_or (pt_cmpR (op_neD hr.units) (pe_callN (E := E0) FD (hr.mono (by decide)) (by rfl) mD kD kbD passN0 (pa_cons (pv 8) pa_nil) (pk_cons (pv 7) pk_nil)) (pe_callN (E := E0) FD (hr.mono (by decide)) (by rfl) mD kD kbD passN0 (pa_cons (pv 5) pa_nil) (pk_cons (pe_op op_add (pv 6) (pv 7)) pk_nil)) (nomark _)) (pw_or1 (pt_cmpR (op_neD hr.units) (pe_call (E := E0) FD (hr.mono (by decide)) (by rfl) mD kD bD vD passN0 (pa_cons (pv 5) pa_nil)) (pe_callN (E := E0) FD (hr.mono (by decide)) (by rfl) mD kD kbD passN0 (pa_cons (pv 5) pa_nil) (pk_cons pe_int pk_nil)) (nomark _))))) (pss_one (ps_ret pe_bl)) pss_nil) (C8.pss_cut (ps_set (i := 10) scLaw.nd rfl (by first | exact Or.inl rfl | exact Or.inr rfl) (pe_tup (pa_cons (pe_op op_catA (pe_ix ix_tup (pv 5) pe_int (fun _ _ => rfl)) (pe_ix ix_tup (pv 5) pe_int (fun _ _ => rfl))) (pa_cons (pe_op op_catA (pe_ix ix_tup (pv 5) pe_int (fun _ _ => rfl)) (pe_ix ix_tup (pv 5) pe_int (fun _ _ => rfl))) pa_nil)))) (C8.pss_cut (ps_if (pt_cmpR (op_neD hr.units) (pe_lc (own := [("_law_form", 11)]) (g := gName 11) (tt := tYes) (te := tCall (spSt C CR CO) [] E0 (tCons (tVar 4) (tCons (tVar 11) (tCons (tVar 6) tNil)))) rfl scLaw.nd (pi_seqA (pe_tup (pa_cons (pv 5) (pa_cons (pv 10) pa_nil)))) (blkOk_by (N := NL) (sc := defScope sLaw) (by decide +kernel)) (fun _ _ _ _ _ => by exact pg_name (i := 11) scLaw.nd rfl (by first | exact Or.inl rfl | exact Or.inr rfl)) (fun _ _ _ _ _ => pts_nil) (fun _ _ _ _ _ => by exact (pe_cN (W := fun _ _ _ _ => False) (E := E0) L.st takes0N (fun _ _ _ _ h => h) hr (by decide) (by rfl) (pa_cons (pv 4) (pa_cons (pv 11) (pa_cons (pv 6) pa_nil)))))) (pe_op op_rep (pe_lst (pa_cons (pe_ix ix_tup (pe_ix ix_list (pe_ix ix_tup (pv 3) pe_int (fun _ _ => rfl)) (C8.pe_c L.led hr (by decide) (by rfl) (pa_cons (pv 5) (pa_cons (pv 6) pa_nil))) (fun _ _ => rfl)) pe_int (fun _ _ => rfl)) pa_nil)) pe_int) (nomark _)) (pss_one (ps_ret pe_bl)) pss_nil) (C8.pss_cut (ps_set (i := 12) scLaw.nd rfl (by first | exact Or.inl rfl | exact Or.inr rfl) (pe_op op_sub (pe_un un_neg pe_int) (pv 6))) (pss_cons (ps_set (i := 13) scLaw.nd rfl (by first | exact Or.inl rfl | exact Or.inr rfl) (pe_lst (pa_cons (LamN.pe_hand (T := TT) (D := LamV.dNo) (k := 4) (N := ["_law_row_here", "_law_low"]) (ps := []) (fr := ["_law_row_here", "_law_low"]) (vs := []) (js := [5, 12]) (t := fun E => tCallN 1 1 (spDrop CC) (fun vs zs => vs ++ zs) E (tCons (tVar 0) tNil) (tCons (tVar 1) tNil)) (by rfl) mT kT lkT hcT bT scTried rfl (.inl rfl) (triedT_gives (T := TT) (hr.mono (by decide)) gW gF kF bF) (hr.mono (by decide)) (LamV.pe_lamNo (T := TT) TB rfl (by rw [hqn]; exact hm1) (by rw [hqn]; exact hm2) (by exact (show NdefX.ndefB (defScope sLaw) _ _ = true from by decide +kernel)) rfl) (NdefX.nscope_by (by decide +kernel)) (by exact (show NdefX.ndefB (defScope sLaw) _ _ = true from by decide +kernel)) rfl rfl (fun s H dV q cl doc pm cv ctv hok h => by subst h; exact ⟨[], .nil, .of_eq rfl⟩) (fun A2 o2 s2 H2 E2 f2 c2 hr2 => by exact (pe_callN (n := 1) (ks := ["count"]) (gV := fun vs zs => vs ++ zs) FD hr2 (by rfl) mD kD kbD (L2N.passes_call (L2N.takes_of rfl rfl rfl rfl) (fun _ _ _ _ h => h)) (pa_cons (pv 0) pa_nil) (pk_cons (pv 1) pk_nil)))) (pa_cons (LamN.pe_hand (T := TT) (D := LamV.dInt 0) (k := 5) (N := ["_law_a", "_law_graph_here", "_law_row_here", "_law_low"]) (ps := ["_law_a"]) (fr := ["_law_graph_here", "_law_row_here", "_law_low"]) (vs := [.int 0]) (js := [4, 5, 12]) (t := fun E => tCall (spSt C CR CO) [] E (tCons (tVar 1) (tCons (tVar 2) (tCons (tVar 3) tNil)))) (by rfl) mT kT lkT hcT bT scTried rfl (.inl rfl) (triedT_gives (T := TT) (hr.mono (by decide)) gW gF kF bF) (hr.mono (by decide)) (LamV.pe_lamInt (T := TT) TB rfl (by rw [hqn]; exact hm1) (by rw [hqn]; exact hm2) (by exact (show NdefX.ndefB (defScope sLaw) _ _ = true from by decide +kernel)) rfl rfl pe_int) (NdefX.nscope_by (by decide +kernel)) (by exact (show NdefX.ndefB (defScope sLaw) _ _ = true from by decide +kernel)) rfl rfl (fun s H dV q cl doc pm cv ctv hok h => by obtain ⟨t, rfl, ht⟩ := h; obtain ⟨⟨u, ru, tat⟩, _, _⟩ := hok t _ ht; exact ⟨[u], .cons ru .nil, BindsTo.of_defaults rfl tat rfl rfl rfl⟩) (fun A2 o2 s2 H2 E2 f2 c2 hr2 => by exact (pe_cN L.st (L2N.takes_of rfl rfl rfl rfl) (fun _ _ _ _ h => h) hr2 (Nat.le_refl _) (by rfl) (pa_cons (pv 1) (pa_cons (pv 2) (pa_cons (pv 3) pa_nil)))))) pa_nil)))) (pss_cons (ps_expr (pe_bm PySem.F.plainAttrs_list PySem.F.slot_list_append PySem.F.type_list_append mt_append (pv 13) (pa_cons (LamN.pe_hand (T := TT) (D := LamV.dNo) (k := 5) (N := ["_law_graph_here", "_law_row_here", "_law_low"]) (ps := []) (fr := ["_law_graph_here", "_law_row_here", "_law_low"]) (vs := []) (js := [4, 5, 12]) (t := fun E => tCall (spSt C CR CO) [] E (tCons (tVar 0) (tCons (tTup (tCons (tOp (rIxT K) (tVar 1) (tC (.int 0))) (tCons (tTup tNil) tNil))) (tCons (tVar 2) tNil)))) (by rfl) mT kT lkT hcT bT scTried rfl (.inl rfl) (triedT_gives (T := TT) (hr.mono (by decide)) gW gF kF bF) (hr.mono (by decide)) (LamV.pe_lamNo (T := TT) TB rfl (by rw [hqn]; exact hm1) (by rw [hqn]; exact hm2) (by exact (show NdefX.ndefB (defScope sLaw) _ _ = true from by decide +kernel)) rfl) (NdefX.nscope_by (by decide +kernel)) (by exact (show NdefX.ndefB (defScope sLaw) _ _ = true from by decide +kernel)) rfl rfl (fun s H dV q cl doc pm cv ctv hok h => by subst h; exact ⟨[], .nil, .of_eq rfl⟩) (fun A2 o2 s2 H2 E2 f2 c2 hr2 => by exact (pe_cN L.st (L2N.takes_of rfl rfl rfl rfl) (fun _ _ _ _ h => h) hr2 (Nat.le_refl _) (by rfl) (pa_cons (pv 0) (pa_cons (pe_tup (pa_cons (pe_ix ix_tup (pv 1) pe_int (fun _ _ => rfl)) (pa_cons (pe_tup pa_nil) pa_nil))) (pa_cons (pv 2) pa_nil)))))) pa_nil))) (pss_one (ps_if (pt_cmpR (op_neD hr.units) (pv 13) (pe_lst (pa_cons (pe_tup (pa_cons pe_str (pa_cons (pv 12) pa_nil))) (pa_cons (pe_tup (pa_cons pe_str (pa_cons (pv 12) pa_nil))) (pa_cons (pe_tup (pa_cons pe_str (pa_cons (pe_un un_neg pe_int) pa_nil))) pa_nil)))) (nomark _)) (pss_one (ps_ret pe_bl)) pss_nil))))))))))))))) (pss_one (ps_ret (C8.pe_c L.like hr (by decide) (by rfl) (pa_cons (pe_callN (E := E0) FD (hr.mono (by decide)) (by rfl) mD kD kbD passN0 (pa_cons (pe_tup (pa_cons (pe_tup (pa_cons pe_int (pa_cons pe_int pa_nil))) (pa_cons (pe_tup (pa_cons pe_int pa_nil)) pa_nil))) pa_nil) (pk_cons pe_int pk_nil)) (pa_cons (pe_tup (pa_cons (pe_tup (pa_cons pe_int (pa_cons pe_int pa_nil))) (pa_cons (pe_tup (pa_cons pe_int pa_nil)) pa_nil))) pa_nil)))))), ?_⟩
    have four : ∀ m : Nat, m ≤ 1000 → m ≤ sizeLine := fun m h => Nat.le_of_lt (small1000 h)
    have small : ∀ z : Int, -(10 ^ 21) ≤ z → z ≤ 10 ^ 21 → z.natAbs < 10 ^ 100 := fun z h1 h2 => Nat.lt_of_lt_of_le (show z.natAbs < 10 ^ 21 + 1 by omega) (by decide +kernel)
    refine ⟨_, rfl, a, ns, rfl, hS, hln, fun b l H1 s1 nb nl B => ?_⟩
    have tb1 : LamX.Tabs TT H1 := by
      refine LamX.Tabs.ext (fun p hp => ?_) s1
      rw [← hTT] at hp
      rcases List.mem_cons.mp hp with z | z
      · rw [z]
        exact LamX.TabS.nil htb
      · rw [List.mem_singleton.mp z]
        exact LamX.TabS.nil htf
    refine ⟨6, rfl, by decide, by decide, ?_⟩
    refine for_it (walk_range (lo := 0) (n := (6 : Int).toNat)) (fun i σ H' => ∃ v2 v3 v4 v5 v6 v7 v8 v9 v10 v11 v12 v13 : Option V, σ = [some (.ref a), some (.ref b), v2, v3, v4, v5, v6, v7, v8, v9, v10, v11, v12, v13] ∧ BagAt H' b l ns ∧ LamX.Tabs TT H')
      ⟨_, _, _, _, _, _, _, _, _, _, _, _, rfl, B, tb1⟩ (fun _ _ _ _ _ => True.intro) ?_ ?_
    · rintro i x σ H2 H' hi ⟨v2, v3, v4, v5, v6, v7, v8, v9, v10, v11, v12, v13, rfl, B2, tb2⟩ ⟨rfl, rfl⟩
      refine ⟨_, rfl, b, l, ns, 4, 9, rfl, B2, by decide, by decide, by decide, fun p q0 n ts H3 k3 B3 np nq PA hn hl => ?_⟩
      have tb3 := tabs_keep tb2 B2 k3
      have l24 : ts.length ≤ 24 := by omega
      -- the graph and the row
      refine ⟨fun σ H' => ∃ v2 v6 v7 v8 v9 v10 v11 v12 v13 : Option V, ∃ (g r : Addr) (us : Es) (xs ys : List Int), σ = [some (.ref a), some (.ref b), v2, some (.ref p), some (.ref g), some (.ref r), v6, v7, v8, v9, v10, v11, v12, v13] ∧ Tn C b l TT ns p q0 g r n ts us xs ys H' ∧ psOf us = psOf ts ∧ RowOf (psOf us) (sq xs ys) ∧ ys ≠ [] ∧ xs.length ≤ 100 ∧ ys.length ≤ 100, ?_, ?_⟩
      · refine ⟨_, rfl, p, q0, n, ts, rfl, PA, by omega, l24, fun g us H4 eqp s4 ng GA => ?_⟩
        have B4 := B3.same s4
        have PA4 := PA.same s4
        refine ⟨_, rfl, _, rfl, b, l, ns, p, q0, n, ts, rfl, B4, PA4, l24, fun r H5 xs ys k5 B5 R5 ro yn lx ly => ?_⟩
        refine ⟨four 2 (by decide), fun tp htp => ?_⟩
        have Z : Tn C b l TT ns p q0 g r n ts us xs ys H5 := ⟨B5, tabs_keep (tb3.ext s4) B4 k5, PA4.keep B4 k5, GA.keep B4 k5, R5⟩
        have Z := Z.same (same_upd (o := .tup [.ref g, .ref r]) htp)
        refine ⟨tp, _, rfl, SqT.of upd_same, rfl, _, _, rfl, _, _, rfl, rfl, _, _, _, _, _, _, _, _, _, g, r, us, xs, ys, rfl, Z, eqp, ?_, yn, lx, ly⟩
        rw [eqp]
        exact ro
      · clear tb3 PA B3 k3 tb2 B2
        rintro σ H4 ⟨v2, v6, v7, v8, v9, v10, v11, v12, v13, g, r, us, xs, ys, rfl, Z, eqp, RO, yn, lx, ly⟩
        -- one and two
        refine ⟨fun σ H' => ∃ v2 v8 v9 v10 v11 v12 v13 : Option V, ∃ cz dz : Nat, σ = [some (.ref a), some (.ref b), v2, some (.ref p), some (.ref g), some (.ref r), some (.int (cz : Int)), some (.int (dz : Int)), v8, v9, v10, v11, v12, v13] ∧ Tn C b l TT ns p q0 g r n ts us xs ys H' ∧ (cz : Int) < 10 ^ 20 ∧ dz < 9, ?_, ?_⟩
        · refine ⟨_, rfl, _, rfl, b, l, ns, 20, rfl, Z.bag, by decide, by decide, fun v1 o1 v10 v11 BO1 => ?_⟩
          have Z := Z.keep .updb (Z.bag.upd BO1)
          generalize upd H4 b o1 = H5 at *
          refine ⟨_, rfl, _, _, rfl, rfl, ⟨by decide, by decide, by decide⟩, b, l, ns, _, rfl, Z.bag, by decide, by decide, fun v2 o2 v20 v21 BO2 => ?_⟩
          have Z := Z.keep .updb (Z.bag.upd BO2)
          generalize upd H5 b o2 = H6 at *
          refine ⟨four 2 (by decide), fun tl htl => ?_⟩
          have Zt := Z.same (same_upd (o := .lst [.int v1, .int v2]) htl)
          have nt := Z.bag.ne_new htl
          refine ⟨b, l, tl, ns, _, rfl, Zt.bag, SqL.of upd_same, nt, by simp, (by show 2 ≤ 1000; decide), fun j w o3 hj BO3 => ?_⟩
          obtain ⟨cz, rfl, hcz⟩ : ∃ cz : Nat, w = .int (cz : Int) ∧ (cz : Int) < 10 ^ 20 := by
            have hm := List.mem_of_getElem? hj
            simp only [List.mem_cons, List.not_mem_nil, or_false] at hm
            rcases hm with rfl | rfl
            · exact ⟨v1.toNat, by rw [Int.toNat_of_nonneg v10], by rw [Int.toNat_of_nonneg v10]; omega⟩
            · exact ⟨v2.toNat, by rw [Int.toNat_of_nonneg v20], by rw [Int.toNat_of_nonneg v20]; exact v21⟩
          have Z := Zt.keep .updb (Zt.bag.upd BO3)
          clear Zt
          generalize upd (upd H6 tl _) b o3 = H7 at *
          refine ⟨_, rfl, b, l, ns, 9, rfl, Z.bag, by decide, by decide, fun v4 o4 v40 v41 BO4 => ?_⟩
          have Z := Z.keep .updb (Z.bag.upd BO4)
          generalize upd H7 b o4 = H8 at *
          obtain ⟨dz, rfl⟩ : ∃ dz : Nat, v4 = (dz : Int) := ⟨v4.toNat, (Int.toNat_of_nonneg v40).symm⟩
          exact ⟨four 2 (by decide), fun tp htp => ⟨tp, _, rfl, SqT.of upd_same, rfl, _, _, rfl, _, _, rfl, rfl, _, _, _, _, _, _, _, cz, dz, rfl, Z.same (same_upd htp), hcz, by omega⟩⟩
        · clear Z
          rintro σ H5 ⟨v2, v8, v9, v10, v11, v12, v13, cz, dz, rfl, Z, hcz, hdz⟩
          have big := small (cz : Int) (by omega) (by omega)
          -- found
          obtain ⟨s', hs'⟩ : ∃ s' : Nat → Int, dr (sq xs ys) cz = s' := ⟨_, rfl⟩
          refine ⟨fun σ H' => ∃ v2 v9 v10 v11 v12 v13 : Option V, ∃ (fo : Addr) (m pp : Nat), σ = [some (.ref a), some (.ref b), v2, some (.ref p), some (.ref g), some (.ref r), some (.int (cz : Int)), some (.int (dz : Int)), some (.ref fo), v9, v10, v11, v12, v13] ∧ Tn C b l TT ns p q0 g r n ts us xs ys H' ∧ RowAt H' fo (seg s' 0 m) (seg s' m pp) ∧ IsNF s' m pp ∧ m ≤ 100 ∧ pp ≤ 100, ?_, ?_⟩
          · refine ⟨_, rfl, _, rfl, b, l, r, ns, xs, ys, rfl, Z.bag, Z.row, yn, lx, ly, fun r1 H6 x1 y1 k6 B6 R6 e6 yn1 lx1 ly1 => ?_⟩
            have Z := Z.keep k6 B6
            refine ⟨_, rfl, rfl, rfl, r1, x1, y1, (cz : Int), rfl, R6, yn1, by omega, by omega, big, fun z => absurd z (by omega), fun _ fo H7 m pp s7 nf hm hp ra => ?_⟩
            rw [Int.toNat_natCast, e6, hs'] at nf ra
            have sm := nf_small yn (show IsNF (dr (sq xs ys) cz) m pp by rw [hs']; exact nf)
            exact ⟨_, _, _, _, _, _, fo, m, pp, rfl, Z.same s7, ra, nf, by omega, by omega⟩
          · clear Z
            rintro σ H6 ⟨v2, v9, v10, v11, v12, v13, fo, m, pp, rfl, Z, RF, nf, lm, lp⟩
            have sF := sq_found nf
            have fne := seg_ne (s := s') (m := m) nf.p1
            have roF : RowOf (psOf us) (sq (seg s' 0 m) (seg s' m pp)) := by
              rw [sF, ← hs']
              exact row_dr RO
            have l0 : (seg s' 0 m).length ≤ 100 := by
              rw [seg_len]
              exact lm
            have l1 : (seg s' m pp).length ≤ 100 := by
              rw [seg_len]
              exact lp
            -- it is its own normal form, and a row
            refine ⟨fun σ H' => ∃ v2 v9 v10 v11 v12 v13 : Option V, σ = [some (.ref a), some (.ref b), v2, some (.ref p), some (.ref g), some (.ref r), some (.int (cz : Int)), some (.int (dz : Int)), some (.ref fo), v9, v10, v11, v12, v13] ∧ Tn C b l TT ns p q0 g r n ts us xs ys H' ∧ RowAt H' fo (seg s' 0 m) (seg s' m pp), ?_, ?_⟩
            · refine ⟨_, rfl, _, rfl, fo, _, _, rfl, RF, fne, by omega, l1, fun r1 H7 x1 y1 s7 R7 e7 n7 lx7 ly7 => ?_⟩
              rw [seg_len] at lx7 ly7
              rw [sF] at e7
              obtain ⟨rfl, rfl⟩ := nf_same nf n7 e7 lx7 ly7
              refine ⟨_, _, rfl, lk_row (k := 2) (RF.same s7) R7 (by omega) (by omega), fun H8 s8 => ⟨true, rfl, if_f rfl ?_⟩⟩
              have s68 := s7.trans s8
              refine ⟨_, rfl, _, rfl, g, n, us, fo, _, _, rfl, Z.gr.same s68, RF.same s68, by omega, by omega, fun z => absurd z fne, fun _ => ⟨fun _ H9 s9 => ?_, fun j fj => by cases FB.uniq (roF.none fne) fj⟩⟩
              exact ⟨rfl, _, rfl, if_f rfl ⟨_, _, _, _, _, _, rfl, (Z.same s68).same s9, (RF.same s68).same s9⟩⟩
            · clear Z RF
              rintro σ H7 ⟨v2, v9, v10, v11, v12, v13, rfl, Z, RF⟩
              -- its first thirty edges
              refine ⟨fun σ H' => ∃ v2 v9 v10 v11 v12 v13 : Option V, σ = [some (.ref a), some (.ref b), v2, some (.ref p), some (.ref g), some (.ref r), some (.int (cz : Int)), some (.int (dz : Int)), some (.ref fo), v9, v10, v11, v12, v13] ∧ Tn C b l TT ns p q0 g r n ts us xs ys H' ∧ RowAt H' fo (seg s' 0 m) (seg s' m pp), ?_, ?_⟩
              · refine ⟨_, rfl, fo, _, _, 30, rfl, RF, fne, by decide, fun t1 H8 s8 e8 => ?_⟩
                rw [sF] at e8
                have Z := Z.same s8
                have RF := RF.same s8
                refine ⟨30, rfl, by decide, by decide, fun D hD => ?_⟩
                refine lc_it (walk_range (lo := 0) (n := (30 : Int).toNat)) (fun i H' => Same H8 H' ∧ H' D = some (.lst ((seg s' 0 i).map V.int))) ⟨same_upd hD, upd_same⟩ (fun _ _ _ _ => True.intro) ?_ ?_
                · rintro i x H9 H' hi ⟨sm, eD⟩ ⟨rfl, rfl⟩
                  refine ⟨rfl, ?_⟩
                  refine ⟨_, rfl, _, rfl, _, rfl, _, _, rfl, rfl, r, xs, ys, _, rfl, Z.row.same sm, yn, (by show (0 : Int) ≤ (cz : Int) + (0 + (i : Int)); omega), _, eD, ?_, ?_, ?_⟩
                  · rw [List.length_map, seg_len]
                    exact small1000 (by omega)
                  · intro b o e
                    rw [upd_ne (ne_of_none e hD)]
                    exact sm _ _ e
                  · rw [upd_same, seg_succ, List.map_append, ← hs']
                    show some (HO.lst (_ ++ [V.int (sq xs ys ((cz : Int) + (0 + (i : Int))).toNat)])) = some (HO.lst (_ ++ [V.int (sq xs ys (cz + (0 + i)))]))
                    rw [show ((cz : Int) + (0 + (i : Int))).toNat = cz + (0 + i) by omega]
                · rintro H9 ⟨sm, eD⟩
                  refine ⟨D, _, rfl, .inl ⟨SqL.of eD, fun t2 ht2 => ?_⟩⟩
                  have s10 := sm.trans (same_upd (o := .tup ((seg s' 0 (30 : Int).toNat).map V.int)) ht2)
                  exact ⟨_, _, .tup (SqT.of (s10 _ _ e8)) (dp_ints _), .tup (SqT.of upd_same) (dp_ints _), sh_ints _, sh_ints _, _, rfl, if_f (by rw [show (30 : Int).toNat = 30 from rfl, eq_tup]; rfl) ⟨_, _, _, _, _, _, rfl, Z.same s10, RF.same s10⟩⟩
              · clear Z RF
                rintro σ H8 ⟨v2, v9, v10, v11, v12, v13, rfl, Z, RF⟩
                -- drops add up
                refine ⟨fun σ H' => ∃ v2 v9 v10 v11 v12 v13 : Option V, σ = [some (.ref a), some (.ref b), v2, some (.ref p), some (.ref g), some (.ref r), some (.int (cz : Int)), some (.int (dz : Int)), some (.ref fo), v9, v10, v11, v12, v13] ∧ Tn C b l TT ns p q0 g r n ts us xs ys H' ∧ RowAt H' fo (seg s' 0 m) (seg s' m pp), ?_, ?_⟩
                · refine ⟨_, rfl, _, rfl, rfl, rfl, fo, _, _, (dz : Int), rfl, RF, fne, by omega, by omega, small _ (by omega) (by omega), fun z => absurd z (by omega), fun _ f1 H9 m1 p1 s9 nf1 _ _ ra1 => ?_⟩
                  rw [Int.toNat_natCast, sF, ← hs', dr_dr] at nf1 ra1
                  refine ⟨_, rfl, _, rfl, _, rfl, _, _, rfl, rfl, rfl, rfl, r, xs, ys, (cz : Int) + (dz : Int), rfl, Z.row.same s9, yn, by omega, by omega, small _ (by omega) (by omega), fun z => absurd z (by omega), fun _ f2 H10 m2 p2 s10 nf2 _ _ ra2 => ?_⟩
                  rw [show ((cz : Int) + (dz : Int)).toNat = cz + dz by omega] at nf2 ra2
                  obtain ⟨rfl, rfl⟩ := nf1.uniq nf2
                  refine ⟨_, _, dp_row (ra1.same s10), dp_row ra2, sh_row _ _, sh_row _ _, _, rfl, if_f (by rw [eq_row]; rfl) ?_⟩
                  have s810 := s9.trans s10
                  refine ⟨_, rfl, r, xs, ys, 1, rfl, Z.row.same s810, yn, by omega, by omega, by decide +kernel, fun z => absurd z (by decide), fun _ f3 H11 m3 p3 s11 nf3 _ _ ra3 => ?_⟩
                  refine ⟨_, rfl, rfl, rfl, r, xs, ys, 1, rfl, (Z.row.same s810).same s11, yn, by omega, by omega, by decide +kernel, fun z => absurd z (by decide), fun _ f4 H12 m4 p4 s12 nf4 _ _ ra4 => ?_⟩
                  obtain ⟨rfl, rfl⟩ := nf3.uniq nf4
                  have sA := (s810.trans s11).trans s12
                  exact ⟨_, _, dp_row (ra3.same s12), dp_row ra4, sh_row _ _, sh_row _ _, _, rfl, if_f (by rw [eq_row]; rfl) ⟨_, _, _, _, _, _, rfl, Z.same sA, RF.same sA⟩⟩
                · clear Z RF
                  rintro σ H9 ⟨v2, v9, v10, v11, v12, v13, rfl, Z, RF⟩
                  -- another form of the row
                  refine ⟨fun σ H' => ∃ v2 v9 v11 v12 v13 : Option V, ∃ ot : Addr, σ = [some (.ref a), some (.ref b), v2, some (.ref p), some (.ref g), some (.ref r), some (.int (cz : Int)), some (.int (dz : Int)), some (.ref fo), v9, some (.ref ot), v11, v12, v13] ∧ Tn C b l TT ns p q0 g r n ts us xs ys H' ∧ RowAt H' ot (xs ++ ys) (ys ++ ys), ?_, ?_⟩
                  · obtain ⟨h, c', hrow, hh, hc⟩ := Z.row
                    refine ⟨_, rfl, r, _, _, _, rfl, rfl, SqT.of hrow, rfl, _, rfl, r, _, _, _, rfl, rfl, SqT.of hrow, rfl, ?_⟩
                    refine catA hh hc (by rw [List.length_map, List.length_map]; omega) fun e1 H10 s10 e10 => ?_
                    have hrow2 := s10 _ _ hrow
                    have hc2 := hc.same s10
                    refine ⟨_, rfl, r, _, _, _, rfl, rfl, SqT.of hrow2, rfl, _, rfl, r, _, _, _, rfl, rfl, SqT.of hrow2, rfl, ?_⟩
                    refine catA hc2 hc2 (by rw [List.length_map]; omega) fun e2 H11 s11 e11 => ?_
                    refine ⟨four 2 (by decide), fun ot hot => ?_⟩
                    have s12 := same_upd (o := .tup [.ref e1, .ref e2]) hot
                    refine ⟨_, _, _, _, _, ot, rfl, Z.same ((s10.trans s11).trans s12), e1, e2, upd_same, ?_, ?_⟩
                    · unfold TI
                      rw [List.map_append]
                      exact s12 _ _ (s11 _ _ e10)
                    · unfold TI
                      rw [List.map_append]
                      exact s12 _ _ e11
                  · clear Z RF
                    rintro σ H10 ⟨v2, v9, v11, v12, v13, ot, rfl, Z, R4⟩
                    -- states
                    refine ⟨fun σ H' => ∃ v2 v8 v9 v10 v11 v12 v13 : Option V, σ = [some (.ref a), some (.ref b), v2, some (.ref p), some (.ref g), some (.ref r), some (.int (cz : Int)), some (.int (dz : Int)), v8, v9, v10, v11, v12, v13] ∧ Tn C b l TT ns p q0 g r n ts us xs ys H', ?_, ?_⟩
                    · obtain ⟨sv, hsv⟩ : ∃ sv : Int, (prt (psOf us) (sq xs ys cz)).1 = sv := ⟨_, rfl⟩
                      refine ⟨_, rfl, _, rfl, four 2 (by decide), fun tq htq => ?_⟩
                      have sq1 := same_upd (o := .tup [.ref r, .ref ot]) htq
                      have eq1 : upd H10 tq (.tup [.ref r, .ref ot]) tq = some (.tup [.ref r, .ref ot]) := upd_same
                      have Z := Z.same sq1
                      have R4 := R4.same sq1
                      generalize upd H10 tq (.tup [.ref r, .ref ot]) = H11 at *
                      refine ⟨tq, _, SqT, rfl, .inr rfl, SqT.of eq1, fun J w D hD => ?_⟩
                      refine lc_it w (fun i H' => Same H11 H' ∧ H' D = some (.lst ((List.replicate i sv).map V.int))) ⟨same_upd hD, upd_same⟩ (fun i H' _ p => SqT.of (p.1 _ _ eq1)) ?_ ?_
                      · rintro i x Hq H12 hi ⟨sm, eD⟩ ⟨rfl, gx⟩
                        have hi2 : i < 2 := hi
                        refine ⟨rfl, ?_⟩
                        have key : ∀ (ra : Addr) (x0 y0 : List Int), RowAt H12 ra x0 y0 → sq x0 y0 = sq xs ys → y0 ≠ [] → x0.length ≤ 300 → y0.length ≤ 300 → ∀ Q' : VK, (∀ H', Same H12 H' → Q' (.int sv) H') → spSt C CR CO [.ref g, .ref ra, .int (cz : Int)] H12 Q' E0 := fun ra x0 y0 R0 e0 n0 lx0 ly0 Q' hQ => by
                          refine ⟨g, n, us, ra, x0, y0, (cz : Int), rfl, Z.gr.same sm, R0, lx0, ly0, big, fun z => absurd z n0, fun _ => ⟨by rw [e0]; exact RO, fun z => absurd z (by omega), fun _ H13 s13 => ?_⟩⟩
                          rw [Int.toNat_natCast, e0, hsv]
                          exact hQ H13 s13
                        have fin : ∀ H', Same H12 H' → ∃ l, H' D = some (.lst l) ∧ l.length < sizeLine ∧ (Same H11 (upd H' D (.lst (l ++ [.int sv]))) ∧ upd H' D (.lst (l ++ [.int sv])) D = some (.lst ((List.replicate (i + 1) sv).map V.int))) := fun H13 s13 => by
                          refine ⟨_, s13 _ _ eD, ?_, ?_, ?_⟩
                          · rw [List.length_map, List.length_replicate]
                            exact small1000 (by omega)
                          · intro b o e
                            rw [upd_ne (ne_of_none e hD)]
                            exact s13 _ _ (sm _ _ e)
                          · rw [upd_same, List.replicate_succ', List.map_append]
                            rfl
                        obtain rfl | rfl : i = 0 ∨ i = 1 := by omega
                        · cases gx
                          refine ⟨_, rfl, _, rfl, _, rfl, ?_⟩
                          show spSt C CR CO [.ref g, .ref r, .int (cz : Int)] H12 (fun y H4 => ∃ acc, H4 D = some (.lst acc) ∧ acc.length < sizeLine ∧ Same H11 (upd H4 D (.lst (acc ++ [y]))) ∧ upd H4 D (.lst (acc ++ [y])) D = some (.lst ((List.replicate (0 + 1) sv).map V.int))) E0
                          exact key r xs ys (Z.row.same sm) rfl yn (by omega) (by omega) _ fin
                        · cases gx
                          refine ⟨_, rfl, _, rfl, _, rfl, ?_⟩
                          show spSt C CR CO [.ref g, .ref ot, .int (cz : Int)] H12 (fun y H4 => ∃ acc, H4 D = some (.lst acc) ∧ acc.length < sizeLine ∧ Same H11 (upd H4 D (.lst (acc ++ [y]))) ∧ upd H4 D (.lst (acc ++ [y])) D = some (.lst ((List.replicate (1 + 1) sv).map V.int))) E0
                          refine key ot _ _ (R4.same sm) (other_sq yn) ?_ ?_ ?_ _ fin
                          · intro z
                            exact yn (List.append_eq_nil_iff.mp z).1
                          · rw [List.length_append]
                            omega
                          · rw [List.length_append]
                            omega
                      · rintro H12 ⟨sm, eD⟩
                        have Z := Z.same sm
                        have hin : Inr (psOf ts) (sq xs ys cz) := by
                          rw [← eqp]
                          exact (RO cz).1
                        obtain ⟨ee, he, he2⟩ := prt_at hin
                        refine ⟨_, rfl, p, _, _, _, rfl, rfl, SqT.of Z.pl.tp, rfl, _, rfl, _, rfl, r, xs, ys, (cz : Int), rfl, Z.row, yn, by omega, q0, _, _, _, rfl, rfl, SqL.of Z.pl.ls, ix_es hin.1 he, ee.1, _, _, _, rfl, rfl, SqT.of (Z.pl.ed ee (List.mem_of_getElem? he)), rfl, ?_⟩
                        refine ⟨four 1 (by decide), fun l1 hl1 => ?_⟩
                        have s13 := same_upd (o := .lst [.int ee.2.1]) hl1
                        have e13 : upd H12 l1 (.lst [.int ee.2.1]) l1 = some (.lst [.int ee.2.1]) := upd_same
                        generalize upd H12 l1 (.lst [.int ee.2.1]) = H13 at *
                        refine ⟨l1, 2, _, rfl, rfl, e13, by decide, by decide, four 2 (by decide), fun l2 hl2 => ?_⟩
                        have s14 := same_upd (o := .lst (List.replicate (2 : Int).toNat [V.int ee.2.1]).flatten) hl2
                        have e14 : upd H13 l2 (.lst (List.replicate (2 : Int).toNat [V.int ee.2.1]).flatten) l2 = some (.lst ([sv, sv].map V.int)) := by
                          rw [upd_same, ← hsv, eqp, ← he2]
                          rfl
                        have sA := s13.trans s14
                        refine ⟨_, _, .lst (SqL.of (sA _ _ eD)) (dp_ints _), .lst (SqL.of e14) (dp_ints _), sh_lst _, sh_lst _, _, rfl, if_f ?_ ⟨_, _, _, _, _, _, _, rfl, Z.same sA⟩⟩
                        show (!PyData.eqv (.list ([sv, sv].map PyData.int)) (.list ([sv, sv].map PyData.int))) = false
                        rw [eq_lst]
                        rfl
                    · clear Z R4
                      rintro σ H11 ⟨v2, v8, v9, v10, v11, v12, v13, rfl, Z⟩
                      obtain ⟨low, hlow⟩ : ∃ low : Int, -1 - (cz : Int) = low := ⟨_, rfl⟩
                      have lneg : low < 0 := by omega
                      have lbig := small low (by omega) (by omega)
                      have tu : ∀ (o : List V) (ps : Array Value), HO.tup o ≠ .tbl ps := fun o ps z => by cases z
                      have li : ∀ (o : List V) (ps : Array Value), HO.lst o ≠ .tbl ps := fun o ps z => by cases z
                      refine ⟨fun σ H' => ∃ v2 v8 v9 v10 v11 v13 : Option V, σ = [some (.ref a), some (.ref b), v2, some (.ref p), some (.ref g), some (.ref r), some (.int (cz : Int)), some (.int (dz : Int)), v8, v9, v10, v11, some (.int low), v13] ∧ Tn C b l TT ns p q0 g r n ts us xs ys H', ?_, ?_⟩
                      · refine ⟨1, rfl, _, rfl, _, _, rfl, rfl, v2, v8, v9, v10, v11, v13, ?_, Z⟩
                        rw [← hlow]
                        rfl
                      clear Z
                      rintro σ H12 ⟨v2, v8, v9, v10, v11, v13, rfl, Z⟩
                      -- drop with a negative count
                      refine ⟨Z.tab, fun fa da ca Ha xa ta Da ea => ?_⟩
                      have Z := Z.extN xa ta
                      refine tried_drop EC ta ea Da rfl rfl Z.row yn (by omega) (by omega) lbig lneg fun w1 Hb xb tb eb => ?_
                      have Z := Z.extN xb tb
                      -- a state at a negative place
                      refine ⟨Z.tab, fun fb db cb Hc xc tc Dc ec => ?_⟩
                      have Z := Z.extN xc tc
                      have eb := xc _ _ eb (tu _)
                      refine tried_st EO tc ec Dc rfl rfl rfl Z.gr Z.row yn (by omega) (by omega) lbig lneg RO fun w2 Hd xd td ed => ?_
                      have Z := Z.extN xd td
                      have eb := xd _ _ eb (tu _)
                      refine ⟨four 2 (by decide), fun W hW => ?_⟩
                      have nb := Z.bag.ne_new hW
                      have nl := (ne_of_none Z.bag.sc hW).symm
                      have nq := (ne_of_none Z.pl.ls hW).symm
                      have sW := same_upd (o := .lst [.ref w1, .ref w2]) hW
                      have eW : upd Hd W (.lst [.ref w1, .ref w2]) W = some (.lst [.ref w1, .ref w2]) := upd_same
                      have Z := Z.same sW
                      have eb := sW _ _ eb
                      have ed := sW _ _ ed
                      generalize upd Hd W (.lst [.ref w1, .ref w2]) = He at *
                      -- a state of a pair without a cycle
                      refine ⟨_, rfl, .inl ⟨rfl, _, SqL.of eW⟩, Z.tab, fun fc dc cc Hf xf tf Df ef => ?_⟩
                      have Z := Z.extN xf tf
                      have eb := xf _ _ eb (tu _)
                      have ed := xf _ _ ed (tu _)
                      have eW := xf _ _ eW (li _)
                      refine tried_st0 ER tf ef Df rfl rfl rfl Z.gr Z.row (by omega) lbig fun w3 Hg xg tg eg => ?_
                      have Z := Z.extN xg tg
                      have eb := xg _ _ eb (tu _)
                      have ed := xg _ _ ed (tu _)
                      have eW := xg _ _ eW (li _)
                      refine ⟨W, _, _, rfl, rfl, eW, (by show 2 < sizeLine; decide), ?_⟩
                      have off : ∀ {c : Addr} {xs : List V} {o : HO}, Hg c = some (.tup xs) → upd Hg W o c = some (.tup xs) := fun {c xs o} hc => by
                        rw [upd_ne (fun z => by rw [z, eW] at hc; cases hc)]
                        exact hc
                      have eb := off (o := .lst ([.ref w1, .ref w2] ++ [.ref w3])) eb
                      have ed := off (o := .lst ([.ref w1, .ref w2] ++ [.ref w3])) ed
                      have eg := off (o := .lst ([.ref w1, .ref w2] ++ [.ref w3])) eg
                      have eN : upd Hg W (.lst ([.ref w1, .ref w2] ++ [.ref w3])) W = some (.lst [.ref w1, .ref w2, .ref w3]) := upd_same
                      have Z := Z.off (o := .lst ([.ref w1, .ref w2] ++ [.ref w3])) eW nb nl nq
                      generalize upd Hg W (.lst ([.ref w1, .ref w2] ++ [.ref w3])) = Hh at *
                      refine ⟨_, rfl, _, rfl, four 2 (by decide), fun t1 ht1 => ?_⟩
                      have s1 := same_upd (o := .tup [.str "invalidcount", .int low]) ht1
                      have f1 : upd Hh t1 (.tup [.str "invalidcount", .int low]) t1 = some (.tup [.str "invalidcount", .int low]) := upd_same
                      generalize upd Hh t1 (.tup [.str "invalidcount", .int low]) = Hi at *
                      refine ⟨_, rfl, four 2 (by decide), fun t2 ht2 => ?_⟩
                      have s2 := same_upd (o := .tup [.str "outofrange", .int low]) ht2
                      have f2 : upd Hi t2 (.tup [.str "outofrange", .int low]) t2 = some (.tup [.str "outofrange", .int low]) := upd_same
                      generalize upd Hi t2 (.tup [.str "outofrange", .int low]) = Hj at *
                      refine ⟨1, rfl, four 2 (by decide), fun t3 ht3 => ?_⟩
                      have s3 := same_upd (o := .tup [.str "invalidrow", (fun i : Int => V.int (-i)) 1]) ht3
                      have f3 : upd Hj t3 (.tup [.str "invalidrow", (fun i : Int => V.int (-i)) 1]) t3 = some (.tup [.str "invalidrow", .int (-1)]) := upd_same
                      generalize upd Hj t3 (.tup [.str "invalidrow", (fun i : Int => V.int (-i)) 1]) = Hk at *
                      refine ⟨four 3 (by decide), fun l4 hl4 => ?_⟩
                      have s4 := same_upd (o := .lst [.ref t1, .ref t2, .ref t3]) hl4
                      have g4 : upd Hk l4 (.lst [.ref t1, .ref t2, .ref t3]) l4 = some (.lst [.ref t1, .ref t2, .ref t3]) := upd_same
                      generalize upd Hk l4 (.lst [.ref t1, .ref t2, .ref t3]) = Hl at *
                      have sC := s3.trans s4
                      have sB := s2.trans sC
                      have sA := s1.trans sB
                      refine ⟨.list [toldD "invalidcount" low, toldD "outofrange" low, toldD "invalidrow" (-1)], .list [toldD "invalidcount" low, toldD "outofrange" low, toldD "invalidrow" (-1)], .lst (SqL.of (sA _ _ eN)) (.cons (.tup (SqT.of (sA _ _ eb)) (.cons (.str _) (.cons (.int _) .nil))) (.cons (.tup (SqT.of (sA _ _ ed)) (.cons (.str _) (.cons (.int _) .nil))) (.cons (.tup (SqT.of (sA _ _ eg)) (.cons (.str _) (.cons (.int _) .nil))) .nil))),
                        .lst (SqL.of g4) (.cons (.tup (SqT.of (sB _ _ f1)) (.cons (.str _) (.cons (.int _) .nil))) (.cons (.tup (SqT.of (sC _ _ f2)) (.cons (.str _) (.cons (.int _) .nil))) (.cons (.tup (SqT.of (s4 _ _ f3)) (.cons (.str _) (.cons (.int _) .nil))) .nil))), sh_told _ _ _, sh_told _ _ _, _, rfl, if_f (by rw [eq_told]; rfl) ?_⟩
                      exact ⟨_, _, _, _, _, _, _, _, _, _, _, _, rfl, (Z.same sA).bag, (Z.same sA).tab⟩
    · rintro σ H2 ⟨v2, v3, v4, v5, v6, v7, v8, v9, v10, v11, v12, v13, rfl, B2, tb2⟩
      refine ⟨four 2 (by decide), fun a1 h1 => ?_⟩
      have s1 := same_upd (o := .tup [.int 0, .int 1]) h1
      have e1 : TI (upd H2 a1 (.tup [.int 0, .int 1])) a1 [0, 1] := upd_same
      generalize upd H2 a1 (.tup [.int 0, .int 1]) = H3 at *
      refine ⟨four 1 (by decide), fun a2 h2 => ?_⟩
      have s2 := same_upd (o := .tup [.int 2]) h2
      have e2 : TI (upd H3 a2 (.tup [.int 2])) a2 [2] := upd_same
      generalize upd H3 a2 (.tup [.int 2]) = H4 at *
      refine ⟨four 2 (by decide), fun a3 h3 => ?_⟩
      have s3 := same_upd (o := .tup [.ref a1, .ref a2]) h3
      have e3 : upd H4 a3 (.tup [.ref a1, .ref a2]) a3 = some (.tup [.ref a1, .ref a2]) := upd_same
      generalize upd H4 a3 (.tup [.ref a1, .ref a2]) = H5 at *
      refine ⟨rfl, rfl, a3, [0, 1], [2], 0, rfl, ⟨a1, a2, e3, (e1.same s2).same s3, e2.same s3⟩, by simp, by decide, by decide, by decide +kernel, fun z => absurd z (by decide), fun _ fo H6 m pp s6 nf _ _ ra => ?_⟩
      obtain ⟨rfl, rfl⟩ := nf_012.uniq nf
      have ra : RowAt H6 fo [0, 1] [2] := ra
      refine ⟨four 2 (by decide), fun b1 k1 => ?_⟩
      have r1 := same_upd (o := .tup [.int 0, .int 1]) k1
      have d1 : TI (upd H6 b1 (.tup [.int 0, .int 1])) b1 [0, 1] := upd_same
      generalize upd H6 b1 (.tup [.int 0, .int 1]) = H7 at *
      refine ⟨four 1 (by decide), fun b2 k2 => ?_⟩
      have r2 := same_upd (o := .tup [.int 2]) k2
      have d2 : TI (upd H7 b2 (.tup [.int 2])) b2 [2] := upd_same
      generalize upd H7 b2 (.tup [.int 2]) = H8 at *
      refine ⟨four 2 (by decide), fun b3 k3 => ?_⟩
      have r3 := same_upd (o := .tup [.ref b1, .ref b2]) k3
      have d3 : upd H8 b3 (.tup [.ref b1, .ref b2]) b3 = some (.tup [.ref b1, .ref b2]) := upd_same
      generalize upd H8 b3 (.tup [.ref b1, .ref b2]) = H9 at *
      exact ⟨_, _, rfl, lk_row (k := 2) (((ra.same r1).same r2).same r3) ⟨b1, b2, d3, (d1.same r2).same r3, d2.same r3⟩ (by decide) (by decide), fun H' _ => q H'⟩
end
end Lw

set_option Elab.async false
set_option linter.all false
set_option maxRecDepth 100000
namespace Lw
open PySem L2
theorem exm_own {K : PySem.W.Frag} {C S : Addr} (h1 : PySem.W.subIn K (.ref S) (.type "BaseException") = some true) (h2 : PySem.W.isClsIn K S = true) (h3 : PySem.W.typeIn K (.ref S) = some (.type "type")) (h4 : PySem.W.subIn K (.ref C) (.ref S) = some true) :
    PySem.W.exmOne K (.ref C) (.ref S) = some true := by
  have e1 : (PySem.W.subIn K (.ref S) (.type "BaseException") == some true) = true := by rw [h1] <;> rfl
  have e2 : ((PySem.W.clsIn K S).isSome && PySem.W.typeIn K (.ref S) == some (.type "type")) = true := by
    have h2' : (PySem.W.clsIn K S).isSome = true := h2
    rw [h2', h3] <;> rfl
  show (if (PySem.W.subIn K (.ref S) (.type "BaseException") == some true) = true then (if ((PySem.W.clsIn K S).isSome && PySem.W.typeIn K (.ref S) == some (.type "type")) = true then PySem.W.subIn K (.ref C) (.ref S) else none) else none) = some true
  rw [if_pos e1, if_pos e2]
  exact h4
theorem hd_at {K : PySem.W.Frag} {c P : Addr} (e : PySem.W.codeHdIn K c P = true) : ∃ (e : Value) (dd : Option Addr) (vs : Array Value) (sl : Array (Option Value)), K.lookup c = some ⟨e, dd, .fields vs, sl⟩ ∧ vs[11]? = some (.ref P) := by
  unfold PySem.W.codeHdIn at e
  split at e
  · rename_i vs _ hk
    simp only [Bool.and_eq_true] at e
    obtain ⟨⟨⟨⟨⟨e1, _⟩, _⟩, _⟩, _⟩, _⟩ := e
    split at e1
    · rename_i P' h11
      have hP : P' = P := beq_iff_eq.mp e1
      subst hP
      exact ⟨_, _, _, _, hk, h11⟩
    · cases e1
  · cases e
theorem kit_no {K : PySem.W.Frag} {C : Addr} {T : String} (h1 : PySem.W.isClsIn K C = true) (h2 : PySem.W.typeIn K (.ref C) = some (.type "type")) (h3 : PySem.W.subIn K (.type T) (.ref C) = some false) : PySem.W.kitOne K (.type T) (.ref C) = some false := by
  have e1 : ((PySem.W.clsIn K C).isSome && PySem.W.typeIn K (.ref C) == some (.type "type")) = true := by
    have h1' : (PySem.W.clsIn K C).isSome = true := h1
    rw [h1', h2]
    rfl
  show (if (Value.type T == Value.ref C) = true then some true else if ((PySem.W.clsIn K C).isSome && PySem.W.typeIn K (.ref C) == some (.type "type")) = true then PySem.W.subIn K (.type T) (.ref C) else none) = some false
  rw [if_neg (show ¬ ((Value.type T == Value.ref C) = true) from Bool.false_ne_true), if_pos e1]
  exact h3
theorem kit_me {K : PySem.W.Frag} {C : Addr} : PySem.W.kitOne K (.ref C) (.ref C) = some true := by
  unfold PySem.W.kitOne
  simp
/-- the law's end, where the tables of some defs are written while it runs -/
theorem walk_tabs {l : PySem.W.OpenLaw} {n k : Nat} {q : Program} {loose : List Str} {XP : (Str → Option Value) → Heap → Prop} {YP : World → Heap → Prop} {d : DefRec} {K : Params → PySem.W.Frag} {x : Str} (most : l.most = some n) (short : n ≤ sizeLine) (nodf : d.params.defaults = []) (room : Room k callerA)
    (isIn : ∀ w h, YP w h → (K w.params).In h)
    (law : ∀ w mg fa h, YP w h → (K w.params).In h → h.Ns mainGlobals mg → mg d.name = some (.ref fa) → (∀ e ∈ PyProof.Rows.recsOf q, ∀ a, mg e.name = some (.ref a) → LamX.OwnTab (K w.params) a h) → LamX.LawAtS l w (K w.params) CX0 k n x mg fa h) :
    PySem.W.WalkO q loose XP YP l.row.toRowW d [] (fun f vs => PySem.call f vs) := by
  refine Att.attach_callB most nodf ?_
  intro w s0 s1 mg mb fa o pm cd doc a vs ns G Y _ _ _ named obj intz len bits hg
  have KX := isIn w _ Y
  have own : ∀ e ∈ PyProof.Rows.recsOf q, ∀ b, mg e.name = some (.ref b) → LamX.OwnTab (K w.params) b s1.heap := by
    intro e he b hb c P o1 fd1 v1 dd us sl look1 dat1 cod1 look2 at11
    obtain ⟨b', o2, fd2, c2, P2, m2, g2, dat2, cod2, _, ⟨oc, uc, g3, _, dat3, p3⟩, tab⟩ := G.T.tab e he
    have eb : b' = b := by
      rw [hb] at m2
      injection m2 with m2
      injection m2 with m2
      exact m2.symm
    subst eb
    have eo : o2 = o1 := Option.some.inj (g2.symm.trans (KX _ _ look1))
    subst eo
    have ef : fd2 = fd1 := by
      rw [dat1] at dat2
      injection dat2 with dat2
      exact dat2.symm
    subst ef
    have ec : c2 = c := by
      rw [cod1] at cod2
      injection cod2 with cod2
      exact cod2.symm
    subst ec
    have eoc := Option.some.inj (g3.symm.trans (KX _ _ look2))
    subst eoc
    injection dat3 with dat3
    subst dat3
    rw [at11] at p3
    injection p3 with p3
    injection p3 with p3
    subst p3
    exact tab
  obtain ⟨fd, cs, sp, e1, e2, e3, e4, e5, e6⟩ := law w mg fa _ Y KX G.T.g named own
  exact LamX.law_callTs KX G.T.g G.T.b G.T.builtins G.T.nolimit hg e1 e2 e3 G.T.bmain obj intz (Nat.le_trans len short) room e6 e4 (fun H hH hS => e5 H a ns len bits hH hS) fun _ _ _ z => z
theorem rec_of {q : Program} {x : Str} (h : ((PyProof.Rows.recsOf q).any fun e => e.name == x) = true) : ∃ e ∈ PyProof.Rows.recsOf q, e.name = x := by
  obtain ⟨e, he, n⟩ := List.any_eq_true.mp h
  exact ⟨e, he, beq_iff_eq.mp n⟩
set_option maxHeartbeats 4000000 in
theorem all_mk {l : PySem.W.OpenLaw} {w : World} {K : PySem.W.Frag} {h : Heap} {mg : Str → Option Value} {fa C f_bag f_pull f_of f_plan f_like f_field cF Pf f_tried CW TJ f_win CInvalidRow f_InvalidRow COutOfRange f_OutOfRange CInvalidCount f_InvalidCount f_check f_init f_graph f_eds f_edge f_fb f_ck f_tu f_sh f_nr f_ea f_st f_drop D_drop f_aft f_nor f_led f_lfi f_lro f_unr f_law cW Pt : Addr} (X : K.In h) (G : h.Ns mainGlobals mg) (hfa : mg "law" = some (.ref fa)) (own : LamX.OwnTab K fa h) (ownF : ∀ b, mg "_law_field" = some (.ref b) → LamX.OwnTab K b h)
    {t8 t24 : Tok}
    {od_bag an_bag : Option Addr} {sl_bag : Array (Option Value)} {oc_bag kV_bag dc_bag pm_bag cd_bag ct_bag : Value}
    {od_pull an_pull : Option Addr} {sl_pull : Array (Option Value)} {oc_pull kV_pull dc_pull pm_pull cd_pull ct_pull : Value}
    {od_of an_of : Option Addr} {sl_of : Array (Option Value)} {oc_of kV_of dc_of pm_of cd_of ct_of : Value}
    {od_plan an_plan : Option Addr} {sl_plan : Array (Option Value)} {oc_plan kV_plan dc_plan pm_plan cd_plan ct_plan : Value}
    {od_like an_like : Option Addr} {sl_like : Array (Option Value)} {oc_like kV_like dc_like pm_like cd_like ct_like : Value}
    {od_field an_field : Option Addr} {sl_field : Array (Option Value)} {oc_field kV_field dc_field pm_field  ct_field : Value}
    {od_tried an_tried : Option Addr} {sl_tried : Array (Option Value)} {oc_tried kV_tried dc_tried pm_tried cd_tried ct_tried : Value}
    {od_TJ : Option Addr} {sl_TJ : Array (Option Value)} {oc_TJ : Value} {n_TJ : Nat} {tj1 tj2 : Tok}
    {od_win an_win : Option Addr} {sl_win : Array (Option Value)} {oc_win kV_win dc_win pm_win cd_win ct_win : Value}
    {nm_InvalidRow qc_InvalidRow : Str} {N_InvalidRow : Addr} {bs_InvalidRow bm_InvalidRow : List Value} {sn_InvalidRow : List Str} {su_InvalidRow : List Value} {ab_InvalidRow : Bool} {co_InvalidRow : Option Bool} {dd_InvalidRow : Option Addr} {m0_InvalidRow m1_InvalidRow m2_InvalidRow m3_InvalidRow m5_InvalidRow : Option Value}
    {od_InvalidRow an_InvalidRow : Option Addr} {sl_InvalidRow : Array (Option Value)} {oc_InvalidRow kV_InvalidRow dc_InvalidRow pm_InvalidRow cd_InvalidRow ct_InvalidRow : Value}
    {nm_OutOfRange qc_OutOfRange : Str} {N_OutOfRange : Addr} {bs_OutOfRange bm_OutOfRange : List Value} {sn_OutOfRange : List Str} {su_OutOfRange : List Value} {ab_OutOfRange : Bool} {co_OutOfRange : Option Bool} {dd_OutOfRange : Option Addr} {m0_OutOfRange m1_OutOfRange m2_OutOfRange m3_OutOfRange m5_OutOfRange : Option Value}
    {od_OutOfRange an_OutOfRange : Option Addr} {sl_OutOfRange : Array (Option Value)} {oc_OutOfRange kV_OutOfRange dc_OutOfRange pm_OutOfRange cd_OutOfRange ct_OutOfRange : Value}
    {nm_InvalidCount qc_InvalidCount : Str} {N_InvalidCount : Addr} {bs_InvalidCount bm_InvalidCount : List Value} {sn_InvalidCount : List Str} {su_InvalidCount : List Value} {ab_InvalidCount : Bool} {co_InvalidCount : Option Bool} {dd_InvalidCount : Option Addr} {m0_InvalidCount m1_InvalidCount m2_InvalidCount m3_InvalidCount m5_InvalidCount : Option Value}
    {od_InvalidCount an_InvalidCount : Option Addr} {sl_InvalidCount : Array (Option Value)} {oc_InvalidCount kV_InvalidCount dc_InvalidCount pm_InvalidCount cd_InvalidCount ct_InvalidCount : Value}
    {od_check an_check : Option Addr} {sl_check : Array (Option Value)} {oc_check kV_check dc_check pm_check cd_check ct_check : Value}
    {od_init an_init : Option Addr} {sl_init : Array (Option Value)} {oc_init kV_init dc_init pm_init cd_init ct_init : Value}
    {od_graph an_graph : Option Addr} {sl_graph : Array (Option Value)} {oc_graph kV_graph dc_graph pm_graph cd_graph ct_graph : Value}
    {od_eds an_eds : Option Addr} {sl_eds : Array (Option Value)} {oc_eds kV_eds dc_eds pm_eds cd_eds ct_eds : Value}
    {od_edge an_edge : Option Addr} {sl_edge : Array (Option Value)} {oc_edge kV_edge dc_edge pm_edge cd_edge ct_edge : Value}
    {od_fb an_fb : Option Addr} {sl_fb : Array (Option Value)} {oc_fb kV_fb dc_fb pm_fb cd_fb ct_fb : Value}
    {od_ck an_ck : Option Addr} {sl_ck : Array (Option Value)} {oc_ck kV_ck dc_ck pm_ck cd_ck ct_ck : Value}
    {od_tu an_tu : Option Addr} {sl_tu : Array (Option Value)} {oc_tu kV_tu dc_tu pm_tu cd_tu ct_tu : Value}
    {od_sh an_sh : Option Addr} {sl_sh : Array (Option Value)} {oc_sh kV_sh dc_sh pm_sh cd_sh ct_sh : Value}
    {od_nr an_nr : Option Addr} {sl_nr : Array (Option Value)} {oc_nr kV_nr dc_nr pm_nr cd_nr ct_nr : Value}
    {od_ea an_ea : Option Addr} {sl_ea : Array (Option Value)} {oc_ea kV_ea dc_ea pm_ea cd_ea ct_ea : Value}
    {od_st an_st : Option Addr} {sl_st : Array (Option Value)} {oc_st kV_st dc_st pm_st cd_st ct_st : Value}
    {od_drop an_drop : Option Addr} {sl_drop : Array (Option Value)} {oc_drop dc_drop pm_drop cd_drop ct_drop : Value} {tk_drop : Tok}
    {od_aft an_aft : Option Addr} {sl_aft : Array (Option Value)} {oc_aft kV_aft dc_aft pm_aft cd_aft ct_aft : Value}
    {od_nor an_nor : Option Addr} {sl_nor : Array (Option Value)} {oc_nor kV_nor dc_nor pm_nor cd_nor ct_nor : Value}
    {od_led an_led : Option Addr} {sl_led : Array (Option Value)} {oc_led kV_led dc_led pm_led cd_led ct_led : Value}
    {od_lfi an_lfi : Option Addr} {sl_lfi : Array (Option Value)} {oc_lfi kV_lfi dc_lfi pm_lfi cd_lfi ct_lfi : Value}
    {od_lro an_lro : Option Addr} {sl_lro : Array (Option Value)} {oc_lro kV_lro dc_lro pm_lro cd_lro ct_lro : Value}
    {od_unr an_unr : Option Addr} {sl_unr : Array (Option Value)} {oc_unr kV_unr dc_unr pm_unr cd_unr ct_unr : Value}
    {od_law an_law : Option Addr} {sl_law : Array (Option Value)} {oc_law kV_law dc_law pm_law  ct_law : Value}
    (z_len : PySem.W.nsIn K mainGlobals "len" = some none)
    (z_list : PySem.W.nsIn K mainGlobals "list" = some none)
    (z_tuple : PySem.W.nsIn K mainGlobals "tuple" = some none)
    (z_bool : PySem.W.nsIn K mainGlobals "bool" = some none)
    (z_int : PySem.W.nsIn K mainGlobals "int" = some none)
    (z_str : PySem.W.nsIn K mainGlobals "str" = some none)
    (z_isinstance : PySem.W.nsIn K mainGlobals "isinstance" = some none)
    (z_all : PySem.W.nsIn K mainGlobals "all" = some none)
    (z_zip : PySem.W.nsIn K mainGlobals "zip" = some none)
    (z_range : PySem.W.nsIn K mainGlobals "range" = some none)
    (z_ValueError : PySem.W.nsIn K mainGlobals "ValueError" = some none)
    (z_enumerate : PySem.W.nsIn K mainGlobals "enumerate" = some none)
    (z_max : PySem.W.nsIn K mainGlobals "max" = some none)
    (aC : PySem.W.nsIn K mainGlobals "Graph" = some (some (.ref C)))
    (gpg : PySem.W.plainGet K C Str.empty = true)
    (ghd : PySem.W.hasDictIn K C = true)
    (gpo : PySem.W.plainOver K C = true)
    (gsa : PySem.W.findIn K (.ref C) "__setattr__" = some (some (.builtin "object.__setattr__")))
    (gmk : PySem.W.makesIn K C = true)
    (gkc : PySem.W.keepIn K (.ref C) = true)
    (gnS : PySem.W.findIn K (.ref C) "state_count" = some none)
    (gnE : PySem.W.findIn K (.ref C) "edge_pairs" = some none)
    (grd : PySem.W.readsIn K C (.type "type") = true)
    (gga : PySem.W.specialIn K (.ref C) "__getattribute__" = some (some (.builtin "type.__getattribute__")))
    (gv8 : PySem.W.findCls K (.ref C) (.type "type") "MAX_STATES" = some (.val (.int 8 t8)))
    (gv24 : PySem.W.findCls K (.ref C) (.type "type") "MAX_EDGES" = some (.val (.int 24 t24)))
    (a_bag : PySem.W.nsIn K mainGlobals "_law_bag" = some (some (.ref f_bag)))
    (l_bag : K.lookup f_bag = some ⟨oc_bag, od_bag, .func (PySem.W.fnOf "_law_bag" "_law_bag" (defArgs sBag) (defBody sBag) (defScope sBag) .none kV_bag dc_bag pm_bag an_bag cd_bag ct_bag), sl_bag⟩)
    (c_bag : PySem.W.codeIn K cd_bag "_law_bag" = true)
    (k_bag : PySem.W.keepIn K (.ref f_bag) = true)
    (a_pull : PySem.W.nsIn K mainGlobals "_law_pull" = some (some (.ref f_pull)))
    (l_pull : K.lookup f_pull = some ⟨oc_pull, od_pull, .func (PySem.W.fnOf "_law_pull" "_law_pull" (defArgs sPull) (defBody sPull) (defScope sPull) .none kV_pull dc_pull pm_pull an_pull cd_pull ct_pull), sl_pull⟩)
    (c_pull : PySem.W.codeIn K cd_pull "_law_pull" = true)
    (k_pull : PySem.W.keepIn K (.ref f_pull) = true)
    (a_of : PySem.W.nsIn K mainGlobals "_law_of" = some (some (.ref f_of)))
    (l_of : K.lookup f_of = some ⟨oc_of, od_of, .func (PySem.W.fnOf "_law_of" "_law_of" (defArgs sOf) (defBody sOf) (defScope sOf) .none kV_of dc_of pm_of an_of cd_of ct_of), sl_of⟩)
    (c_of : PySem.W.codeIn K cd_of "_law_of" = true)
    (k_of : PySem.W.keepIn K (.ref f_of) = true)
    (a_plan : PySem.W.nsIn K mainGlobals "_law_plan" = some (some (.ref f_plan)))
    (l_plan : K.lookup f_plan = some ⟨oc_plan, od_plan, .func (PySem.W.fnOf "_law_plan" "_law_plan" (defArgs sPlan) (defBody sPlan) (defScope sPlan) .none kV_plan dc_plan pm_plan an_plan cd_plan ct_plan), sl_plan⟩)
    (c_plan : PySem.W.codeIn K cd_plan "_law_plan" = true)
    (k_plan : PySem.W.keepIn K (.ref f_plan) = true)
    (a_like : PySem.W.nsIn K mainGlobals "_law_like" = some (some (.ref f_like)))
    (l_like : K.lookup f_like = some ⟨oc_like, od_like, .func (PySem.W.fnOf "_law_like" "_law_like" (defArgs sLike) (defBody sLike) (defScope sLike) .none kV_like dc_like pm_like an_like cd_like ct_like), sl_like⟩)
    (c_like : PySem.W.codeIn K cd_like "_law_like" = true)
    (k_like : PySem.W.keepIn K (.ref f_like) = true)
    (a_field : PySem.W.nsIn K mainGlobals "_law_field" = some (some (.ref f_field)))
    (l_field : K.lookup f_field = some ⟨oc_field, od_field, .func (PySem.W.fnOf "_law_field" "_law_field" (defArgs sField) (defBody sField) (defScope sField) .none kV_field dc_field pm_field an_field (.ref cF) ct_field), sl_field⟩)
    (c_field : PySem.W.codeIn K (.ref cF) "_law_field" = true)
    (k_field : PySem.W.keepIn K (.ref f_field) = true)
    (tF : PySem.W.tabIn K "_law_field" = some (cF, Pf))
    (hF : PySem.W.codeHdIn K cF Pf = true)
    (nF : K.lookup Pf = none)
    (a_tried : PySem.W.nsIn K mainGlobals "_law_tried" = some (some (.ref f_tried)))
    (l_tried : K.lookup f_tried = some ⟨oc_tried, od_tried, .func (PySem.W.fnOf "_law_tried" "_law_tried" (defArgs sTried) (defBody sTried) (defScope sTried) .none kV_tried dc_tried pm_tried an_tried cd_tried ct_tried), sl_tried⟩)
    (c_tried : PySem.W.codeIn K cd_tried "_law_tried" = true)
    (k_tried : PySem.W.keepIn K (.ref f_tried) = true)
    (aX : PySem.W.nsIn K mainGlobals "WindowError" = some (some (.ref CW)))
    (eX : PySem.W.subIn K (.ref CW) (.type "BaseException") = some true)
    (tX : PySem.W.typeIn K (.ref CW) = some (.type "type"))
    (iX : PySem.W.isClsIn K CW = true)
    (a_win : PySem.W.findCls K (.ref CW) (.type "type") "__init__" = some (.val (.ref f_win)))
    (l_win : K.lookup f_win = some ⟨oc_win, od_win, .func (PySem.W.fnOf "__init__" "WindowError.__init__" (defArgs sWin) (defBody sWin) (defScope sWin) (.ref TJ) kV_win dc_win pm_win an_win cd_win ct_win), sl_win⟩)
    (c_win : PySem.W.codeIn K cd_win "WindowError.__init__" = true)
    (k_win : PySem.W.keepIn K (.ref f_win) = true)
    (lTJ : K.lookup TJ = some ⟨oc_TJ, od_TJ, .seq #[.str "windowerror" tj1, .str "" tj2] n_TJ, sl_TJ⟩)
    (rdX : PySem.W.readsIn K CW (.type "type") = true)
    (gtX : PySem.W.specialIn K (.ref CW) "__getattribute__" = some (some (.builtin "type.__getattribute__")))
    (vV : PySem.W.findCls K (.type "ValueError") (.type "type") "__init__" = some (.val (.builtin "ValueError.__init__")))
    (aCInvalidRow : PySem.W.nsIn K mainGlobals "InvalidRow" = some (some (.ref CInvalidRow)))
    (xLInvalidRow : K.lookup CInvalidRow = some (excClassObj nm_InvalidRow qc_InvalidRow CInvalidRow N_InvalidRow bs_InvalidRow bm_InvalidRow true sn_InvalidRow su_InvalidRow ab_InvalidRow co_InvalidRow dd_InvalidRow m0_InvalidRow m1_InvalidRow m2_InvalidRow m3_InvalidRow m5_InvalidRow "ValueError.__new__"))
    (rVInvalidRow : PySem.HandSPX.refsVE bm_InvalidRow = true)
    (saInvalidRow : PySem.W.findIn K (.ref CInvalidRow) "__setattr__" = some (some (.builtin "object.__setattr__")))
    (gaInvalidRow : PySem.W.findIn K (.ref CInvalidRow) "__getattribute__" = some (some (.builtin "BaseException.__getattribute__")))
    (ggInvalidRow : PySem.W.findIn K (.ref CInvalidRow) "__getattr__" = some none)
    (nwInvalidRow : PySem.W.findIn K (.ref CInvalidRow) "word" = some none)
    (nnInvalidRow : PySem.W.findIn K (.ref CInvalidRow) "place" = some none)
    (kCInvalidRow : PySem.W.keepIn K (.ref CInvalidRow) = true)
    (eCInvalidRow : PySem.W.subIn K (.ref CInvalidRow) (.type "BaseException") = some true)
    (tCInvalidRow : PySem.W.typeIn K (.ref CInvalidRow) = some (.type "type"))
    (hCInvalidRow : PySem.W.hasDictIn K CInvalidRow = true)
    (sXInvalidRow : PySem.W.subIn K (.ref CInvalidRow) (.ref CW) = some true)
    (a_InvalidRow : PySem.W.findIn K (.ref CInvalidRow) "__init__" = some (some (.ref f_InvalidRow)))
    (tIInvalidRow : PySem.W.typeIn K (.ref f_InvalidRow) = some (.type "function"))
    (l_InvalidRow : K.lookup f_InvalidRow = some ⟨oc_InvalidRow, od_InvalidRow, .func (PySem.W.fnOf "__init__" "InvalidRow.__init__" (defArgs sInvalidRow) (defBody sInvalidRow) (defScope sInvalidRow) .none kV_InvalidRow dc_InvalidRow pm_InvalidRow an_InvalidRow cd_InvalidRow ct_InvalidRow), sl_InvalidRow⟩)
    (c_InvalidRow : PySem.W.codeIn K cd_InvalidRow "InvalidRow.__init__" = true)
    (k_InvalidRow : PySem.W.keepIn K (.ref f_InvalidRow) = true)
    (aCOutOfRange : PySem.W.nsIn K mainGlobals "OutOfRange" = some (some (.ref COutOfRange)))
    (xLOutOfRange : K.lookup COutOfRange = some (excClassObj nm_OutOfRange qc_OutOfRange COutOfRange N_OutOfRange bs_OutOfRange bm_OutOfRange true sn_OutOfRange su_OutOfRange ab_OutOfRange co_OutOfRange dd_OutOfRange m0_OutOfRange m1_OutOfRange m2_OutOfRange m3_OutOfRange m5_OutOfRange "ValueError.__new__"))
    (rVOutOfRange : PySem.HandSPX.refsVE bm_OutOfRange = true)
    (saOutOfRange : PySem.W.findIn K (.ref COutOfRange) "__setattr__" = some (some (.builtin "object.__setattr__")))
    (gaOutOfRange : PySem.W.findIn K (.ref COutOfRange) "__getattribute__" = some (some (.builtin "BaseException.__getattribute__")))
    (ggOutOfRange : PySem.W.findIn K (.ref COutOfRange) "__getattr__" = some none)
    (nwOutOfRange : PySem.W.findIn K (.ref COutOfRange) "word" = some none)
    (nnOutOfRange : PySem.W.findIn K (.ref COutOfRange) "number" = some none)
    (kCOutOfRange : PySem.W.keepIn K (.ref COutOfRange) = true)
    (eCOutOfRange : PySem.W.subIn K (.ref COutOfRange) (.type "BaseException") = some true)
    (tCOutOfRange : PySem.W.typeIn K (.ref COutOfRange) = some (.type "type"))
    (hCOutOfRange : PySem.W.hasDictIn K COutOfRange = true)
    (sXOutOfRange : PySem.W.subIn K (.ref COutOfRange) (.ref CW) = some true)
    (a_OutOfRange : PySem.W.findIn K (.ref COutOfRange) "__init__" = some (some (.ref f_OutOfRange)))
    (tIOutOfRange : PySem.W.typeIn K (.ref f_OutOfRange) = some (.type "function"))
    (l_OutOfRange : K.lookup f_OutOfRange = some ⟨oc_OutOfRange, od_OutOfRange, .func (PySem.W.fnOf "__init__" "OutOfRange.__init__" (defArgs sOutOfRange) (defBody sOutOfRange) (defScope sOutOfRange) .none kV_OutOfRange dc_OutOfRange pm_OutOfRange an_OutOfRange cd_OutOfRange ct_OutOfRange), sl_OutOfRange⟩)
    (c_OutOfRange : PySem.W.codeIn K cd_OutOfRange "OutOfRange.__init__" = true)
    (k_OutOfRange : PySem.W.keepIn K (.ref f_OutOfRange) = true)
    (aCInvalidCount : PySem.W.nsIn K mainGlobals "InvalidCount" = some (some (.ref CInvalidCount)))
    (xLInvalidCount : K.lookup CInvalidCount = some (excClassObj nm_InvalidCount qc_InvalidCount CInvalidCount N_InvalidCount bs_InvalidCount bm_InvalidCount true sn_InvalidCount su_InvalidCount ab_InvalidCount co_InvalidCount dd_InvalidCount m0_InvalidCount m1_InvalidCount m2_InvalidCount m3_InvalidCount m5_InvalidCount "ValueError.__new__"))
    (rVInvalidCount : PySem.HandSPX.refsVE bm_InvalidCount = true)
    (saInvalidCount : PySem.W.findIn K (.ref CInvalidCount) "__setattr__" = some (some (.builtin "object.__setattr__")))
    (gaInvalidCount : PySem.W.findIn K (.ref CInvalidCount) "__getattribute__" = some (some (.builtin "BaseException.__getattribute__")))
    (ggInvalidCount : PySem.W.findIn K (.ref CInvalidCount) "__getattr__" = some none)
    (nwInvalidCount : PySem.W.findIn K (.ref CInvalidCount) "word" = some none)
    (nnInvalidCount : PySem.W.findIn K (.ref CInvalidCount) "count" = some none)
    (kCInvalidCount : PySem.W.keepIn K (.ref CInvalidCount) = true)
    (eCInvalidCount : PySem.W.subIn K (.ref CInvalidCount) (.type "BaseException") = some true)
    (tCInvalidCount : PySem.W.typeIn K (.ref CInvalidCount) = some (.type "type"))
    (hCInvalidCount : PySem.W.hasDictIn K CInvalidCount = true)
    (sXInvalidCount : PySem.W.subIn K (.ref CInvalidCount) (.ref CW) = some true)
    (a_InvalidCount : PySem.W.findIn K (.ref CInvalidCount) "__init__" = some (some (.ref f_InvalidCount)))
    (tIInvalidCount : PySem.W.typeIn K (.ref f_InvalidCount) = some (.type "function"))
    (l_InvalidCount : K.lookup f_InvalidCount = some ⟨oc_InvalidCount, od_InvalidCount, .func (PySem.W.fnOf "__init__" "InvalidCount.__init__" (defArgs sInvalidCount) (defBody sInvalidCount) (defScope sInvalidCount) .none kV_InvalidCount dc_InvalidCount pm_InvalidCount an_InvalidCount cd_InvalidCount ct_InvalidCount), sl_InvalidCount⟩)
    (c_InvalidCount : PySem.W.codeIn K cd_InvalidCount "InvalidCount.__init__" = true)
    (k_InvalidCount : PySem.W.keepIn K (.ref f_InvalidCount) = true)
    (a_check : PySem.W.nsIn K mainGlobals "check_edges" = some (some (.ref f_check)))
    (l_check : K.lookup f_check = some ⟨oc_check, od_check, .func (PySem.W.fnOf "check_edges" "check_edges" (defArgs sCheck) (defBody sCheck) (defScope sCheck) .none kV_check dc_check pm_check an_check cd_check ct_check), sl_check⟩)
    (c_check : PySem.W.codeIn K cd_check "check_edges" = true)
    (k_check : PySem.W.keepIn K (.ref f_check) = true)
    (a_init : PySem.W.findIn K (.ref C) "__init__" = some (some (.ref f_init)))
    (i_init : PySem.W.isFn K (.ref f_init) = true)
    (l_init : K.lookup f_init = some ⟨oc_init, od_init, .func (PySem.W.fnOf "__init__" "Graph.__init__" (defArgs sInit) (defBody sInit) (defScope sInit) .none kV_init dc_init pm_init an_init cd_init ct_init), sl_init⟩)
    (c_init : PySem.W.codeIn K cd_init "Graph.__init__" = true)
    (k_init : PySem.W.keepIn K (.ref f_init) = true)
    (a_graph : PySem.W.nsIn K mainGlobals "_law_graph" = some (some (.ref f_graph)))
    (l_graph : K.lookup f_graph = some ⟨oc_graph, od_graph, .func (PySem.W.fnOf "_law_graph" "_law_graph" (defArgs sGraph) (defBody sGraph) (defScope sGraph) .none kV_graph dc_graph pm_graph an_graph cd_graph ct_graph), sl_graph⟩)
    (c_graph : PySem.W.codeIn K cd_graph "_law_graph" = true)
    (k_graph : PySem.W.keepIn K (.ref f_graph) = true)
    (a_eds : PySem.W.findIn K (.ref C) "edges" = some (some (.ref f_eds)))
    (i_eds : PySem.W.isFn K (.ref f_eds) = true)
    (l_eds : K.lookup f_eds = some ⟨oc_eds, od_eds, .func (PySem.W.fnOf "edges" "Graph.edges" (defArgs sEdges) (defBody sEdges) (defScope sEdges) .none kV_eds dc_eds pm_eds an_eds cd_eds ct_eds), sl_eds⟩)
    (c_eds : PySem.W.codeIn K cd_eds "Graph.edges" = true)
    (k_eds : PySem.W.keepIn K (.ref f_eds) = true)
    (a_edge : PySem.W.findIn K (.ref C) "edge" = some (some (.ref f_edge)))
    (i_edge : PySem.W.isFn K (.ref f_edge) = true)
    (l_edge : K.lookup f_edge = some ⟨oc_edge, od_edge, .func (PySem.W.fnOf "edge" "Graph.edge" (defArgs sEdge) (defBody sEdge) (defScope sEdge) .none kV_edge dc_edge pm_edge an_edge cd_edge ct_edge), sl_edge⟩)
    (c_edge : PySem.W.codeIn K cd_edge "Graph.edge" = true)
    (k_edge : PySem.W.keepIn K (.ref f_edge) = true)
    (a_fb : PySem.W.nsIn K mainGlobals "first_break" = some (some (.ref f_fb)))
    (l_fb : K.lookup f_fb = some ⟨oc_fb, od_fb, .func (PySem.W.fnOf "first_break" "first_break" (defArgs sBreak) (defBody sBreak) (defScope sBreak) .none kV_fb dc_fb pm_fb an_fb cd_fb ct_fb), sl_fb⟩)
    (c_fb : PySem.W.codeIn K cd_fb "first_break" = true)
    (k_fb : PySem.W.keepIn K (.ref f_fb) = true)
    (a_ck : PySem.W.nsIn K mainGlobals "check_row" = some (some (.ref f_ck)))
    (l_ck : K.lookup f_ck = some ⟨oc_ck, od_ck, .func (PySem.W.fnOf "check_row" "check_row" (defArgs sCheckRow) (defBody sCheckRow) (defScope sCheckRow) .none kV_ck dc_ck pm_ck an_ck cd_ck ct_ck), sl_ck⟩)
    (c_ck : PySem.W.codeIn K cd_ck "check_row" = true)
    (k_ck : PySem.W.keepIn K (.ref f_ck) = true)
    (a_tu : PySem.W.nsIn K mainGlobals "turned" = some (some (.ref f_tu)))
    (l_tu : K.lookup f_tu = some ⟨oc_tu, od_tu, .func (PySem.W.fnOf "turned" "turned" (defArgs sTurned) (defBody sTurned) (defScope sTurned) .none kV_tu dc_tu pm_tu an_tu cd_tu ct_tu), sl_tu⟩)
    (c_tu : PySem.W.codeIn K cd_tu "turned" = true)
    (k_tu : PySem.W.keepIn K (.ref f_tu) = true)
    (a_sh : PySem.W.nsIn K mainGlobals "shortest_cycle" = some (some (.ref f_sh)))
    (l_sh : K.lookup f_sh = some ⟨oc_sh, od_sh, .func (PySem.W.fnOf "shortest_cycle" "shortest_cycle" (defArgs sShort) (defBody sShort) (defScope sShort) .none kV_sh dc_sh pm_sh an_sh cd_sh ct_sh), sl_sh⟩)
    (c_sh : PySem.W.codeIn K cd_sh "shortest_cycle" = true)
    (k_sh : PySem.W.keepIn K (.ref f_sh) = true)
    (a_nr : PySem.W.nsIn K mainGlobals "normal_row" = some (some (.ref f_nr)))
    (l_nr : K.lookup f_nr = some ⟨oc_nr, od_nr, .func (PySem.W.fnOf "normal_row" "normal_row" (defArgs sNormal) (defBody sNormal) (defScope sNormal) .none kV_nr dc_nr pm_nr an_nr cd_nr ct_nr), sl_nr⟩)
    (c_nr : PySem.W.codeIn K cd_nr "normal_row" = true)
    (k_nr : PySem.W.keepIn K (.ref f_nr) = true)
    (a_ea : PySem.W.nsIn K mainGlobals "edge_at" = some (some (.ref f_ea)))
    (l_ea : K.lookup f_ea = some ⟨oc_ea, od_ea, .func (PySem.W.fnOf "edge_at" "edge_at" (defArgs sEdgeAt) (defBody sEdgeAt) (defScope sEdgeAt) .none kV_ea dc_ea pm_ea an_ea cd_ea ct_ea), sl_ea⟩)
    (c_ea : PySem.W.codeIn K cd_ea "edge_at" = true)
    (k_ea : PySem.W.keepIn K (.ref f_ea) = true)
    (a_st : PySem.W.nsIn K mainGlobals "state_at" = some (some (.ref f_st)))
    (l_st : K.lookup f_st = some ⟨oc_st, od_st, .func (PySem.W.fnOf "state_at" "state_at" (defArgs sStateAt) (defBody sStateAt) (defScope sStateAt) .none kV_st dc_st pm_st an_st cd_st ct_st), sl_st⟩)
    (c_st : PySem.W.codeIn K cd_st "state_at" = true)
    (k_st : PySem.W.keepIn K (.ref f_st) = true)
    (a_drop : PySem.W.nsIn K mainGlobals "drop" = some (some (.ref f_drop)))
    (l_drop : K.lookup f_drop = some ⟨oc_drop, od_drop, .func (PySem.W.fnOf "drop" "drop" (defArgs sDrop) (defBody sDrop) (defScope sDrop) .none (.ref D_drop) dc_drop pm_drop an_drop cd_drop ct_drop), sl_drop⟩)
    (c_drop : PySem.W.codeIn K cd_drop "drop" = true)
    (k_drop : PySem.W.keepIn K (.ref f_drop) = true)
    (d_drop : PySem.W.nsIn K D_drop "count" = some (some (.int 1 tk_drop)))
    (a_aft : PySem.W.nsIn K mainGlobals "_law_after" = some (some (.ref f_aft)))
    (l_aft : K.lookup f_aft = some ⟨oc_aft, od_aft, .func (PySem.W.fnOf "_law_after" "_law_after" (defArgs sAfter) (defBody sAfter) (defScope sAfter) .none kV_aft dc_aft pm_aft an_aft cd_aft ct_aft), sl_aft⟩)
    (c_aft : PySem.W.codeIn K cd_aft "_law_after" = true)
    (k_aft : PySem.W.keepIn K (.ref f_aft) = true)
    (a_nor : PySem.W.nsIn K mainGlobals "_law_normal" = some (some (.ref f_nor)))
    (l_nor : K.lookup f_nor = some ⟨oc_nor, od_nor, .func (PySem.W.fnOf "_law_normal" "_law_normal" (defArgs sLNormal) (defBody sLNormal) (defScope sLNormal) .none kV_nor dc_nor pm_nor an_nor cd_nor ct_nor), sl_nor⟩)
    (c_nor : PySem.W.codeIn K cd_nor "_law_normal" = true)
    (k_nor : PySem.W.keepIn K (.ref f_nor) = true)
    (a_led : PySem.W.nsIn K mainGlobals "_law_edge" = some (some (.ref f_led)))
    (l_led : K.lookup f_led = some ⟨oc_led, od_led, .func (PySem.W.fnOf "_law_edge" "_law_edge" (defArgs sLEdge) (defBody sLEdge) (defScope sLEdge) .none kV_led dc_led pm_led an_led cd_led ct_led), sl_led⟩)
    (c_led : PySem.W.codeIn K cd_led "_law_edge" = true)
    (k_led : PySem.W.keepIn K (.ref f_led) = true)
    (a_lfi : PySem.W.nsIn K mainGlobals "_law_first" = some (some (.ref f_lfi)))
    (l_lfi : K.lookup f_lfi = some ⟨oc_lfi, od_lfi, .func (PySem.W.fnOf "_law_first" "_law_first" (defArgs sLFirst) (defBody sLFirst) (defScope sLFirst) .none kV_lfi dc_lfi pm_lfi an_lfi cd_lfi ct_lfi), sl_lfi⟩)
    (c_lfi : PySem.W.codeIn K cd_lfi "_law_first" = true)
    (k_lfi : PySem.W.keepIn K (.ref f_lfi) = true)
    (a_lro : PySem.W.nsIn K mainGlobals "_law_row" = some (some (.ref f_lro)))
    (l_lro : K.lookup f_lro = some ⟨oc_lro, od_lro, .func (PySem.W.fnOf "_law_row" "_law_row" (defArgs sLRow) (defBody sLRow) (defScope sLRow) .none kV_lro dc_lro pm_lro an_lro cd_lro ct_lro), sl_lro⟩)
    (c_lro : PySem.W.codeIn K cd_lro "_law_row" = true)
    (k_lro : PySem.W.keepIn K (.ref f_lro) = true)
    (a_unr : PySem.W.nsIn K mainGlobals "_law_unrolled" = some (some (.ref f_unr)))
    (l_unr : K.lookup f_unr = some ⟨oc_unr, od_unr, .func (PySem.W.fnOf "_law_unrolled" "_law_unrolled" (defArgs sUnr) (defBody sUnr) (defScope sUnr) .none kV_unr dc_unr pm_unr an_unr cd_unr ct_unr), sl_unr⟩)
    (c_unr : PySem.W.codeIn K cd_unr "_law_unrolled" = true)
    (k_unr : PySem.W.keepIn K (.ref f_unr) = true)
    (a_law : PySem.W.nsIn K mainGlobals "law" = some (some (.ref f_law)))
    (l_law : K.lookup f_law = some ⟨oc_law, od_law, .func (PySem.W.fnOf "law" "law" (defArgs sLaw) (defBody sLaw) (defScope sLaw) .none kV_law dc_law pm_law an_law (.ref cW) ct_law), sl_law⟩)
    (c_law : PySem.W.codeIn K (.ref cW) "law" = true)
    (k_law : PySem.W.keepIn K (.ref f_law) = true)
    (tW : PySem.W.tabIn K "law" = some (cW, Pt))
    (hW : PySem.W.codeHdIn K cW Pt = true)
    (nP : K.lookup Pt = none)
    (nn2 : Pf ≠ Pt) :
    LamX.LawAtS l w K CX0 12 63 "_law_script" mg fa h := by
  have e := hfa.symm.trans (PySem.W.mg_of X G a_law)
  cases e
  have T : Bi mg := ⟨PySem.W.mg_none_of X G z_len, PySem.W.mg_none_of X G z_list, PySem.W.mg_none_of X G z_tuple, PySem.W.mg_none_of X G z_bool, PySem.W.mg_none_of X G z_int, PySem.W.mg_none_of X G z_str, PySem.W.mg_none_of X G z_isinstance, PySem.W.mg_none_of X G z_all, PySem.W.mg_none_of X G z_zip, PySem.W.mg_none_of X G z_range⟩
  have cl : Cls K C := ⟨gpg, ghd, gpo, gsa⟩
  have GT : GTxt K mg C (.type "type") := ⟨cl, gnS, gnE, PySem.W.mg_of X G aC, ⟨grd, gga⟩, ⟨_, gv8, ⟨_, rfl⟩⟩, ⟨_, gv24, ⟨_, rfl⟩⟩, PySem.W.mg_none_of X G z_enumerate⟩
  have F_bag := fun_mk (st := sBag) l_bag c_bag k_bag
  have b_bag := F_bag.binds (ps := ["_law_script"]) fun _ _ _ _ _ _ us hl => match us, hl with | [_], _ => rfl
  have F_pull := fun_mk (st := sPull) l_pull c_pull k_pull
  have b_pull := F_pull.binds (ps := ["_law_bag_here", "_law_many"]) fun _ _ _ _ _ _ us hl => match us, hl with | [_, _], _ => rfl
  have F_of := fun_mk (st := sOf) l_of c_of k_of
  have b_of := F_of.binds (ps := ["_law_bag_here", "_law_things"]) fun _ _ _ _ _ _ us hl => match us, hl with | [_, _], _ => rfl
  have F_plan := fun_mk (st := sPlan) l_plan c_plan k_plan
  have b_plan := F_plan.binds (ps := ["_law_bag_here", "_law_most", "_law_many"]) fun _ _ _ _ _ _ us hl => match us, hl with | [_, _, _], _ => rfl
  have F_like := fun_mk (st := sLike) l_like c_like k_like
  have b_like := F_like.binds (ps := ["_law_found", "_law_due"]) fun _ _ _ _ _ _ us hl => match us, hl with | [_, _], _ => rfl
  have F_field := fun_mk (st := sField) l_field c_field k_field
  have b_field := F_field.binds (ps := ["_law_e"]) fun _ _ _ _ _ _ us hl => match us, hl with | [_], _ => rfl
  have F_tried := fun_mk (st := sTried) l_tried c_tried k_tried
  have b_tried := F_tried.binds (ps := ["_law_ask"]) fun _ _ _ _ _ _ us hl => match us, hl with | [_], _ => rfl
  have F_win : FunD K "__init__" "WindowError.__init__" (defArgs sWin) (defBody sWin) (defScope sWin) [.str "windowerror", .str ""] [] f_win (PySem.W.fnOf "__init__" "WindowError.__init__" (defArgs sWin) (defBody sWin) (defScope sWin) (.ref TJ) kV_win dc_win pm_win an_win cd_win ct_win) :=
    ⟨⟨_, _, _, _, _, _, _, _, _, _, rfl, l_win, c_win, .inr ⟨by simp, TJ, _, [.str "windowerror" tj1, .str "" tj2], _, rfl, lTJ, rfl, .cons ⟨_, rfl⟩ (.cons ⟨_, rfl⟩ .nil)⟩, .inl rfl⟩, k_win⟩
  have b_win : Binds K (PySem.W.fnOf "__init__" "WindowError.__init__" (defArgs sWin) (defBody sWin) (defScope sWin) (.ref TJ) kV_win dc_win pm_win an_win cd_win ct_win) ["self", "word", "told"] [] := by
    obtain ⟨ds, hv, hb⟩ := F_win.binds1 (ps := ["self", "word", "told"]) 3 2 (by simp) rfl (fun _ _ _ _ _ _ _ us its hu hi => match us, its, hu, hi with | [_, _, _], [_, _], _, _ => ⟨_, rfl, rfl⟩)
    cases hv
    exact hb
  have F_InvalidRow := fun_mk (st := sInvalidRow) l_InvalidRow c_InvalidRow k_InvalidRow
  have b_InvalidRow := F_InvalidRow.binds (ps := ["self", "place"]) fun _ _ _ _ _ _ us hl => match us, hl with | [_, _], _ => rfl
  have TOInvalidRow : OexC K CInvalidRow := ⟨⟨nm_InvalidRow, qc_InvalidRow, N_InvalidRow, bs_InvalidRow, bm_InvalidRow, sn_InvalidRow, su_InvalidRow, ab_InvalidRow, co_InvalidRow, dd_InvalidRow, m0_InvalidRow, m1_InvalidRow, m2_InvalidRow, m3_InvalidRow, m5_InvalidRow, xLInvalidRow, rVInvalidRow⟩, saInvalidRow, eCInvalidRow, tCInvalidRow, kCInvalidRow⟩
  have xfInvalidRow : XfC K CInvalidRow := ⟨gaInvalidRow, ggInvalidRow, eCInvalidRow, hCInvalidRow⟩
  have F_OutOfRange := fun_mk (st := sOutOfRange) l_OutOfRange c_OutOfRange k_OutOfRange
  have b_OutOfRange := F_OutOfRange.binds (ps := ["self", "number"]) fun _ _ _ _ _ _ us hl => match us, hl with | [_, _], _ => rfl
  have TOOutOfRange : OexC K COutOfRange := ⟨⟨nm_OutOfRange, qc_OutOfRange, N_OutOfRange, bs_OutOfRange, bm_OutOfRange, sn_OutOfRange, su_OutOfRange, ab_OutOfRange, co_OutOfRange, dd_OutOfRange, m0_OutOfRange, m1_OutOfRange, m2_OutOfRange, m3_OutOfRange, m5_OutOfRange, xLOutOfRange, rVOutOfRange⟩, saOutOfRange, eCOutOfRange, tCOutOfRange, kCOutOfRange⟩
  have xfOutOfRange : XfC K COutOfRange := ⟨gaOutOfRange, ggOutOfRange, eCOutOfRange, hCOutOfRange⟩
  have F_InvalidCount := fun_mk (st := sInvalidCount) l_InvalidCount c_InvalidCount k_InvalidCount
  have b_InvalidCount := F_InvalidCount.binds (ps := ["self", "count"]) fun _ _ _ _ _ _ us hl => match us, hl with | [_, _], _ => rfl
  have TOInvalidCount : OexC K CInvalidCount := ⟨⟨nm_InvalidCount, qc_InvalidCount, N_InvalidCount, bs_InvalidCount, bm_InvalidCount, sn_InvalidCount, su_InvalidCount, ab_InvalidCount, co_InvalidCount, dd_InvalidCount, m0_InvalidCount, m1_InvalidCount, m2_InvalidCount, m3_InvalidCount, m5_InvalidCount, xLInvalidCount, rVInvalidCount⟩, saInvalidCount, eCInvalidCount, tCInvalidCount, kCInvalidCount⟩
  have xfInvalidCount : XfC K CInvalidCount := ⟨gaInvalidCount, ggInvalidCount, eCInvalidCount, hCInvalidCount⟩
  have F_check := fun_mk (st := sCheck) l_check c_check k_check
  have b_check := F_check.binds (ps := ["states", "edges"]) fun _ _ _ _ _ _ us hl => match us, hl with | [_, _], _ => rfl
  have F_init := fun_mk (st := sInit) l_init c_init k_init
  have b_init := F_init.binds (ps := ["self", "states", "edges"]) fun _ _ _ _ _ _ us hl => match us, hl with | [_, _, _], _ => rfl
  have F_graph := fun_mk (st := sGraph) l_graph c_graph k_graph
  have b_graph := F_graph.binds (ps := ["_law_plan_here"]) fun _ _ _ _ _ _ us hl => match us, hl with | [_], _ => rfl
  have F_eds := fun_mk (st := sEdges) l_eds c_eds k_eds
  have b_eds := F_eds.binds (ps := ["self"]) fun _ _ _ _ _ _ us hl => match us, hl with | [_], _ => rfl
  have F_edge := fun_mk (st := sEdge) l_edge c_edge k_edge
  have b_edge := F_edge.binds (ps := ["self", "number"]) fun _ _ _ _ _ _ us hl => match us, hl with | [_, _], _ => rfl
  have F_fb := fun_mk (st := sBreak) l_fb c_fb k_fb
  have b_fb := F_fb.binds (ps := ["graph", "path"]) fun _ _ _ _ _ _ us hl => match us, hl with | [_, _], _ => rfl
  have F_ck := fun_mk (st := sCheckRow) l_ck c_ck k_ck
  have b_ck := F_ck.binds (ps := ["graph", "row"]) fun _ _ _ _ _ _ us hl => match us, hl with | [_, _], _ => rfl
  have F_tu := fun_mk (st := sTurned) l_tu c_tu k_tu
  have b_tu := F_tu.binds (ps := ["cycle", "count"]) fun _ _ _ _ _ _ us hl => match us, hl with | [_, _], _ => rfl
  have F_sh := fun_mk (st := sShort) l_sh c_sh k_sh
  have b_sh := F_sh.binds (ps := ["cycle"]) fun _ _ _ _ _ _ us hl => match us, hl with | [_], _ => rfl
  have F_nr := fun_mk (st := sNormal) l_nr c_nr k_nr
  have b_nr := F_nr.binds (ps := ["row"]) fun _ _ _ _ _ _ us hl => match us, hl with | [_], _ => rfl
  have F_ea := fun_mk (st := sEdgeAt) l_ea c_ea k_ea
  have b_ea := F_ea.binds (ps := ["row", "place"]) fun _ _ _ _ _ _ us hl => match us, hl with | [_, _], _ => rfl
  have F_st := fun_mk (st := sStateAt) l_st c_st k_st
  have b_st := F_st.binds (ps := ["graph", "row", "place"]) fun _ _ _ _ _ _ us hl => match us, hl with | [_, _, _], _ => rfl
  have F_drop : FunD K "drop" "drop" (defArgs sDrop) (defBody sDrop) (defScope sDrop) [] [("count", .int 1)] f_drop (PySem.W.fnOf "drop" "drop" (defArgs sDrop) (defBody sDrop) (defScope sDrop) .none (.ref D_drop) dc_drop pm_drop an_drop cd_drop ct_drop) :=
    ⟨⟨_, _, _, _, _, _, _, _, _, _, rfl, l_drop, c_drop, .inl ⟨rfl, rfl⟩, .inr ⟨D_drop, rfl, fun q hq => by rw [List.mem_singleton.mp hq]; exact ⟨_, d_drop, ⟨_, rfl⟩⟩⟩⟩, k_drop⟩
  have F_aft := fun_mk (st := sAfter) l_aft c_aft k_aft
  have b_aft := F_aft.binds (ps := ["_law_plan_here", "_law_edge_here"]) fun _ _ _ _ _ _ us hl => match us, hl with | [_, _], _ => rfl
  have F_nor := fun_mk (st := sLNormal) l_nor c_nor k_nor
  have b_nor := F_nor.binds (ps := ["_law_row_here"]) fun _ _ _ _ _ _ us hl => match us, hl with | [_], _ => rfl
  have F_led := fun_mk (st := sLEdge) l_led c_led k_led
  have b_led := F_led.binds (ps := ["_law_row_here", "_law_at"]) fun _ _ _ _ _ _ us hl => match us, hl with | [_, _], _ => rfl
  have F_lfi := fun_mk (st := sLFirst) l_lfi c_lfi k_lfi
  have b_lfi := F_lfi.binds (ps := ["_law_row_here", "_law_size"]) fun _ _ _ _ _ _ us hl => match us, hl with | [_, _], _ => rfl
  have F_lro := fun_mk (st := sLRow) l_lro c_lro k_lro
  have b_lro := F_lro.binds (ps := ["_law_bag_here", "_law_plan_here"]) fun _ _ _ _ _ _ us hl => match us, hl with | [_, _], _ => rfl
  have F_unr := fun_mk (st := sUnr) l_unr c_unr k_unr
  have b_unr := F_unr.binds (ps := ["_law_bag_here", "_law_row_here"]) fun _ _ _ _ _ _ us hl => match us, hl with | [_, _], _ => rfl
  obtain ⟨ev, dv, vsv, slv, e1, e2⟩ := hd_at hW
  have hP := own cW Pt _ _ _ _ _ _ l_law rfl rfl e1 e2
  obtain ⟨ev2, dv2, vsv2, slv2, e3, e4⟩ := hd_at hF
  have hPf := ownF _ (PySem.W.mg_of X G a_field) cF Pf _ _ _ _ _ _ l_field rfl rfl e3 e4
  have both : ∀ {A : Addr × Addr → Prop}, A (cW, Pt) → A (cF, Pf) → ∀ p ∈ [(cW, Pt), (cF, Pf)], A p := fun {A} a b p hp => by
    rcases List.mem_cons.mp hp with z | z
    · rw [z]; exact a
    · rw [List.mem_singleton.mp z]; exact b
  obtain ⟨qn, hqn⟩ : ∃ q : Str, ("law" ++ ".<locals>." : Str) ++ "<lambda>" = q := ⟨_, rfl⟩
  obtain ⟨qf, hqf⟩ : ∃ q : Str, ("_law_field" ++ ".<locals>." : Str) ++ "<lambda>" = q := ⟨_, rfl⟩
  have two2 : ∀ r ∈ [(Pt, qn), (Pf, qf)], r.1 = Pf → r.2 = qf := fun r hr e => by
    rcases List.mem_cons.mp hr with z | z
    · rw [z] at e; exact absurd e.symm nn2
    · rw [List.mem_singleton.mp z]
  refine ⟨PySem.W.fnOf "law" "law" (defArgs sLaw) (defBody sLaw) (defScope sLaw) .none kV_law dc_law pm_law an_law (.ref cW) ct_law, [(cW, Pt), (cF, Pf)], spLaw K Pt Pf, both hP hPf, both nP nF, both (PySem.W.codeHd_of_K X hW) (PySem.W.codeHd_of_K X hF), fun s v => .of_eq rfl, fun H a ns hl _ hH hS => ⟨a, ns, rfl, hS, hl, hH _ List.mem_cons_self, hH _ (List.mem_cons_of_mem _ List.mem_cons_self), fun _ => rfl⟩, fun base _ _ TB => ?_⟩
  have cal_bag : C8.Cal l.prog w K mg base 1 "_law_bag" (spBag K) [] := ⟨f_bag, _, _, [], ok_bag (k := 0) F_bag T, PySem.W.mg_of X G a_bag, k_bag, b_bag, .nil⟩
  have cal_pull : C8.Cal l.prog w K mg base 1 "_law_pull" spPull [] := ⟨f_pull, _, _, [], ok_pull (k := 0) F_pull T.len, PySem.W.mg_of X G a_pull, k_pull, b_pull, .nil⟩
  have cal_of : C8.Cal l.prog w K mg base 2 "_law_of" (spOf K) [] := ⟨f_of, _, _, [], ok_of (k := 0) F_of T cal_pull, PySem.W.mg_of X G a_of, k_of, b_of, .nil⟩
  have cal_plan : C8.Cal l.prog w K mg base 2 "_law_plan" spPlan [] := ⟨f_plan, _, _, [], ok_plan (k := 0) F_plan T cal_pull, PySem.W.mg_of X G a_plan, k_plan, b_plan, .nil⟩
  have cal_like : C8.Cal l.prog w K mg base 1 "_law_like" (spLike 0) [] := ⟨f_like, _, _, [], like0 (k := 0) F_like, PySem.W.mg_of X G a_like, k_like, b_like, .nil⟩
  have cal_like : C8.Cal l.prog w K mg base 2 "_law_like" (spLike 1) [] := ⟨f_like, _, _, [], ok_like (n := 1) (k := 0) F_like T (fun _ => cal_like), PySem.W.mg_of X G a_like, k_like, b_like, .nil⟩
  have cal_like : C8.Cal l.prog w K mg base 3 "_law_like" (spLike 2) [] := ⟨f_like, _, _, [], ok_like (n := 2) (k := 1) F_like T (fun _ => cal_like), PySem.W.mg_of X G a_like, k_like, b_like, .nil⟩
  have cal_like : C8.Cal l.prog w K mg base 4 "_law_like" (spLike 3) [] := ⟨f_like, _, _, [], ok_like (n := 3) (k := 2) F_like T (fun _ => cal_like), PySem.W.mg_of X G a_like, k_like, b_like, .nil⟩
  have cal_like : C8.Cal l.prog w K mg base 5 "_law_like" (spLike 4) [] := ⟨f_like, _, _, [], ok_like (n := 4) (k := 3) F_like T (fun _ => cal_like), PySem.W.mg_of X G a_like, k_like, b_like, .nil⟩
  have cal_like : C8.Cal l.prog w K mg base 6 "_law_like" (spLike 5) [] := ⟨f_like, _, _, [], ok_like (n := 5) (k := 4) F_like T (fun _ => cal_like), PySem.W.mg_of X G a_like, k_like, b_like, .nil⟩
  have o_win := ok_win (P := l.prog) (w := w) (mg := mg) (base := base) (k := 0) F_win (PySem.W.mg_none_of X G z_ValueError) vV
  have o_InvalidRow := ok_invalidrow (P := l.prog) (w := w) (mg := mg) (base := base) (k := 0) F_InvalidRow TOInvalidRow nwInvalidRow nnInvalidRow (PySem.W.mg_of X G aX) ⟨rdX, gtX⟩ ⟨a_win, rfl⟩ k_win o_win b_win
  have R_InvalidRow : ErrIn l.prog w K mg base "InvalidRow" CInvalidRow "place" "invalidrow" := ⟨TOInvalidRow, PySem.W.mg_of X G aCInvalidRow, f_InvalidRow, _, a_InvalidRow, tIInvalidRow, o_InvalidRow, b_InvalidRow⟩
  have EO_InvalidRow : ErOk l.prog w K mg base CW f_field _ CInvalidRow "place" "invalidrow" := ⟨exm_own eX iX tX sXInvalidRow, xfInvalidRow, nwInvalidRow, by decide +kernel, fun a dd => ok_field_invalidrow (k := 0) F_field xfInvalidRow nwInvalidRow nnInvalidRow⟩
  have o_OutOfRange := ok_outofrange (P := l.prog) (w := w) (mg := mg) (base := base) (k := 0) F_OutOfRange TOOutOfRange nwOutOfRange nnOutOfRange (PySem.W.mg_of X G aX) ⟨rdX, gtX⟩ ⟨a_win, rfl⟩ k_win o_win b_win
  have R_OutOfRange : ErrIn l.prog w K mg base "OutOfRange" COutOfRange "number" "outofrange" := ⟨TOOutOfRange, PySem.W.mg_of X G aCOutOfRange, f_OutOfRange, _, a_OutOfRange, tIOutOfRange, o_OutOfRange, b_OutOfRange⟩
  have EO_OutOfRange : ErOk l.prog w K mg base CW f_field _ COutOfRange "number" "outofrange" := ⟨exm_own eX iX tX sXOutOfRange, xfOutOfRange, nwOutOfRange, by decide +kernel, fun a dd => ok_field_outofrange (k := 0) F_field xfOutOfRange nwOutOfRange nnOutOfRange⟩
  have o_InvalidCount := ok_invalidcount (P := l.prog) (w := w) (mg := mg) (base := base) (k := 0) F_InvalidCount TOInvalidCount nwInvalidCount nnInvalidCount (PySem.W.mg_of X G aX) ⟨rdX, gtX⟩ ⟨a_win, rfl⟩ k_win o_win b_win
  have R_InvalidCount : ErrIn l.prog w K mg base "InvalidCount" CInvalidCount "count" "invalidcount" := ⟨TOInvalidCount, PySem.W.mg_of X G aCInvalidCount, f_InvalidCount, _, a_InvalidCount, tIInvalidCount, o_InvalidCount, b_InvalidCount⟩
  have EO_InvalidCount : ErOkT l.prog w K mg base [(Pt, qn), (Pf, qf)] CW f_field _ CInvalidCount "count" "invalidcount" := ⟨exm_own eX iX tX sXInvalidCount, xfInvalidCount, nwInvalidCount, by decide +kernel, fun a dd => okT_count (k := 0) l_field c_field (TB (cF, Pf) (List.mem_cons_of_mem _ List.mem_cons_self)) hqf (List.mem_cons_of_mem _ List.mem_cons_self) two2 xfInvalidCount nwInvalidCount nnInvalidCount⟩
  have cal_check : C8.Cal l.prog w K mg base 1 "check_edges" (spCheck K) [] := ⟨f_check, _, _, [], ok_check (k := 0) F_check T GT, PySem.W.mg_of X G a_check, k_check, b_check, .nil⟩
  have mG : C8.Mak l.prog w K mg base 2 "Graph" C (spInit C) [] := ⟨f_init, _, _, [], ⟨gmk, a_init, i_init, gkc⟩, ok_init (k := 0) F_init T GT cal_check, PySem.W.mg_of X G aC, b_init, .nil⟩
  have cal_graph : C8.Cal l.prog w K mg base 4 "_law_graph" (spGraph C) [] := ⟨f_graph, _, _, [], ok_graph (k := 0) F_graph T mG, PySem.W.mg_of X G a_graph, k_graph, b_graph, .nil⟩
  have m_eds : C8.Met l.prog w K mg base 1 C "edges" (spEdges C) [] := ⟨f_eds, _, _, [], cl, ⟨a_eds, i_eds, k_eds⟩, ok_edges (k := 0) F_eds T GT, b_eds, .nil⟩
  have m_edge : C8.Met l.prog w K mg base 1 C "edge" (spEdge0 C) [] := ⟨f_edge, _, _, [], cl, ⟨a_edge, i_edge, k_edge⟩, ok_edge0 (k := 0) F_edge T GT, b_edge, .nil⟩
  have cal_fb : C8.Cal l.prog w K mg base 2 "first_break" (spBreak C) [] := ⟨f_fb, _, _, [], ok_break (k := 0) F_fb T GT m_eds, PySem.W.mg_of X G a_fb, k_fb, b_fb, .nil⟩
  have n_ck : CalN l.prog w K mg base 4 "check_row" (spCkRow C CInvalidRow) := ⟨f_ck, _, _, okN_ckrow (k := 0) F_ck T R_InvalidRow cal_fb, PySem.W.mg_of X G a_ck, k_ck, b_ck⟩
  have cal_tu : C8.Cal l.prog w K mg base 1 "turned" spTurned [] := ⟨f_tu, _, _, [], ok_turned (k := 0) F_tu T, PySem.W.mg_of X G a_tu, k_tu, b_tu, .nil⟩
  have cal_sh : C8.Cal l.prog w K mg base 1 "shortest_cycle" spShort [] := ⟨f_sh, _, _, [], ok_short (k := 0) F_sh T, PySem.W.mg_of X G a_sh, k_sh, b_sh, .nil⟩
  have cal_nr : C8.Cal l.prog w K mg base 2 "normal_row" spNormal [] := ⟨f_nr, _, _, [], ok_normal (k := 0) F_nr T cal_tu cal_sh, PySem.W.mg_of X G a_nr, k_nr, b_nr, .nil⟩
  have n_ea : CalN l.prog w K mg base 4 "edge_at" (spEAt COutOfRange) := ⟨f_ea, _, _, okN_eat (k := 0) F_ea T R_OutOfRange, PySem.W.mg_of X G a_ea, k_ea, b_ea⟩
  have n_st : CalN l.prog w K mg base 5 "state_at" (spSt C CInvalidRow COutOfRange) := ⟨f_st, _, _, okN_st (k := 0) F_st n_ck n_ea m_edge, PySem.W.mg_of X G a_st, k_st, b_st⟩
  obtain ⟨dsD, vD, bD⟩ := drop_b F_drop
  have o_drop : FnOk l.prog w K mg base (L2N.CX l.prog w) 4 f_drop _ ["row", "count"] (spDrop CInvalidCount) := okN_drop (k := 0) F_drop T (PySem.W.mg_none_of X G z_max) R_InvalidCount cal_nr cal_tu
  have cal_aft : C8.Cal l.prog w K mg base 1 "_law_after" spAfter [] := ⟨f_aft, _, _, [], ok_after (k := 0) F_aft T, PySem.W.mg_of X G a_aft, k_aft, b_aft, .nil⟩
  have cal_nor : C8.Cal l.prog w K mg base 1 "_law_normal" spLNormal [] := ⟨f_nor, _, _, [], ok_lnormal (k := 0) F_nor T, PySem.W.mg_of X G a_nor, k_nor, b_nor, .nil⟩
  have cal_led : C8.Cal l.prog w K mg base 1 "_law_edge" spLEdge [] := ⟨f_led, _, _, [], ok_ledge (k := 0) F_led T, PySem.W.mg_of X G a_led, k_led, b_led, .nil⟩
  have cal_lfi : C8.Cal l.prog w K mg base 2 "_law_first" spLFirst [] := ⟨f_lfi, _, _, [], ok_lfirst (k := 0) F_lfi T cal_led, PySem.W.mg_of X G a_lfi, k_lfi, b_lfi, .nil⟩
  have cal_lro : C8.Cal l.prog w K mg base 3 "_law_row" spLRow [] := ⟨f_lro, _, _, [], ok_lrow (k := 0) F_lro T cal_pull cal_of cal_aft cal_nor, PySem.W.mg_of X G a_lro, k_lro, b_lro, .nil⟩
  have cal_unr : C8.Cal l.prog w K mg base 3 "_law_unrolled" spUnr [] := ⟨f_unr, _, _, [], ok_unr (k := 0) F_unr T cal_pull cal_lfi, PySem.W.mg_of X G a_unr, k_unr, b_unr, .nil⟩
  exact ok_law l_law c_law (TB (cW, Pt) List.mem_cons_self) hqn nn2 (C := C) (CR := CInvalidRow) (CO := COutOfRange) (CC := CInvalidCount) (mc := .type "type") ⟨T, GT, cal_bag, cal_pull, cal_of, cal_plan, cal_like, cal_graph, cal_lro, cal_unr, cal_nor, cal_led, cal_lfi, n_ck, n_st, ⟨f_drop, _, o_drop, PySem.W.mg_of X G a_drop, k_drop, drop_kb F_drop, dsD, vD, bD⟩, ⟨f_tried, _, _, _, _, _, _, _, _, _, _, PySem.W.mg_of X G a_tried, k_tried, l_tried, c_tried, b_tried⟩, ⟨CW, f_field, _, PySem.W.mg_of X G aX, PySem.W.mg_of X G a_field, k_field, b_field, EO_InvalidCount, EO_OutOfRange.toT, EO_InvalidRow.toT⟩⟩
theorem walk {l : PySem.W.OpenLaw} {q : Program} {loose : List Str} {XP : (Str → Option Value) → Heap → Prop} {YP : World → Heap → Prop} {d : DefRec} {K : Params → PySem.W.Frag} (hn : l.most = some 63) (hdf : d.params.defaults = []) (hrec : ((PyProof.Rows.recsOf q).any fun e => e.name == d.name) = true) (hrecF : ((PyProof.Rows.recsOf q).any fun e => e.name == "_law_field") = true)
    (hY : ∀ (w : World) (h : Heap), YP w h → (K w.params).In h)
    (F : ∀ (w : World) (mg : Str → Option Value) (fa : Addr) (h : Heap), YP w h → (K w.params).In h → h.Ns mainGlobals mg → mg d.name = some (.ref fa) → LamX.OwnTab (K w.params) fa h → (∀ b, mg "_law_field" = some (.ref b) → LamX.OwnTab (K w.params) b h) → LamX.LawAtS l w (K w.params) CX0 12 63 "_law_script" mg fa h) :
    PySem.W.WalkO q loose XP YP l.row.toRowW d [] (fun f vs => PySem.call f vs) := by
  refine walk_tabs (n := 63) (k := 12) (x := "_law_script") hn (by decide) hdf ⟨rfl, by decide, by decide⟩ hY fun w mg fa h Y KX G m own => ?_
  obtain ⟨e, he, n1⟩ := rec_of hrec
  obtain ⟨e2, he2, n2⟩ := rec_of hrecF
  exact F w mg fa h Y KX G m (own e he fa (by rw [n1]; exact m)) fun b hb => own e2 he2 b (by rw [n2]; exact hb)
end Lw

open PySem PySem.W PyProof.Rows
set_option Elab.async false
set_option maxRecDepth 100000 in
set_option maxHeartbeats 0 in
theorem PySem.Challenge.cw_windowkin_k09_rows_without_first_edges_holds : PySem.Challenge.rw_windowkin_k09_rows_without_first_edges.Holds := by
  w_on; o_law; k_head; (case hw => w_witness2)
  k_fill
  refine Lw.walk (l := PySem.Challenge.rw_windowkin_k09_rows_without_first_edges) rfl rfl ?R ?RF (fun w h Y => PySem.W.km_in_of Y) ?F
  (case R => first | rfl | decide +kernel)
  (case RF => first | rfl | decide +kernel)
  case F =>
    intro w mg fa h Y KX G hmg own ownF
    refine' Lw.all_mk KX G hmg own ownF ?z_len ?z_list ?z_tuple ?z_bool ?z_int ?z_str ?z_isinstance ?z_all ?z_zip ?z_range ?z_ValueError ?z_enumerate ?z_max ?aC ?gpg ?ghd ?gpo ?gsa ?gmk ?gkc ?gnS ?gnE ?grd ?gga ?gv8 ?gv24 ?a_bag ?l_bag ?c_bag ?k_bag ?a_pull ?l_pull ?c_pull ?k_pull ?a_of ?l_of ?c_of ?k_of ?a_plan ?l_plan ?c_plan ?k_plan ?a_like ?l_like ?c_like ?k_like ?a_field ?l_field ?c_field ?k_field ?tF ?hF ?nF ?a_tried ?l_tried ?c_tried ?k_tried ?aX ?eX ?tX ?iX ?a_win ?l_win ?c_win ?k_win ?lTJ ?rdX ?gtX ?vV ?aCInvalidRow ?xLInvalidRow ?rVInvalidRow ?saInvalidRow ?gaInvalidRow ?ggInvalidRow ?nwInvalidRow ?nnInvalidRow ?kCInvalidRow ?eCInvalidRow ?tCInvalidRow ?hCInvalidRow ?sXInvalidRow ?a_InvalidRow ?tIInvalidRow ?l_InvalidRow ?c_InvalidRow ?k_InvalidRow ?aCOutOfRange ?xLOutOfRange ?rVOutOfRange ?saOutOfRange ?gaOutOfRange ?ggOutOfRange ?nwOutOfRange ?nnOutOfRange ?kCOutOfRange ?eCOutOfRange ?tCOutOfRange ?hCOutOfRange ?sXOutOfRange ?a_OutOfRange ?tIOutOfRange ?l_OutOfRange ?c_OutOfRange ?k_OutOfRange ?aCInvalidCount ?xLInvalidCount ?rVInvalidCount ?saInvalidCount ?gaInvalidCount ?ggInvalidCount ?nwInvalidCount ?nnInvalidCount ?kCInvalidCount ?eCInvalidCount ?tCInvalidCount ?hCInvalidCount ?sXInvalidCount ?a_InvalidCount ?tIInvalidCount ?l_InvalidCount ?c_InvalidCount ?k_InvalidCount ?a_check ?l_check ?c_check ?k_check ?a_init ?i_init ?l_init ?c_init ?k_init ?a_graph ?l_graph ?c_graph ?k_graph ?a_eds ?i_eds ?l_eds ?c_eds ?k_eds ?a_edge ?i_edge ?l_edge ?c_edge ?k_edge ?a_fb ?l_fb ?c_fb ?k_fb ?a_ck ?l_ck ?c_ck ?k_ck ?a_tu ?l_tu ?c_tu ?k_tu ?a_sh ?l_sh ?c_sh ?k_sh ?a_nr ?l_nr ?c_nr ?k_nr ?a_ea ?l_ea ?c_ea ?k_ea ?a_st ?l_st ?c_st ?k_st ?a_drop ?l_drop ?c_drop ?k_drop ?d_drop ?a_aft ?l_aft ?c_aft ?k_aft ?a_nor ?l_nor ?c_nor ?k_nor ?a_led ?l_led ?c_led ?k_led ?a_lfi ?l_lfi ?c_lfi ?k_lfi ?a_lro ?l_lro ?c_lro ?k_lro ?a_unr ?l_unr ?c_unr ?k_unr ?a_law ?l_law ?c_law ?k_law ?tW ?hW ?nP ?nn2
    (case z_len => k_is)
    (case z_list => k_is)
    (case z_tuple => k_is)
    (case z_bool => k_is)
    (case z_int => k_is)
    (case z_str => k_is)
    (case z_isinstance => k_is)
    (case z_all => k_is)
    (case z_zip => k_is)
    (case z_range => k_is)
    (case z_ValueError => k_is)
    (case z_enumerate => k_is)
    (case z_max => k_is)
    (case aC => k_is)
    (case gpg => k_is)
    (case ghd => k_is)
    (case gpo => k_is)
    (case gsa => k_is)
    (case gmk => k_is)
    (case gkc => k_is)
    (case gnS => k_is)
    (case gnE => k_is)
    (case grd => k_is)
    (case gga => k_is)
    (case gv8 => k_is)
    (case gv24 => k_is)
    (case a_bag => k_is)
    (case l_bag => k_is)
    (case c_bag => k_is)
    (case k_bag => k_is)
    (case a_pull => k_is)
    (case l_pull => k_is)
    (case c_pull => k_is)
    (case k_pull => k_is)
    (case a_of => k_is)
    (case l_of => k_is)
    (case c_of => k_is)
    (case k_of => k_is)
    (case a_plan => k_is)
    (case l_plan => k_is)
    (case c_plan => k_is)
    (case k_plan => k_is)
    (case a_like => k_is)
    (case l_like => k_is)
    (case c_like => k_is)
    (case k_like => k_is)
    (case a_field => k_is)
    (case l_field => k_is)
    (case c_field => k_is)
    (case k_field => k_is)
    (case tF => first | k_is | rfl | decide +kernel)
    (case hF => first | k_is | rfl | decide +kernel)
    (case nF => first | k_is | rfl | decide +kernel)
    (case a_tried => k_is)
    (case l_tried => k_is)
    (case c_tried => k_is)
    (case k_tried => k_is)
    (case aX => k_is)
    (case eX => first | k_is | rfl | decide +kernel)
    (case tX => k_is)
    (case iX => k_is)
    (case a_win => k_is)
    (case l_win => k_is)
    (case c_win => k_is)
    (case k_win => k_is)
    (case lTJ => k_is)
    (case rdX => k_is)
    (case gtX => k_is)
    (case vV => k_is)
    (case aCInvalidRow => k_is)
    (case xLInvalidRow => k_is)
    (case rVInvalidRow => first | rfl | decide +kernel | k_is)
    (case saInvalidRow => k_is)
    (case gaInvalidRow => k_is)
    (case ggInvalidRow => k_is)
    (case nwInvalidRow => k_is)
    (case nnInvalidRow => k_is)
    (case kCInvalidRow => k_is)
    (case eCInvalidRow => k_is)
    (case tCInvalidRow => k_is)
    (case hCInvalidRow => k_is)
    (case sXInvalidRow => first | k_is | rfl | decide +kernel)
    (case a_InvalidRow => k_is)
    (case tIInvalidRow => k_is)
    (case l_InvalidRow => k_is)
    (case c_InvalidRow => k_is)
    (case k_InvalidRow => k_is)
    (case aCOutOfRange => k_is)
    (case xLOutOfRange => k_is)
    (case rVOutOfRange => first | rfl | decide +kernel | k_is)
    (case saOutOfRange => k_is)
    (case gaOutOfRange => k_is)
    (case ggOutOfRange => k_is)
    (case nwOutOfRange => k_is)
    (case nnOutOfRange => k_is)
    (case kCOutOfRange => k_is)
    (case eCOutOfRange => k_is)
    (case tCOutOfRange => k_is)
    (case hCOutOfRange => k_is)
    (case sXOutOfRange => first | k_is | rfl | decide +kernel)
    (case a_OutOfRange => k_is)
    (case tIOutOfRange => k_is)
    (case l_OutOfRange => k_is)
    (case c_OutOfRange => k_is)
    (case k_OutOfRange => k_is)
    (case aCInvalidCount => k_is)
    (case xLInvalidCount => k_is)
    (case rVInvalidCount => first | rfl | decide +kernel | k_is)
    (case saInvalidCount => k_is)
    (case gaInvalidCount => k_is)
    (case ggInvalidCount => k_is)
    (case nwInvalidCount => k_is)
    (case nnInvalidCount => k_is)
    (case kCInvalidCount => k_is)
    (case eCInvalidCount => k_is)
    (case tCInvalidCount => k_is)
    (case hCInvalidCount => k_is)
    (case sXInvalidCount => first | k_is | rfl | decide +kernel)
    (case a_InvalidCount => k_is)
    (case tIInvalidCount => k_is)
    (case l_InvalidCount => k_is)
    (case c_InvalidCount => k_is)
    (case k_InvalidCount => k_is)
    (case a_check => k_is)
    (case l_check => k_is)
    (case c_check => k_is)
    (case k_check => k_is)
    (case a_init => k_is)
    (case i_init => k_is)
    (case l_init => k_is)
    (case c_init => k_is)
    (case k_init => k_is)
    (case a_graph => k_is)
    (case l_graph => k_is)
    (case c_graph => k_is)
    (case k_graph => k_is)
    (case a_eds => k_is)
    (case i_eds => k_is)
    (case l_eds => k_is)
    (case c_eds => k_is)
    (case k_eds => k_is)
    (case a_edge => k_is)
    (case i_edge => k_is)
    (case l_edge => k_is)
    (case c_edge => k_is)
    (case k_edge => k_is)
    (case a_fb => k_is)
    (case l_fb => k_is)
    (case c_fb => k_is)
    (case k_fb => k_is)
    (case a_ck => k_is)
    (case l_ck => k_is)
    (case c_ck => k_is)
    (case k_ck => k_is)
    (case a_tu => k_is)
    (case l_tu => k_is)
    (case c_tu => k_is)
    (case k_tu => k_is)
    (case a_sh => k_is)
    (case l_sh => k_is)
    (case c_sh => k_is)
    (case k_sh => k_is)
    (case a_nr => k_is)
    (case l_nr => k_is)
    (case c_nr => k_is)
    (case k_nr => k_is)
    (case a_ea => k_is)
    (case l_ea => k_is)
    (case c_ea => k_is)
    (case k_ea => k_is)
    (case a_st => k_is)
    (case l_st => k_is)
    (case c_st => k_is)
    (case k_st => k_is)
    (case a_drop => k_is)
    (case l_drop => k_is)
    (case c_drop => k_is)
    (case k_drop => k_is)
    (case d_drop => k_is)
    (case a_aft => k_is)
    (case l_aft => k_is)
    (case c_aft => k_is)
    (case k_aft => k_is)
    (case a_nor => k_is)
    (case l_nor => k_is)
    (case c_nor => k_is)
    (case k_nor => k_is)
    (case a_led => k_is)
    (case l_led => k_is)
    (case c_led => k_is)
    (case k_led => k_is)
    (case a_lfi => k_is)
    (case l_lfi => k_is)
    (case c_lfi => k_is)
    (case k_lfi => k_is)
    (case a_lro => k_is)
    (case l_lro => k_is)
    (case c_lro => k_is)
    (case k_lro => k_is)
    (case a_unr => k_is)
    (case l_unr => k_is)
    (case c_unr => k_is)
    (case k_unr => k_is)
    (case a_law => k_is)
    (case l_law => k_is)
    (case c_law => k_is)
    (case k_law => k_is)
    (case tW => first | k_is | rfl | decide +kernel)
    (case hW => first | k_is | rfl | decide +kernel)
    (case nP => first | k_is | rfl | decide +kernel)
    (case nn2 => first | k_is | rfl | decide +kernel)

