import PyProof.Rows.All
import Wide.All
import OpenK.AllK
import Wide.FinOn
import HandS.ForMost
import HandS.Wide
import HandS.Codes
import PySem.Challenge.RW_windowkin_k02_invalid_graphs
import HandS.IsInst
import HandS.Walk
import HandS.Zip
import KE.GoesMore
import HandS.ClsMeth
import HandS.Property
import HandS.FStr
import HandS.Exc
import HandS.ExcOwn
import HandS.WordsExc
import HandS.ExcInit
import HandS.Defaults
import HandS.TryOnly
import HandS.Lambda
import HandS.HotCalls
import HandS.ExcField
import PyProof.EqAt
import PyProof.EqKinds
import HandS.OwnEq
import HandS.CallLocal
import HandS.Style
import HandS.Conv
import HandS.EndOwn
import KE.KNestM
set_option Elab.async false
set_option linter.all false
set_option maxRecDepth 100000
namespace Lw
open PySem L2
def top (i : Nat) : Stmt := PySem.Challenge.pw_windowkin_k02_invalid_graphs.main.body.getD i (.Pass ⟨0, 0, 0, 0⟩)
abbrev sBag : Stmt := top 11
abbrev sPull : Stmt := top 12
abbrev sOf : Stmt := top 13
/-! ### heaps -/
theorem same_upd {H : Hp} {p : Addr} {o : HO} (h : H p = none) : Same H (upd H p o) := fun b x e => by
  rw [upd_ne (ne_of_none e h)]
  exact e
theorem upd_upd {H : Hp} {p : Addr} {o o' : HO} : upd (upd H p o) p o' = upd H p o' := by
  funext c
  by_cases e : c = p
  · subst e
    rw [upd_same, upd_same]
  · rw [upd_ne e, upd_ne e, upd_ne e]
theorem upd_self {H : Hp} {p : Addr} {o : HO} (h : H p = some o) : upd H p o = H := by
  funext c
  by_cases e : c = p
  · subst e
    rw [upd_same, h]
  · rw [upd_ne e]
/-! ### the bag: the script's own list at l, a place, a rest, a salt -/
def BagO (l : Addr) (ns : List Int) (o : HO) : Prop := ∃ (i : Nat) (r s : Int), o = .lst [.ref l, .int (i : Int), .int r, .int s] ∧ i ≤ ns.length ∧ 0 ≤ r ∧ 0 ≤ s ∧ s < 2147483563
structure BagAt (H : Hp) (b l : Addr) (ns : List Int) : Prop where
  ob : ∃ o, H b = some o ∧ BagO l ns o
  sc : H l = some (.lst (ns.map V.int))
  ln : ns.length ≤ 63
theorem BagAt.ne {H : Hp} {b l : Addr} {ns : List Int} (h : BagAt H b l ns) : l ≠ b := fun e => by
  obtain ⟨o, ho, i, r, s, rfl, _⟩ := h.ob
  have h2 := h.sc
  rw [e, ho] at h2
  cases ns with
  | nil => cases h2
  | cons x r => cases h2
theorem BagAt.upd {H : Hp} {b l : Addr} {ns : List Int} {o : HO} (h : BagAt H b l ns) (ho : BagO l ns o) : BagAt (upd H b o) b l ns :=
  ⟨⟨o, upd_same, ho⟩, by rw [upd_ne h.ne]; exact h.sc, h.ln⟩
/-- the bag where all that was tracked stands -/
theorem BagAt.same {H H' : Hp} {b l : Addr} {ns : List Int} (h : BagAt H b l ns) (e : Same H H') : BagAt H' b l ns :=
  ⟨h.ob.imp fun _ z => ⟨e _ _ z.1, z.2⟩, e _ _ h.sc, h.ln⟩
def spPull : Sp := fun vs H Q _ => ∃ (b l : Addr) (ns : List Int) (m : Int), vs = [.ref b, .int m] ∧ BagAt H b l ns ∧ 0 < m ∧ m < 2 ^ 100 ∧
  ∀ (v : Int) (o : HO), 0 ≤ v → v < m → BagO l ns o → Q (.int v) (upd H b o)
def spBag (K : PySem.W.Frag) : Sp := fun vs H Q _ => ∃ (a : Addr) (ns : List Int), vs = [.ref a] ∧ SqL K H a (ns.map V.int) ∧ ns.length ≤ 63 ∧
  ∀ (b l : Addr) (H' : Hp), Same H H' → H b = none → H l = none → BagAt H' b l ns → Q (.ref b) H'
section
variable {P : Program} {w : World} {K : PySem.W.Frag} {mg : Str → Option Value} {base : Heap}
/-! ### _law_pull -/
theorem scPull : FnScope ["_law_bag_here", "_law_many", "_law_cell", "_law_got", "_law_seed"] ["_law_bag_here", "_law_many"] (defScope sPull) := ⟨rfl, rfl, rfl, by decide +kernel, rfl, by decide +kernel, by decide +kernel⟩
theorem at0 {x : V} {r : List V} : atI (x :: r) 0 = some x := by
  have h := atI_nat (xs := x :: r) (j := 0) (v := x) rfl
  exact h
theorem at1 {x y : V} {r : List V} : atI (x :: y :: r) 1 = some y := by
  have h := atI_nat (xs := x :: y :: r) (j := 1) (v := y) rfl
  exact h
theorem at2 {x y z : V} {r : List V} : atI (x :: y :: z :: r) 2 = some z := by
  have h := atI_nat (xs := x :: y :: z :: r) (j := 2) (v := z) rfl
  exact h
theorem at3 {x y z u : V} {r : List V} : atI (x :: y :: z :: u :: r) 3 = some u := by
  have h := atI_nat (xs := x :: y :: z :: u :: r) (j := 3) (v := u) rfl
  exact h
set_option maxHeartbeats 4000000 in
theorem ok_pull {f : Addr} {fd : FuncData} {k : Nat} (F : Fun K "_law_pull" "_law_pull" sPull f fd) (mlen : mg "len" = none) : FnOk P w K mg base CX0 (k + 1) f fd ["_law_bag_here", "_law_many"] spPull := by
  refine F.ok scPull (fun vs H Q E h => ?_) (fun cdv A outer s H vs Q E hr h => ?_)
  · obtain ⟨b, l, ns, m, rfl, _⟩ := h
    rfl
  · obtain ⟨b, l, ns, m, rfl, B, hm, hm2, q⟩ := h
    refine ⟨_, C8.pss_cut (ps_if (PW.pt (pw_and (pt_cmpR op_eq (pe_ix ix_list (pv 0) pe_int (fun _ _ => rfl)) pe_int (nomark _))
        (pw_and1 (pt_cmpR op_lt (pe_ix ix_list (pv 0) pe_int (fun _ _ => rfl)) (pe_callB call_len_seq (by rfl) mlen PySem.boot_len (pa_cons (pe_ix ix_list (pv 0) pe_int (fun _ _ => rfl)) pa_nil)) (nomark _)))))
        (pss_cons (ps_set (i := 2) scPull.nd rfl (Or.inl rfl) (pe_ix ix_list (pe_ix ix_list (pv 0) pe_int (fun _ _ => rfl)) (pe_ix ix_list (pv 0) pe_int (fun _ _ => rfl)) (fun _ _ => rfl)))
        (pss_cons (ps_asg (pe_op op_add (pe_ix ix_list (pv 0) pe_int (fun _ _ => rfl)) pe_int) (pg_sub (pv 0) pe_int set_list))
        (pss_one (ps_if (pt_cmpR op_ge (pv 2) (pe_op op_pow pe_int pe_int) (nomark _))
          (pss_one (ps_asg (pe_op op_sub (pv 2) (pe_op op_pow pe_int pe_int)) (pg_sub (pv 0) pe_int set_list)))
          (pss_one (ps_asg (pe_op op_mod (pe_op op_add (pe_op op_add (pe_op op_mul (pe_ix ix_list (pv 0) pe_int (fun _ _ => rfl)) pe_int) (pe_op op_mul (pe_op op_mod (pv 2) pe_int) pe_int)) pe_int) pe_int) (pg_sub (pv 0) pe_int set_list)))))))
        pss_nil)
      (pss_cons (ps_if (pt_cmpR op_gt (pe_ix ix_list (pv 0) pe_int (fun _ _ => rfl)) pe_int (nomark _))
        (pss_cons (ps_set (i := 3) scPull.nd rfl (Or.inl rfl) (pe_op op_mod (pe_ix ix_list (pv 0) pe_int (fun _ _ => rfl)) (pv 1)))
        (pss_cons (ps_asg (pe_op op_fdivW (pe_ix ix_list (pv 0) pe_int (fun _ _ => rfl)) (pv 1)) (pg_sub (pv 0) pe_int set_list))
        (pss_one (ps_ret (pv 3))))) pss_nil)
      (pss_cons (ps_set (i := 4) scPull.nd rfl (Or.inl rfl) (pe_ix ix_list (pv 0) pe_int (fun _ _ => rfl)))
      (pss_cons (ps_asg (pe_op op_mod (pe_op op_add (pe_op op_add (pe_op op_mul (pe_op op_mul (pv 4) (pv 4)) pe_int) (pe_op op_mul (pv 4) pe_int)) pe_int) pe_int) (pg_sub (pv 0) pe_int set_list))
      (pss_one (ps_ret (pe_op op_mod (pe_op op_add (pe_op op_fdiv (pe_ix ix_list (pv 0) pe_int (fun _ _ => rfl)) pe_int) (pe_op op_mul (pe_op op_mod (pe_ix ix_list (pv 0) pe_int (fun _ _ => rfl)) pe_int) pe_int)) (pv 1))))))), ?_⟩
    obtain ⟨o, ho, i, r, sa, rfl, hi, hr0, hs0, hs1⟩ := B.ob
    refine ⟨fun σ H' => ∃ (v2 : Option V) (o : HO), σ = [some (.ref b), some (.int m), v2, none, none] ∧ H' = upd H b o ∧ BagO l ns o, ?_, ?_⟩
    · refine ⟨_, rfl, b, _, _, _, rfl, rfl, SqL.of ho, at2, rfl, _, rfl, ?_⟩
      have stay : H = upd H b (.lst [.ref l, .int (i : Int), .int r, .int sa]) := (upd_self ho).symm
      refine ite2 (fun c => ?_) (fun c => ?_)
      · have c0 : r = 0 := by
          have c1 := of_decide_eq_true c
          injection c1
        subst c0
        refine ⟨_, rfl, b, _, _, _, rfl, rfl, SqL.of ho, at1, _, rfl, b, _, _, _, rfl, rfl, SqL.of ho, at0, l, _, rfl, .inl (SqL.of B.sc), _, _, rfl, rfl, _, rfl, ?_⟩
        rw [List.length_map]
        refine ite2 (fun c => ?_) (fun c => ?_)
        · have c1 : (i : Int) < (ns.length : Int) := of_decide_eq_true c
          have c2 : i < ns.length := by omega
          have g1 : (ns.map V.int)[i]? = some (.int ns[i]) := by
            rw [List.getElem?_map, List.getElem?_eq_getElem c2]
            rfl
          refine ⟨_, rfl, b, _, _, _, rfl, rfl, SqL.of ho, at0, _, rfl, b, _, _, _, rfl, rfl, SqL.of ho, at1, l, _, _, _, rfl, rfl, SqL.of B.sc, atI_nat g1, ?_⟩
          refine ⟨_, rfl, b, _, _, _, rfl, rfl, SqL.of ho, at1, _, _, rfl, rfl, _, rfl, b, _, _, 1, rfl, rfl, ho, rfl, ?_⟩
          refine ⟨_, rfl, _, _, rfl, rfl, ⟨by decide, by decide, by decide⟩, _, _, rfl, rfl, _, rfl, ?_⟩
          refine ite2 (fun c => ?_) (fun c => ?_)
          · have c3 : (10 : Int) ^ (18 : Int).toNat ≤ ns[i] := of_decide_eq_true c
            refine ⟨_, rfl, _, _, rfl, rfl, ⟨by decide, by decide, by decide⟩, _, _, rfl, rfl, _, rfl, b, _, _, 2, rfl, rfl, upd_same, rfl, ?_⟩
            refine ⟨_, _, rfl, upd_upd, i + 1, ns[i] - 10 ^ (18 : Int).toNat, sa, by rfl, by omega, by omega, hs0, hs1⟩
          · refine ⟨_, rfl, b, _, _, _, rfl, rfl, SqL.of upd_same, at3, _, _, rfl, rfl, .inl ⟨by omega, by omega⟩, _, rfl, _, _, rfl, rfl, (by show (0 : Int) < 2147483563; decide), _, _, rfl, rfl, .inl ⟨by omega, by omega⟩, _, _, rfl, rfl, _, _, rfl, rfl, _, _, rfl, rfl, (by show (0 : Int) < 2147483563; decide), _, rfl, b, _, _, 3, rfl, rfl, upd_same, rfl, ?_⟩
            refine ⟨_, _, rfl, upd_upd, i + 1, 0, _, by rfl, by omega, by omega, ?_, ?_⟩
            · exact Int.emod_nonneg _ (by decide)
            · exact Int.emod_lt_of_pos _ (by decide)
        · refine ⟨none, _, rfl, stay, i, 0, sa, rfl, hi, by omega, hs0, hs1⟩
      · refine iteF ?_
        exact ⟨none, _, rfl, stay, i, r, sa, rfl, hi, hr0, hs0, hs1⟩
    · rintro σ H' ⟨v2, o, rfl, rfl, i, r, sa, rfl, hi, hr0, hs0, hs1⟩
      refine ⟨_, rfl, b, _, _, _, rfl, rfl, SqL.of upd_same, at2, _, _, rfl, rfl, _, rfl, ?_⟩
      refine ite2 (fun c => ?_) (fun c => ?_)
      · have c1 : 0 < r := of_decide_eq_true c
        refine ⟨_, rfl, b, _, _, _, rfl, rfl, SqL.of upd_same, at2, _, rfl, _, _, rfl, rfl, hm, ?_⟩
        refine ⟨_, rfl, b, _, _, _, rfl, rfl, SqL.of upd_same, at2, _, rfl, _, _, rfl, rfl, wide_div hm (b := 100) (by omega) (by decide) (by decide), _, rfl, b, _, _, 2, rfl, rfl, upd_same, rfl, ?_⟩
        refine ⟨_, rfl, ?_⟩
        rw [upd_upd]
        refine q _ _ (Int.emod_nonneg _ (by omega)) (Int.emod_lt_of_pos _ hm) ⟨i, r / m, sa, rfl, hi, Int.ediv_nonneg hr0 (by omega), hs0, hs1⟩
      · refine ⟨_, rfl, b, _, _, _, rfl, rfl, SqL.of upd_same, at3, ?_⟩
        have hq : sa * sa < 2 ^ 64 := by
          have : sa * sa ≤ sa * 2147483563 := Int.mul_le_mul_of_nonneg_left (by omega) hs0
          omega
        have hq0 : 0 ≤ sa * sa := Int.mul_nonneg hs0 hs0
        refine ⟨_, rfl, _, rfl, _, _, rfl, rfl, .inl ⟨by omega, by omega⟩, _, _, rfl, rfl, .inl ⟨by omega, by omega⟩, _, rfl, _, _, rfl, rfl, .inl ⟨by omega, by omega⟩, _, _, rfl, rfl, _, _, rfl, rfl, _, _, rfl, rfl, (by show (0 : Int) < 2147483563; decide), _, rfl, b, _, _, 3, rfl, rfl, upd_same, rfl, ?_⟩
        rw [upd_upd]
        obtain ⟨x, hx⟩ : ∃ x : Int, (sa * sa * 3 + sa * 16807 + 1013904223) % 2147483563 = x := ⟨_, rfl⟩
        have x0 : 0 ≤ x := hx ▸ Int.emod_nonneg _ (by decide)
        have x1 : x < 2147483563 := hx ▸ Int.emod_lt_of_pos _ (by decide)
        refine ⟨_, rfl, b, _, _, _, rfl, rfl, SqL.of upd_same, at3, _, _, rfl, rfl, ⟨by decide, by decide⟩, _, rfl, b, _, _, _, rfl, rfl, SqL.of upd_same, at3, _, _, rfl, rfl, (by show (0 : Int) < 8191; decide), _, _, rfl, rfl, .inl ⟨by omega, by omega⟩, _, _, rfl, rfl, _, rfl, _, _, rfl, rfl, hm, ?_⟩
        exact q _ _ (Int.emod_nonneg _ (by omega)) (Int.emod_lt_of_pos _ hm) ⟨i, r, x, by rw [← hx]; rfl, hi, hr0, x0, x1⟩
end
end Lw
set_option Elab.async false
set_option linter.all false
set_option maxRecDepth 100000
namespace Lw
open PySem L2
abbrev sLike : Stmt := top 14
/-- the built-in names that the law's helpers ask for -/
structure Bi (mg : Str → Option Value) : Prop where
  len : mg "len" = none
  list : mg "list" = none
  tuple : mg "tuple" = none
  bool : mg "bool" = none
  int : mg "int" = none
  str : mg "str" = none
  isi : mg "isinstance" = none
  all : mg "all" = none
  zip : mg "zip" = none
  range : mg "range" = none
def spOf (K : PySem.W.Frag) : Sp := fun vs H Q _ => ∃ (b l t : Addr) (ns : List Int) (xs : List V), vs = [.ref b, .ref t] ∧ BagAt H b l ns ∧ SqL K H t xs ∧ t ≠ b ∧ xs ≠ [] ∧ xs.length ≤ 1000 ∧
  ∀ (i : Nat) (v : V) (o : HO), xs[i]? = some v → BagO l ns o → Q v (upd H b o)
theorem if_t {c : Bool} {A B : Prop} (hc : c = true) (h : A) : if c = true then A else B := by
  rw [if_pos hc]
  exact h
theorem if_f {c : Bool} {A B : Prop} (hc : c = false) (h : B) : if c = true then A else B := by
  rw [hc, if_neg Bool.false_ne_true]
  exact h
theorem cut_all {xs : List V} (h : xs.length ≤ 63) : cutV xs none (some 63) = xs := by
  unfold cutV
  rw [HT.sIx_none, show HT.sIx xs.length xs.length (some 63) = min 63 xs.length from HT.sIx_nat xs.length xs.length 63, Nat.min_eq_right h]
  simp
section
variable {P : Program} {w : World} {K : PySem.W.Frag} {mg : Str → Option Value} {base : Heap}
theorem SqL.upd_ne {H : Hp} {a b : Addr} {xs : List V} {o : HO} (h : SqL K H a xs) (e : a ≠ b) : SqL K (upd H b o) a xs := by
  unfold SqL Rd at h ⊢
  rw [L2.upd_ne e]
  exact h
/-! ### _law_bag -/
theorem scBag : FnScope ["_law_script", "_law_salt", "_law_cell"] ["_law_script"] (defScope sBag) := ⟨rfl, rfl, rfl, by decide +kernel, rfl, by decide +kernel, by decide +kernel⟩
set_option maxHeartbeats 4000000 in
theorem ok_bag {f : Addr} {fd : FuncData} {k : Nat} (F : Fun K "_law_bag" "_law_bag" sBag f fd) (T : Bi mg) : FnOk P w K mg base CX0 (k + 1) f fd ["_law_script"] (spBag K) := by
  refine F.ok scBag (fun vs H Q E h => ?_) (fun cdv A outer s H vs Q E hr h => ?_)
  · obtain ⟨b, ns, rfl, _⟩ := h
    rfl
  · obtain ⟨a, ns, rfl, hS, hl, q⟩ := h
    refine ⟨_, pss_cons (ps_set (i := 1) scBag.nd rfl (Or.inl rfl) pe_int)
      (pss_cons (ps_for PassesOwn.never rfl (pi_list (pe_slice sl_list (pv 0) po_none (po_some pe_int))) (pg_name (i := 2) scBag.nd rfl (Or.inl rfl))
        (pss_one (ps_set (i := 1) scBag.nd rfl (Or.inl rfl) (pe_op op_mod (pe_op op_add (pe_op op_add (pe_op op_mul (pv 1) pe_int) (pe_op op_mod (pv 2) pe_int)) pe_int) pe_int))))
      (pss_one (ps_ret (pe_lst (pa_cons (pe_callTy call_list_of (by rfl) T.list (by decide +kernel) (pa_cons (pe_slice sl_list (pv 0) po_none (po_some pe_int)) pa_nil)) (pa_cons pe_int (pa_cons pe_int (pa_cons (pv 1) pa_nil)))))))), ?_⟩
    have hl' : (ns.map V.int).length ≤ 63 := by rw [List.length_map]; exact hl
    refine ⟨_, rfl, _, rfl, a, _, rfl, hS, fun p hp => ?_⟩
    rw [cut_all hl']
    have s1 : Same H (upd H p (.lst (ns.map V.int))) := same_upd hp
    refine ⟨p, rfl, ⟨_, SqL.of upd_same⟩, for_list (K := K) (a := p) (xs := ns.map V.int) (fun i σ H' => ∃ (v : Option V) (sa : Int), σ = [some (.ref a), some (.int sa), v] ∧ H' = upd H p (.lst (ns.map V.int)) ∧ 0 ≤ sa ∧ sa < 2147483563)
      ⟨none, 3803, rfl, rfl, by decide, by decide⟩ (fun i σ H' _ ⟨_, _, _, e, _⟩ => by subst e; exact SqL.of upd_same) ?_ ?_⟩
    · rintro i y σ H' hi ⟨v, sa, rfl, rfl, h0, h1⟩
      obtain ⟨z, rfl⟩ : ∃ z, y = V.int z := by
        rw [List.getElem?_map] at hi
        cases e : ns[i]? with
        | none =>
          rw [e] at hi
          cases hi
        | some z =>
          rw [e] at hi
          exact ⟨z, (Option.some.inj hi).symm⟩
      refine ⟨_, rfl, _, _, rfl, rfl, .inl ⟨by omega, by omega⟩, _, rfl, _, _, rfl, rfl, (by show (0 : Int) < 2147483563; decide), _, _, rfl, rfl, _, _, rfl, rfl, _, _, rfl, rfl, (by show (0 : Int) < 2147483563; decide), ?_⟩
      exact ⟨_, _, rfl, rfl, Int.emod_nonneg _ (by decide), Int.emod_lt_of_pos _ (by decide)⟩
    · rintro σ H' ⟨v, sa, rfl, rfl, h0, h1⟩
      refine ⟨_, rfl, _, rfl, a, _, rfl, s1.seq hS, fun p2 hp2 => ?_⟩
      rw [cut_all hl']
      refine ⟨p2, _, rfl, .inl (SqL.of upd_same), fun l hl2 => ?_⟩
      have s2 := s1.trans (same_upd (o := .lst (ns.map V.int)) hp2)
      have s3 := s2.trans (same_upd (o := .lst (ns.map V.int)) hl2)
      refine ⟨_, rfl, (by show 4 ≤ sizeLine; decide), fun b hb => ?_⟩
      have nl : H l = none := s2.free hl2
      have nb : H b = none := s3.free hb
      have lb : l ≠ b := fun e => by
        rw [← e, upd_same] at hb
        cases hb
      refine q b l _ (s3.trans (same_upd hb)) nb nl ⟨⟨_, upd_same, 0, 0, sa, rfl, Nat.zero_le _, by decide, h0, h1⟩, ?_, hl⟩
      rw [upd_ne lb, upd_same]
/-! ### _law_of -/
theorem scOf : FnScope ["_law_bag_here", "_law_things"] ["_law_bag_here", "_law_things"] (defScope sOf) := ⟨rfl, rfl, rfl, by decide +kernel, rfl, by decide +kernel, by decide +kernel⟩
set_option maxHeartbeats 4000000 in
theorem ok_of {f : Addr} {fd : FuncData} {k : Nat} (F : Fun K "_law_of" "_law_of" sOf f fd) (T : Bi mg) (cP : C8.Cal P w K mg base 1 "_law_pull" spPull []) : FnOk P w K mg base CX0 (k + 2) f fd ["_law_bag_here", "_law_things"] (spOf K) := by
  refine F.ok scOf (fun vs H Q E h => ?_) (fun cdv A outer s H vs Q E hr h => ?_)
  · obtain ⟨b, l, t, ns, xs, rfl, _⟩ := h
    rfl
  · obtain ⟨b, l, t, ns, xs, rfl, B, hS, ne, nn, hl, q⟩ := h
    refine ⟨_, pss_one (ps_ret (pe_ix ix_list (pv 1) (C8.pe_c cP hr (Nat.le_add_left 1 k) (by rfl) (pa_cons (pv 0) (pa_cons (pe_callB call_len_seq (by rfl) T.len PySem.boot_len (pa_cons (pv 1) pa_nil)) pa_nil))) (fun _ _ => rfl))), ?_⟩
    have l0 : 0 < xs.length := List.length_pos_iff.mpr nn
    refine ⟨_, rfl, _, rfl, _, rfl, t, xs, rfl, .inl hS, b, l, ns, _, rfl, B, by omega, by omega, fun v o v0 v1 BO => ?_⟩
    have hv : v.toNat < xs.length := by omega
    have hvv : ((v.toNat : Nat) : Int) = v := Int.toNat_of_nonneg v0
    have g : atI xs v = some xs[v.toNat] := by
      have := atI_nat (xs := xs) (j := v.toNat) (v := xs[v.toNat]) (List.getElem?_eq_getElem hv)
      rw [hvv] at this
      exact this
    exact ⟨t, xs, v, _, rfl, rfl, SqL.upd_ne hS ne, g, q v.toNat _ o (List.getElem?_eq_getElem hv) BO⟩
/-! ### _law_like of like things is True -/
def atomV : V → Bool
  | .non => true
  | .bl _ => true
  | .int _ => true
  | .str _ => true
  | _ => false
def Lk (H : Hp) : Nat → V → V → Prop
  | 0, _, _ => False
  | n + 1, x, y => (x = y ∧ atomV x = true) ∨
    (∃ (a b : Addr) (xs ys : List V), x = .ref a ∧ y = .ref b ∧ H a = some (.lst xs) ∧ H b = some (.lst ys) ∧ xs.length = ys.length ∧ xs.length ≤ 1000 ∧ ∀ (i : Nat) u v, xs[i]? = some u → ys[i]? = some v → Lk H n u v) ∨
    (∃ (a b : Addr) (xs ys : List V), x = .ref a ∧ y = .ref b ∧ H a = some (.tup xs) ∧ H b = some (.tup ys) ∧ xs.length = ys.length ∧ xs.length ≤ 1000 ∧ ∀ (i : Nat) u v, xs[i]? = some u → ys[i]? = some v → Lk H n u v)
theorem Lk.same {H H' : Hp} (s : Same H H') : ∀ (n : Nat) (x y : V), Lk H n x y → Lk H' n x y
  | 0, _, _, h => h
  | n + 1, x, y, h => by
    rcases h with h | ⟨a, b, xs, ys, e1, e2, e3, e4, e5, e6, h⟩ | ⟨a, b, xs, ys, e1, e2, e3, e4, e5, e6, h⟩
    · exact .inl h
    · exact .inr (.inl ⟨a, b, xs, ys, e1, e2, s _ _ e3, s _ _ e4, e5, e6, fun i u v h1 h2 => Lk.same s n u v (h i u v h1 h2)⟩)
    · exact .inr (.inr ⟨a, b, xs, ys, e1, e2, s _ _ e3, s _ _ e4, e5, e6, fun i u v h1 h2 => Lk.same s n u v (h i u v h1 h2)⟩)
def spLike (n : Nat) : Sp := fun vs H Q _ => ∃ x y, vs = [x, y] ∧ Lk H n x y ∧ ∀ H', Same H H' → Q (.bl true) H'
theorem scLike : FnScope ["_law_found", "_law_due", "_law_one", "_law_other"] ["_law_found", "_law_due"] (defScope sLike) := ⟨rfl, rfl, rfl, by decide +kernel, rfl, by decide +kernel, by decide +kernel⟩
theorem walk_zipT {a b : Addr} {xs ys : List V} {n : Nat} (hn : n = min xs.length ys.length) : Walk (RZ.ItzT K a b) n (fun H => SqT K H a xs ∧ SqT K H b ys) (YPair (fun i => xs[i]?) (fun i => ys[i]?)) := by
  subst hn
  refine ⟨fun i H hi q => ?_, fun H q => ?_, fun i H x H' hi q y => ?_⟩
  · have h1 : i < xs.length := by omega
    have h2 : i < ys.length := by omega
    exact ⟨xs, ys, xs[i], ys[i], q.1, q.2, by simp [h1], by simp [h2]⟩
  · exact ⟨xs, ys, q.1, q.2, by omega⟩
  · obtain ⟨T, u, v, e1, e2, e3, g1, g2⟩ := y
    exact ⟨T, u, v, e1, e2, e3, g1 xs q.1, g2 ys q.2⟩
/-- what the law asks of an atom: its type's name -/
def tyV : V → String
  | .non => "NoneType"
  | .bl _ => "bool"
  | .int _ => "int"
  | .str _ => "str"
  | _ => "none"
theorem tyV_of {H : Hp} {x : V} (h : atomV x = true) : TyX K H x (.type (tyV x)) := by
  cases x with
  | non => exact .base .non
  | bl b => exact .base (.bl b)
  | int i => exact .base (.int i)
  | str z => exact .base (.str z)
  | _ => cases h
theorem tyV_cases {x : V} (h : atomV x = true) : tyV x = "NoneType" ∨ tyV x = "bool" ∨ tyV x = "int" ∨ tyV x = "str" := by
  cases x with
  | non => exact .inl rfl
  | bl b => exact .inr (.inl rfl)
  | int i => exact .inr (.inr (.inl rfl))
  | str z => exact .inr (.inr (.inr rfl))
  | _ => cases h
/-- isinstance of an atom: some answer, by the type alone -/
def isB (x : V) (T : String) : Bool := (kitB (tyV x) T).getD false
theorem isB_of {x : V} {T : String} (h : atomV x = true) (hT : T = "list" ∨ T = "tuple" ∨ T = "bool" ∨ T = "int" ∨ T = "str") : PySem.W.kitOne K (.type (tyV x)) (.type T) = some (isB x T) := by
  refine kit_ty ?_
  unfold isB
  rcases tyV_cases h with e | e | e | e <;> rw [e] <;> rcases hT with e | e | e | e | e <;> rw [e] <;> decide +kernel
theorem isB_no {x : V} (h : atomV x = true) : PySem.W.kitAny K (.type (tyV x)) [.type "list", .type "tuple"] = some false := by
  rcases tyV_cases h with e | e | e | e <;> rw [e]
  all_goals
    refine kitAny_cons (b := false) (kit_ty (by decide +kernel)) (fun _ => ?_) (fun z => by cases z)
    refine kitAny_cons (b := false) (kit_ty (by decide +kernel)) (fun _ => rfl) (fun z => by cases z)
theorem all_true (n : Nat) : (List.replicate n true).all id = true := by
  rw [List.all_replicate]
  simp
theorem like0 {f : Addr} {fd : FuncData} {k : Nat} (F : Fun K "_law_like" "_law_like" sLike f fd) : FnOk P w K mg base CX0 (k + 1) f fd ["_law_found", "_law_due"] (spLike 0) := by
  refine F.ok scLike (fun vs H Q E h => ?_) (fun cdv A outer s H vs Q E hr h => ?_)
  · obtain ⟨x, y, rfl, _⟩ := h
    rfl
  · obtain ⟨x, y, rfl, L, q⟩ := h
    exact L.elim
set_option maxHeartbeats 8000000 in
theorem ok_like {f : Addr} {fd : FuncData} {n k : Nat} (F : Fun K "_law_like" "_law_like" sLike f fd) (T : Bi mg) (c : 0 < n → C8.Cal P w K mg base (k + 1) "_law_like" (spLike (n - 1)) []) : FnOk P w K mg base CX0 (k + 2) f fd ["_law_found", "_law_due"] (spLike n) := by
  refine F.ok scLike (fun vs H Q E h => ?_) (fun cdv A outer s H vs Q E hr h => ?_)
  · obtain ⟨x, y, rfl, _⟩ := h
    rfl
  · obtain ⟨x, y, rfl, L, q⟩ := h
    cases n with
    | zero => exact L.elim
    | succ n =>
      have cc := c (Nat.succ_pos n)
      refine ⟨_, pss_cons (ps_if (pt_val (pe_callB call_isiT (by rfl) T.isi (by decide +kernel) (pa_cons (pv 1) (pa_cons (pe_tup (pa_cons (pe_bltn (v := .ty "list") (by rfl) T.list (by decide +kernel) rfl) (pa_cons (pe_bltn (v := .ty "tuple") (by rfl) T.tuple (by decide +kernel) rfl) pa_nil))) pa_nil))))
          (pss_cons (ps_if (PW.pt (pw_or (pt_cmpR op_ne (pe_callB call_isi (by rfl) T.isi (by decide +kernel) (pa_cons (pv 0) (pa_cons (pe_bltn (v := .ty "list") (by rfl) T.list (by decide +kernel) rfl) pa_nil))) (pe_callB call_isi (by rfl) T.isi (by decide +kernel) (pa_cons (pv 1) (pa_cons (pe_bltn (v := .ty "list") (by rfl) T.list (by decide +kernel) rfl) pa_nil))) (nomark _))
              (pw_or1 (pt_cmpR op_ne (pe_callB call_isi (by rfl) T.isi (by decide +kernel) (pa_cons (pv 0) (pa_cons (pe_bltn (v := .ty "tuple") (by rfl) T.tuple (by decide +kernel) rfl) pa_nil))) (pe_callB call_isi (by rfl) T.isi (by decide +kernel) (pa_cons (pv 1) (pa_cons (pe_bltn (v := .ty "tuple") (by rfl) T.tuple (by decide +kernel) rfl) pa_nil))) (nomark _))))) (pss_one (ps_ret pe_bl)) pss_nil)
          (pss_one (ps_ret (pe_and (pe_cmpR op_eq (pe_callB call_len_seq (by rfl) T.len PySem.boot_len (pa_cons (pv 0) pa_nil)) (pe_callB call_len_seq (by rfl) T.len PySem.boot_len (pa_cons (pv 1) pa_nil)) (nomark _))
            (pe_one (pe_callB (cr_all rfl) (by rfl) T.all (by decide +kernel) (pa_cons
              (pe_lc (own := [("_law_one", 2), ("_law_other", 3)]) (g := gTup K 2 (gCons (gName 2) (gCons (gName 3) gNil))) (tt := tYes) (te := tCall (spLike n) [] E0 (tCons (tVar 2) (tCons (tVar 3) tNil))) rfl scLike.nd (RZ.pi_zipA (by rfl) T.zip (pa_cons (pv 0) (pa_cons (pv 1) pa_nil)))
                (blkOk_by (N := ["_law_found", "_law_due", "_law_one", "_law_other"]) (sc := defScope sLike) (by decide +kernel))
                (fun _ _ _ _ _ => by exact pg_tup rfl (pgs_cons (pg_name (i := 2) scLike.nd rfl (Or.inl rfl)) (pgs_cons (pg_name (i := 3) scLike.nd rfl (Or.inl rfl)) pgs_nil)))
                (fun _ _ _ _ _ => pts_nil)
                (fun _ _ _ _ _ => by exact C8.pe_c cc hr (Nat.le_refl _) (by rfl) (pa_cons (pv 2) (pa_cons (pv 3) pa_nil)))) pa_nil))))))) pss_nil)
        (pss_cons (ps_if (PW.pt (pw_or (pt_cmpR op_isN (pv 0) pe_non (nomark _)) (pw_or1 (pt_cmpR op_isN (pv 1) pe_non (nomark _))))) (pss_one (ps_ret (pe_and (pe_cmpR op_isN (pv 0) pe_non (nomark _)) (pe_one (pe_cmpR op_isN (pv 1) pe_non (nomark _)))))) pss_nil)
        (pss_cons (ps_if (PW.pt (pw_or (pt_cmpR op_ne (pe_callB call_isi (by rfl) T.isi (by decide +kernel) (pa_cons (pv 0) (pa_cons (pe_bltn (v := .ty "bool") (by rfl) T.bool (by decide +kernel) rfl) pa_nil))) (pe_callB call_isi (by rfl) T.isi (by decide +kernel) (pa_cons (pv 1) (pa_cons (pe_bltn (v := .ty "bool") (by rfl) T.bool (by decide +kernel) rfl) pa_nil))) (nomark _))
              (pw_or1 (pt_cmpR op_ne (pe_callB call_isi (by rfl) T.isi (by decide +kernel) (pa_cons (pv 0) (pa_cons (pe_bltn (v := .ty "int") (by rfl) T.int (by decide +kernel) rfl) pa_nil))) (pe_callB call_isi (by rfl) T.isi (by decide +kernel) (pa_cons (pv 1) (pa_cons (pe_bltn (v := .ty "int") (by rfl) T.int (by decide +kernel) rfl) pa_nil))) (nomark _))))) (pss_one (ps_ret pe_bl)) pss_nil)
        (pss_one (ps_ret (pe_and (pe_cmpR op_eq (pe_callB call_isi (by rfl) T.isi (by decide +kernel) (pa_cons (pv 0) (pa_cons (pe_bltn (v := .ty "str") (by rfl) T.str (by decide +kernel) rfl) pa_nil))) (pe_callB call_isi (by rfl) T.isi (by decide +kernel) (pa_cons (pv 1) (pa_cons (pe_bltn (v := .ty "str") (by rfl) T.str (by decide +kernel) rfl) pa_nil))) (nomark _)) (pe_one (pe_cmpR op_eq (pv 0) (pv 1) (nomark _)))))))), ?_⟩
      rcases L with ⟨rfl, ha⟩ | ⟨a, b, xs, ys, rfl, rfl, ea, eb, hl, h1000, hp⟩ | ⟨a, b, xs, ys, rfl, rfl, ea, eb, hl, h1000, hp⟩
      · refine ⟨_, rfl, (by show 2 ≤ sizeLine; decide), fun t ht => ?_⟩
        have s1 := same_upd (o := .tup [.ty "list", .ty "tuple"]) ht
        refine ⟨x, t, _, _, _, _, rfl, upd_same, .cons (.ty _) (.cons (.ty _) .nil), tyV_of ha, isB_no ha, false, rfl, ?_⟩
        refine iteF ?_
        refine ⟨_, rfl, rfl, _, rfl, ?_⟩
        by_cases hx : x = .non
        · subst hx
          refine if_t (decide_eq_true rfl) (iteT ?_)
          exact ⟨_, rfl, rfl, _, rfl, if_t (decide_eq_true rfl) ⟨_, rfl, rfl, q _ s1⟩⟩
        · refine if_f (decide_eq_false hx) ⟨_, rfl, rfl, _, rfl, if_f (decide_eq_false hx) ?_⟩
          refine ⟨_, rfl, x, _, _, _, _, rfl, .ty _, tyV_of ha, isB_of ha (by simp), _, rfl, x, _, _, _, _, rfl, .ty _, tyV_of ha, isB_of ha (by simp), rfl, _, rfl, ?_⟩
          refine if_f (by simp) ?_
          refine ⟨_, rfl, x, _, _, _, _, rfl, .ty _, tyV_of ha, isB_of ha (by simp), _, rfl, x, _, _, _, _, rfl, .ty _, tyV_of ha, isB_of ha (by simp), rfl, _, rfl, ?_⟩
          refine if_f (by simp) ?_
          refine ⟨_, rfl, x, _, _, _, _, rfl, .ty _, tyV_of ha, isB_of ha (by simp), _, rfl, x, _, _, _, _, rfl, .ty _, tyV_of ha, isB_of ha (by simp), rfl, _, rfl, ?_⟩
          refine if_t (by simp) ?_
          refine ⟨_, rfl, _, rfl, ?_, ?_⟩
          · cases x <;> first | rfl | (cases ha)
          · rw [decide_eq_true rfl]
            exact q _ s1
      · refine ⟨_, rfl, (by show 2 ≤ sizeLine; decide), fun t ht => ?_⟩
        have s1 := same_upd (o := .tup [.ty "list", .ty "tuple"]) ht
        have ea1 := s1 _ _ ea
        have eb1 := s1 _ _ eb
        refine ⟨.ref b, t, _, _, _, _, rfl, upd_same, .cons (.ty _) (.cons (.ty _) .nil), .base (.lst eb1), kitAny_cons (b := true) (kit_ty (by decide +kernel)) (fun z => by cases z) (fun _ => rfl), true, rfl, ?_⟩
        refine iteT ?_
        refine ⟨_, rfl, _, _, _, _, true, rfl, .ty _, .base (.lst ea1), kit_ty (by decide +kernel), _, rfl, _, _, _, _, true, rfl, .ty _, .base (.lst eb1), kit_ty (by decide +kernel), rfl, _, rfl, ?_⟩
        refine if_f (by simp) ?_
        refine ⟨_, rfl, _, _, _, _, false, rfl, .ty _, .base (.lst ea1), kit_ty (by decide +kernel), _, rfl, _, _, _, _, false, rfl, .ty _, .base (.lst eb1), kit_ty (by decide +kernel), rfl, _, rfl, ?_⟩
        refine if_f (by simp) ?_
        refine ⟨_, rfl, a, xs, rfl, .inl (SqL.of ea1), _, rfl, b, ys, rfl, .inl (SqL.of eb1), rfl, _, rfl, ?_⟩
        refine if_t (by rw [hl]; exact decide_eq_true rfl) ?_
        refine ⟨_, rfl, _, rfl, a, b, xs, ys, rfl, .inl ⟨SqL.of ea1, SqL.of eb1, fun D hD => ?_⟩⟩
        have s2 := s1.trans (same_upd (o := .lst []) hD)
        refine lc_it (walk_zip (K := K) (a := a) (b := b) (xs := xs) (ys := ys) (n := xs.length) (by omega)) (fun i H' => Same H H' ∧ H' D = some (.lst ((List.replicate i true).map V.bl))) ⟨s2, upd_same⟩ (fun i H' _ p => ⟨SqL.of (p.1 _ _ ea), SqL.of (p.1 _ _ eb)⟩) ?_ ?_
        · rintro i v H1 H' hi ⟨sm, eD⟩ ⟨T, x, y, rfl, hT, rfl, gx, gy⟩
          have s3 := sm.trans (same_upd (o := .tup [x, y]) hT)
          refine ⟨T, _, rfl, SqT.of upd_same, rfl, _, _, rfl, _, _, rfl, rfl, rfl, ?_⟩
          refine ⟨_, rfl, _, rfl, x, y, rfl, Lk.same s3 n _ _ (hp i x y gx gy), fun H4 s4 => ?_⟩
          have eD4 : H4 D = some (.lst ((List.replicate i true).map V.bl)) := s4 _ _ (by rw [upd_ne (ne_of_none eD hT)]; exact eD)
          have nD : H D = none := s1.free hD
          refine ⟨_, eD4, ?_, ?_, ?_⟩
          · rw [List.length_map, List.length_replicate]
            exact small1000 (by omega)
          · intro c o ec
            rw [upd_ne (ne_of_none ec nD)]
            exact s4 _ _ (s3 _ _ ec)
          · rw [upd_same, List.replicate_succ', List.map_append]
            rfl
        · rintro H' ⟨sm, eD⟩
          refine ⟨D, List.replicate xs.length true, rfl, SqL.of eD, ?_⟩
          rw [all_true]
          exact q H' sm
      · refine ⟨_, rfl, (by show 2 ≤ sizeLine; decide), fun t ht => ?_⟩
        have s1 := same_upd (o := .tup [.ty "list", .ty "tuple"]) ht
        have ea1 := s1 _ _ ea
        have eb1 := s1 _ _ eb
        refine ⟨.ref b, t, _, _, _, _, rfl, upd_same, .cons (.ty _) (.cons (.ty _) .nil), .base (.tup eb1), kitAny_cons (b := false) (kit_ty (by decide +kernel)) (fun _ => kitAny_cons (b := true) (kit_ty (by decide +kernel)) (fun z => by cases z) (fun _ => rfl)) (fun z => by cases z), true, rfl, ?_⟩
        refine iteT ?_
        refine ⟨_, rfl, _, _, _, _, false, rfl, .ty _, .base (.tup ea1), kit_ty (by decide +kernel), _, rfl, _, _, _, _, false, rfl, .ty _, .base (.tup eb1), kit_ty (by decide +kernel), rfl, _, rfl, ?_⟩
        refine if_f (by simp) ?_
        refine ⟨_, rfl, _, _, _, _, true, rfl, .ty _, .base (.tup ea1), kit_ty (by decide +kernel), _, rfl, _, _, _, _, true, rfl, .ty _, .base (.tup eb1), kit_ty (by decide +kernel), rfl, _, rfl, ?_⟩
        refine if_f (by simp) ?_
        refine ⟨_, rfl, a, xs, rfl, .inr (SqT.of ea1), _, rfl, b, ys, rfl, .inr (SqT.of eb1), rfl, _, rfl, ?_⟩
        refine if_t (by rw [hl]; exact decide_eq_true rfl) ?_
        refine ⟨_, rfl, _, rfl, a, b, xs, ys, rfl, .inr ⟨SqT.of ea1, SqT.of eb1, fun D hD => ?_⟩⟩
        have s2 := s1.trans (same_upd (o := .lst []) hD)
        refine lc_it (walk_zipT (K := K) (a := a) (b := b) (xs := xs) (ys := ys) (n := xs.length) (by omega)) (fun i H' => Same H H' ∧ H' D = some (.lst ((List.replicate i true).map V.bl))) ⟨s2, upd_same⟩ (fun i H' _ p => ⟨SqT.of (p.1 _ _ ea), SqT.of (p.1 _ _ eb)⟩) ?_ ?_
        · rintro i v H1 H' hi ⟨sm, eD⟩ ⟨T, x, y, rfl, hT, rfl, gx, gy⟩
          have s3 := sm.trans (same_upd (o := .tup [x, y]) hT)
          refine ⟨T, _, rfl, SqT.of upd_same, rfl, _, _, rfl, _, _, rfl, rfl, rfl, ?_⟩
          refine ⟨_, rfl, _, rfl, x, y, rfl, Lk.same s3 n _ _ (hp i x y gx gy), fun H4 s4 => ?_⟩
          have eD4 : H4 D = some (.lst ((List.replicate i true).map V.bl)) := s4 _ _ (by rw [upd_ne (ne_of_none eD hT)]; exact eD)
          have nD : H D = none := s1.free hD
          refine ⟨_, eD4, ?_, ?_, ?_⟩
          · rw [List.length_map, List.length_replicate]
            exact small1000 (by omega)
          · intro c o ec
            rw [upd_ne (ne_of_none ec nD)]
            exact s4 _ _ (s3 _ _ ec)
          · rw [upd_same, List.replicate_succ', List.map_append]
            rfl
        · rintro H' ⟨sm, eD⟩
          refine ⟨D, List.replicate xs.length true, rfl, SqL.of eD, ?_⟩
          rw [all_true]
          exact q H' sm
end
end Lw
set_option Elab.async false
set_option linter.all false
set_option maxRecDepth 100000
namespace Lw
open PySem L2
abbrev sPlan : Stmt := top 17
/-! ### edges: their tuples' places, and their two ends -/
abbrev Es := List (Addr × Int × Int)
def Ed (H : Hp) (ts : Es) : Prop := ∀ e ∈ ts, H e.1 = some (.tup [.int e.2.1, .int e.2.2])
def vsOf (ts : Es) : List V := ts.map fun e => .ref e.1
def psOf (ts : Es) : List (Int × Int) := ts.map (·.2)
/-- all that stood, but at b, stands -/
def KeepB (b : Addr) (H H' : Hp) : Prop := ∀ c o, c ≠ b → H c = some o → H' c = some o
theorem KeepB.rfl' {b : Addr} {H : Hp} : KeepB b H H := fun _ _ _ e => e
theorem KeepB.trans {b : Addr} {H H1 H2 : Hp} (x : KeepB b H H1) (y : KeepB b H1 H2) : KeepB b H H2 := fun c o n e => y c o n (x c o n e)
theorem KeepB.of_same {b : Addr} {H H' : Hp} (s : Same H H') : KeepB b H H' := fun c o _ e => s c o e
theorem KeepB.updb {b : Addr} {H : Hp} {o : HO} : KeepB b H (upd H b o) := fun c o n e => by
  rw [upd_ne n]
  exact e
theorem KeepB.new {b p : Addr} {H H' : Hp} {o : HO} (x : KeepB b H H') (n : H' p = none) : KeepB b H (upd H' p o) := x.trans (.of_same (same_upd n))
/-- a store at what was not there at first -/
theorem KeepB.at {b p : Addr} {H H' : Hp} {o : HO} (x : KeepB b H H') (n : H p = none) : KeepB b H (upd H' p o) := fun c o' nb e => by
  rw [upd_ne (ne_of_none e n)]
  exact x c o' nb e
theorem KeepB.free {b p : Addr} {H H' : Hp} {ob : HO} (x : KeepB b H H') (hb : H' b = some ob) (n : H' p = none) : H p = none := by
  cases e : H p with
  | none => rfl
  | some o =>
    have np : p ≠ b := fun z => by
      rw [z, hb] at n
      cases n
    rw [x p o np e] at n
    cases n
theorem BagAt.at_b {H : Hp} {b l : Addr} {ns : List Int} (B : BagAt H b l ns) : ∃ xs, H b = some (.lst xs) := by
  obtain ⟨o, ho, i, r, s, rfl, _⟩ := B.ob
  exact ⟨_, ho⟩
theorem BagAt.ne_tup {H : Hp} {b l c : Addr} {ns : List Int} {xs : List V} (B : BagAt H b l ns) (h : H c = some (.tup xs)) : c ≠ b := fun e => by
  obtain ⟨ys, hb⟩ := B.at_b
  rw [e, hb] at h
  cases h
theorem BagAt.ne_ins {H : Hp} {b l c C dx : Addr} {ns : List Int} {fs : List (Str × V)} (B : BagAt H b l ns) (h : H c = some (.ins C dx fs)) : c ≠ b := fun e => by
  obtain ⟨ys, hb⟩ := B.at_b
  rw [e, hb] at h
  cases h
theorem BagAt.ne_new {H : Hp} {b l c : Addr} {ns : List Int} (B : BagAt H b l ns) (h : H c = none) : c ≠ b := fun e => by
  obtain ⟨ys, hb⟩ := B.at_b
  rw [e, hb] at h
  cases h
theorem vsOf_cons_ne {l : Addr} {ts : Es} {i : Nat} {r s : Int} : vsOf ts ≠ [.ref l, .int (i : Int), .int r, .int s] := fun e => by
  have h : (vsOf ts)[1]? = some (V.int (i : Int)) := by rw [e]; rfl
  unfold vsOf at h
  rw [List.getElem?_map] at h
  cases g : ts[1]? with
  | none => rw [g] at h; cases h
  | some x => rw [g] at h; cases h
theorem BagAt.ne_vs {H : Hp} {b l c : Addr} {ns : List Int} {ts : Es} (B : BagAt H b l ns) (h : H c = some (.lst (vsOf ts))) : c ≠ b := fun e => by
  obtain ⟨o, ho, i, r, s, rfl, _⟩ := B.ob
  rw [e, ho] at h
  injection h with h
  injection h with h
  exact vsOf_cons_ne h.symm
theorem Ed.keep {H H' : Hp} {b l : Addr} {ns : List Int} {ts : Es} (h : Ed H ts) (B : BagAt H b l ns) (k : KeepB b H H') : Ed H' ts := fun e he => k _ _ (B.ne_tup (h e he)) (h e he)
theorem Ed.same {H H' : Hp} {ts : Es} (h : Ed H ts) (k : Same H H') : Ed H' ts := fun e he => k _ _ (h e he)
theorem Ed.app {H : Hp} {ts us : Es} (h : Ed H ts) (h2 : Ed H us) : Ed H (ts ++ us) := fun e he => (List.mem_append.mp he).elim (h e) (h2 e)
theorem Ed.nil {H : Hp} : Ed H [] := fun e he => nomatch he
theorem Ed.one {H : Hp} {t : Addr} {x y : Int} (h : H t = some (.tup [.int x, .int y])) : Ed H [(t, x, y)] := fun e he => by
  have z := List.mem_singleton.mp he
  subst z
  exact h
/-- the bag where all but the bag stands -/
theorem BagAt.new {H : Hp} {b l p : Addr} {ns : List Int} {o : HO} (B : BagAt H b l ns) (n : H p = none) : BagAt (L2.upd H p o) b l ns := B.same (same_upd n)
theorem BagAt.off {H : Hp} {b l p : Addr} {ns : List Int} {o : HO} (B : BagAt H b l ns) (nb : p ≠ b) (nl : p ≠ l) : BagAt (L2.upd H p o) b l ns := by
  obtain ⟨ob, hob, hB⟩ := B.ob
  exact ⟨⟨ob, by rw [upd_ne nb.symm]; exact hob, hB⟩, by rw [upd_ne nl.symm]; exact B.sc, B.ln⟩
structure Valid (n : Int) (ts : Es) : Prop where
  rg : ∀ e ∈ ts, 0 ≤ e.2.1 ∧ e.2.1 < n ∧ 0 ≤ e.2.2 ∧ e.2.2 < n
  sr : ∀ k : Int, 0 ≤ k → k < n → ∃ e ∈ ts, e.2.1 = k
structure PlanAt (H : Hp) (p q : Addr) (n : Int) (ts : Es) : Prop where
  tp : H p = some (.tup [.int n, .ref q])
  ls : H q = some (.lst (vsOf ts))
  ed : Ed H ts
  va : Valid n ts
  n1 : 1 ≤ n
def spPlan : Sp := fun vs H Q _ => ∃ (b l : Addr) (ns : List Int) (most many : Int), vs = [.ref b, .int most, .int many] ∧ BagAt H b l ns ∧ 1 ≤ most ∧ most ≤ many ∧ many ≤ 100 ∧
  ∀ (p q : Addr) (n : Int) (ts : Es) (H' : Hp), KeepB b H H' → BagAt H' b l ns → H p = none → H q = none → PlanAt H' p q n ts → n ≤ most → (ts.length : Int) ≤ many → Q (.ref p) H'
theorem cut_lo {xs : List V} {k : Nat} (h : k ≤ xs.length) : cutV xs none (some (k : Int)) = xs.take k := by
  unfold cutV
  rw [HT.sIx_none, HT.sIx_nat, Nat.min_eq_left h]
  simp
theorem cut_hi {xs : List V} {k : Nat} (h : k ≤ xs.length) : cutV xs (some (k : Int)) none = xs.drop k := by
  unfold cutV
  rw [HT.sIx_none, HT.sIx_nat, Nat.min_eq_left h]
  rw [List.take_of_length_le]
  rw [List.length_drop]
  exact Nat.le_refl _
section
variable {P : Program} {w : World} {K : PySem.W.Frag} {mg : Str → Option Value} {base : Heap}
theorem scPlan : FnScope ["_law_bag_here", "_law_most", "_law_many", "_law_size", "_law_pairs", "_law_k", "_law_at", "_law_state"] ["_law_bag_here", "_law_most", "_law_many"] (defScope sPlan) := ⟨rfl, rfl, rfl, by decide +kernel, rfl, by decide +kernel, by decide +kernel⟩
set_option maxHeartbeats 8000000 in
theorem ok_plan {f : Addr} {fd : FuncData} {k : Nat} (F : Fun K "_law_plan" "_law_plan" sPlan f fd) (T : Bi mg) (cP : C8.Cal P w K mg base 1 "_law_pull" spPull []) : FnOk P w K mg base CX0 (k + 2) f fd ["_law_bag_here", "_law_most", "_law_many"] spPlan := by
  refine F.ok scPlan (fun vs H Q E h => ?_) (fun cdv A outer s H vs Q E hr h => ?_)
  · obtain ⟨b, l, ns, m1, m2, rfl, _⟩ := h
    rfl
  · obtain ⟨b, l, ns, most, many, rfl, B, hm1, hm2, hm3, q⟩ := h
    have hk : 1 ≤ k + 1 := Nat.le_add_left 1 k
    refine ⟨_, pss_cons (ps_set (i := 3) scPlan.nd rfl (Or.inr rfl) (pe_op op_add pe_int (C8.pe_c cP hr hk (by rfl) (pa_cons (pv 0) (pa_cons (pv 1) pa_nil)))))
      (pss_cons (ps_setLc (i := 4) (own := [("_law_state", 7)]) (g := gName 7) (tt := tYes) (te := tTup (tCons (tVar 7) (tCons (tCall spPull [] E0 (tCons (tVar 0) (tCons (tVar 3) tNil))) tNil))) rfl scPlan.nd rfl rfl (sw_true rfl rfl rfl (by decide +kernel))
          (pi_range1 (by rfl) T.range (pa_cons (pv 3) pa_nil))
          (blkOk_by (N := ["_law_bag_here", "_law_most", "_law_many", "_law_size", "_law_pairs", "_law_k", "_law_at", "_law_state"]) (sc := defScope sPlan) (by decide +kernel))
          (fun _ _ _ _ _ => by exact pg_name (i := 7) scPlan.nd rfl (Or.inl rfl))
          (fun _ _ _ _ _ => pts_nil)
          (fun _ _ _ _ _ => by exact pe_tup (pa_cons (pv 7) (pa_cons (C8.pe_c cP hr hk (by rfl) (pa_cons (pv 0) (pa_cons (pv 3) pa_nil))) pa_nil))))
      (pss_cons (ps_for PassesOwn.never rfl (pi_range1 (by rfl) T.range (pa_cons (C8.pe_c cP hr hk (by rfl) (pa_cons (pv 0) (pa_cons (pe_op op_add (pe_op op_sub (pv 2) (pv 3)) pe_int) pa_nil))) pa_nil)) (pg_name (i := 5) scPlan.nd rfl (Or.inl rfl))
        (pss_cons (ps_set (i := 6) scPlan.nd rfl (Or.inl rfl) (C8.pe_c cP hr hk (by rfl) (pa_cons (pv 0) (pa_cons (pe_op op_add (pe_callB call_len_seq (by rfl) T.len PySem.boot_len (pa_cons (pv 4) pa_nil)) pe_int) pa_nil))))
        (pss_one (ps_set (i := 4) scPlan.nd rfl (Or.inl rfl) (pe_op op_cat (pe_op op_cat (pe_slice sl_list (pv 4) po_none (po_some (pv 6)))
          (pe_lst (pa_cons (pe_tup (pa_cons (C8.pe_c cP hr hk (by rfl) (pa_cons (pv 0) (pa_cons (pv 3) pa_nil))) (pa_cons (C8.pe_c cP hr hk (by rfl) (pa_cons (pv 0) (pa_cons (pv 3) pa_nil))) pa_nil))) pa_nil)))
          (pe_slice sl_list (pv 4) (po_some (pv 6)) po_none))))))
      (pss_one (ps_ret (pe_tup (pa_cons (pv 3) (pa_cons (pv 4) pa_nil))))))), ?_⟩
    -- size
    refine ⟨_, rfl, _, rfl, b, l, ns, most, rfl, B, by omega, by omega, fun v o v0 v1 BO => ?_⟩
    refine ⟨_, _, rfl, rfl, ?_⟩
    have B1 := B.upd BO
    have k1 : KeepB b H (upd H b o) := .updb
    have hv0 : 0 ≤ 1 + v := by omega
    -- pairs: the comprehension
    refine ⟨_, rfl, 1 + v, rfl, by omega, by omega, fun D hD => ?_⟩
    have hbD : D ≠ b := B1.ne_new hD
    have nD : H D = none := by
      rw [upd_ne hbD] at hD
      exact hD
    refine lc_it (walk_range (lo := 0) (n := (1 + v).toNat)) (fun i H' => ∃ ts : Es, ts.length = i ∧ KeepB b H H' ∧ BagAt H' b l ns ∧ H' D = some (.lst (vsOf ts)) ∧ Ed H' ts ∧ ∀ (j : Nat) (e : Addr × Int × Int), ts[j]? = some e → e.2.1 = (j : Int) ∧ 0 ≤ e.2.2 ∧ e.2.2 < 1 + v)
      ⟨[], rfl, k1.new hD, B1.new hD, upd_same, .nil, fun j e he => by simp at he⟩ (fun _ _ _ _ => True.intro) ?_ ?_
    · rintro i x H1 H' hi ⟨ts, hts, kp, Bi, eD, ed, hj⟩ ⟨rfl, rfl⟩
      refine ⟨rfl, ?_⟩
      refine ⟨_, rfl, _, rfl, _, rfl, b, l, ns, _, rfl, Bi, by omega, by omega, fun v2 o2 v20 v21 BO2 => ?_⟩
      refine ⟨(by show 2 ≤ sizeLine; decide), fun t ht => ?_⟩
      have B2 := Bi.upd BO2
      have B3 := B2.new (o := .tup [.int (0 + (i : Int)), .int v2]) ht
      have ed3 : Ed (upd (upd H' b o2) t (.tup [.int (0 + (i : Int)), .int v2])) ts := (ed.keep Bi .updb).same (same_upd ht)
      have eD2 : upd H' b o2 D = some (.lst (vsOf ts)) := by
        rw [upd_ne hbD]
        exact eD
      have tD : D ≠ t := ne_of_none eD2 ht
      refine ⟨vsOf ts, by rw [upd_ne tD]; exact eD2, ?_, ts ++ [(t, (i : Int), v2)], by simp [hts], ?_, ?_, ?_, ?_, ?_⟩
      · unfold vsOf
        rw [List.length_map]
        exact small1000 (by omega)
      · exact ((kp.trans .updb).new ht).at nD
      · exact B3.off hbD (ne_of_none B.sc nD).symm
      · rw [upd_same]
        unfold vsOf
        rw [List.map_append]
        rfl
      · refine Ed.app (fun e he => ?_) (.one ?_)
        · have h1 := ed3 e he
          rw [upd_ne (fun z => ?_)]
          · exact h1
          · rw [z, upd_ne tD, eD2] at h1
            cases h1
        · rw [upd_ne (Ne.symm tD), upd_same]
          show some (HO.tup [V.int (0 + (i : Int)), V.int v2]) = _
          rw [Int.zero_add]
      · intro j e he
        by_cases hlt : j < ts.length
        · rw [List.getElem?_append_left hlt] at he
          exact hj j e he
        · rw [List.getElem?_append_right (by omega)] at he
          cases hz : j - ts.length with
          | zero =>
            rw [hz] at he
            have z : (t, (i : Int), v2) = e := Option.some.inj he
            subst z
            exact ⟨by show (i : Int) = (j : Int); omega, v20, v21⟩
          | succ m =>
            rw [hz] at he
            cases he
    · rintro H1 ⟨ts, hts, kp, Bi, eD, ed, hj⟩
      have va : Valid (1 + v) ts := by
        refine ⟨fun e he => ?_, fun k k0 k1 => ?_⟩
        · obtain ⟨j, hjl, hje⟩ := List.getElem_of_mem he
          have h1 := hj j e (by rw [List.getElem?_eq_getElem hjl, hje])
          exact ⟨by omega, by omega, h1.2.1, h1.2.2⟩
        · have hk' : k.toNat < ts.length := by omega
          have h1 := hj k.toNat ts[k.toNat] (List.getElem?_eq_getElem hk')
          exact ⟨ts[k.toNat], List.getElem_mem hk', by rw [h1.1]; omega⟩
      -- the loop
      have ln1 : (ts.length : Int) = 1 + v := by omega
      refine ⟨_, rfl, _, rfl, _, rfl, _, _, rfl, rfl, _, _, rfl, rfl, b, l, ns, _, rfl, Bi, by omega, by omega, fun r o2 r0 r1 BO2 => ?_⟩
      refine ⟨r, rfl, by omega, by omega, ?_⟩
      refine for_it (walk_range (lo := 0) (n := r.toNat)) (fun i σ H' => ∃ (us : Es) (qa : Addr) (v5 v6 v7 : Option V), σ = [some (.ref b), some (.int most), some (.int many), some (.int (1 + v)), some (.ref qa), v5, v6, v7] ∧
          (us.length : Int) = 1 + v + (i : Int) ∧ KeepB b H H' ∧ BagAt H' b l ns ∧ H qa = none ∧ H' qa = some (.lst (vsOf us)) ∧ Ed H' us ∧ Valid (1 + v) us)
        ⟨ts, D, none, none, none, rfl, by omega, kp.trans .updb, Bi.upd BO2, nD, by rw [upd_ne hbD]; exact eD, ed.keep Bi .updb, va⟩ (fun _ _ _ _ _ => True.intro) ?_ ?_
      · rintro i x σ H2 H' hi ⟨us, qa, v5, v6, v7, rfl, hus, kp2, B2, nq, eq, ed2, va2⟩ ⟨rfl, rfl⟩
        have qb : qa ≠ b := B2.ne_vs eq
        -- at = pull(bag, len(pairs) + 1)
        refine ⟨_, rfl, _, rfl, qa, _, rfl, .inl (SqL.of eq), _, _, rfl, rfl, b, l, ns, _, rfl, B2, ?_, ?_, fun at_ o3 a0 a1 BO3 => ?_⟩
        · show (0 : Int) < ((vsOf us).length : Int) + 1
          omega
        · show ((vsOf us).length : Int) + 1 < 2 ^ 100
          unfold vsOf
          rw [List.length_map]
          omega
        have a1' : at_ < (us.length : Int) + 1 := by
          have z : at_ < ((vsOf us).length : Int) + 1 := a1
          unfold vsOf at z
          rw [List.length_map] at z
          exact z
        have hat : ((at_.toNat : Nat) : Int) = at_ := Int.toNat_of_nonneg a0
        have hatl : at_.toNat ≤ (vsOf us).length := by
          unfold vsOf
          rw [List.length_map]
          omega
        have B3 := B2.upd BO3
        have eq3 : upd H' b o3 qa = some (.lst (vsOf us)) := by
          rw [upd_ne qb]
          exact eq
        have ed3 : Ed (upd H' b o3) us := ed2.keep B2 .updb
        have kp3 : KeepB b H (upd H' b o3) := kp2.trans .updb
        generalize upd H' b o3 = H3 at *
        -- pairs[:at]
        refine ⟨_, rfl, _, rfl, at_, rfl, qa, _, rfl, SqL.of eq3, fun p1 hp1 => ?_⟩
        rw [← hat, cut_lo hatl]
        have B4 := B3.new (o := .lst ((vsOf us).take at_.toNat)) hp1
        have kp4 := kp3.new (o := .lst ((vsOf us).take at_.toNat)) hp1
        have s4 := same_upd (o := .lst ((vsOf us).take at_.toNat)) hp1
        have eq4 := s4 _ _ eq3
        have ed4 := ed3.same s4
        have e14 : upd H3 p1 (.lst ((vsOf us).take at_.toNat)) p1 = some (.lst ((vsOf us).take at_.toNat)) := upd_same
        generalize upd H3 p1 (.lst ((vsOf us).take at_.toNat)) = H4 at *
        -- the new edge
        refine ⟨_, rfl, _, rfl, b, l, ns, _, rfl, B4, by omega, by omega, fun x1 o5 x10 x11 BO5 => ?_⟩
        have B5 := B4.upd BO5
        have p1b : p1 ≠ b := B3.ne_new hp1
        refine ⟨_, rfl, _, rfl, b, l, ns, _, rfl, B5, by omega, by omega, fun x2 o6 x20 x21 BO6 => ?_⟩
        have B6 := B5.upd BO6
        have kp6 : KeepB b H4 (upd (upd H4 b o5) b o6) := KeepB.updb.trans .updb
        have ed6 := ed4.keep B4 kp6
        have eq6 := kp6 _ _ qb eq4
        have e16 := kp6 _ _ p1b e14
        have kp6' := kp4.trans kp6
        generalize upd (upd H4 b o5) b o6 = H6 at *
        refine ⟨(by show 2 ≤ sizeLine; decide), fun t ht => ?_⟩
        have s7 := same_upd (o := .tup [.int x1, .int x2]) ht
        have B7 := B6.same s7
        have e7 : upd H6 t (.tup [.int x1, .int x2]) t = some (.tup [.int x1, .int x2]) := upd_same
        have kp7 := kp6'.trans (.of_same s7)
        have eq7 := s7 _ _ eq6
        have e17 := s7 _ _ e16
        have ed7 := ed6.same s7
        generalize upd H6 t (.tup [.int x1, .int x2]) = H7 at *
        refine ⟨(by show 1 ≤ sizeLine; decide), fun p2 hp2 => ?_⟩
        have s8 := same_upd (o := .lst [.ref t]) hp2
        have e8 : upd H7 p2 (.lst [.ref t]) p2 = some (.lst [.ref t]) := upd_same
        have B8 := B7.same s8
        have kp8 := kp7.trans (.of_same s8)
        have eq8 := s8 _ _ eq7
        have e18 := s8 _ _ e17
        have et8 := s8 _ _ e7
        have ed8 := ed7.same s8
        generalize upd H7 p2 (.lst [.ref t]) = H8 at *
        have hsz : ∀ m : Nat, m ≤ 1000 → m ≤ sizeLine := fun m h => Nat.le_of_lt (small1000 h)
        have lus : us.length ≤ 200 := by omega
        have lvs : (vsOf us).length = us.length := by
          unfold vsOf
          rw [List.length_map]
        refine ⟨p1, p2, _, _, rfl, rfl, e18, e8, hsz _ (by simp; omega), fun p3 hp3 => ?_⟩
        have s9 := same_upd (o := .lst ((vsOf us).take at_.toNat ++ [.ref t])) hp3
        have e9 : upd H8 p3 (.lst ((vsOf us).take at_.toNat ++ [.ref t])) p3 = some (.lst ((vsOf us).take at_.toNat ++ [.ref t])) := upd_same
        have B9 := B8.same s9
        have kp9 := kp8.trans (.of_same s9)
        have eq9 := s9 _ _ eq8
        have et9 := s9 _ _ et8
        have ed9 := ed8.same s9
        generalize upd H8 p3 (.lst ((vsOf us).take at_.toNat ++ [.ref t])) = H9 at *
        refine ⟨_, rfl, _, rfl, _, rfl, qa, _, rfl, SqL.of eq9, fun p4 hp4 => ?_⟩
        rw [cut_hi hatl]
        have s10 := same_upd (o := .lst ((vsOf us).drop at_.toNat)) hp4
        have e10 : upd H9 p4 (.lst ((vsOf us).drop at_.toNat)) p4 = some (.lst ((vsOf us).drop at_.toNat)) := upd_same
        have B10 := B9.same s10
        have kp10 := kp9.trans (.of_same s10)
        have e910 := s10 _ _ e9
        have et10 := s10 _ _ et9
        have ed10 := ed9.same s10
        generalize upd H9 p4 (.lst ((vsOf us).drop at_.toNat)) = H10 at *
        refine ⟨p3, p4, _, _, rfl, rfl, e910, e10, hsz _ (by simp; omega), fun p5 hp5 => ?_⟩
        have s11 := same_upd (o := .lst ((vsOf us).take at_.toNat ++ [.ref t] ++ (vsOf us).drop at_.toNat)) hp5
        obtain ⟨yb, hyb⟩ := B10.at_b
        refine ⟨us.take at_.toNat ++ [(t, x1, x2)] ++ us.drop at_.toNat, p5, _, _, _, rfl, ?_, kp10.trans (.of_same s11), B10.same s11, kp10.free hyb hp5, ?_, ?_, ?_⟩
        · simp
          omega
        · rw [upd_same]
          unfold vsOf
          rw [List.map_append, List.map_append, List.map_take, List.map_drop]
          rfl
        · have f1 : Ed H10 (us.take at_.toNat) := fun e he => ed10 e (List.mem_of_mem_take he)
          have f2 : Ed H10 (us.drop at_.toNat) := fun e he => ed10 e (List.mem_of_mem_drop he)
          exact Ed.same (Ed.app (Ed.app f1 (.one et10)) f2) s11
        · refine ⟨fun e he => ?_, fun kk k0 k1 => ?_⟩
          · rw [List.mem_append, List.mem_append] at he
            rcases he with (he | he) | he
            · exact va2.rg e (List.mem_of_mem_take he)
            · have z := List.mem_singleton.mp he
              subst z
              exact ⟨x10, x11, x20, x21⟩
            · exact va2.rg e (List.mem_of_mem_drop he)
          · obtain ⟨e, he, hk2⟩ := va2.sr kk k0 k1
            refine ⟨e, ?_, hk2⟩
            rw [← List.take_append_drop at_.toNat us, List.mem_append] at he
            rw [List.mem_append, List.mem_append]
            exact he.elim (fun z => .inl (.inl z)) .inr
      · rintro σ H2 ⟨us, qa, v5, v6, v7, rfl, hus, kp2, B2, nq, eq, ed2, va2⟩
        refine ⟨_, rfl, _, rfl, (by show 2 ≤ sizeLine; decide), fun p hp => ?_⟩
        obtain ⟨yb, hyb⟩ := B2.at_b
        have s1 := same_upd (o := .tup [.int (1 + v), .ref qa]) hp
        exact q p qa (1 + v) us _ (kp2.trans (.of_same s1)) (B2.same s1) (kp2.free hyb hp) nq ⟨upd_same, s1 _ _ eq, ed2.same s1, va2, by omega⟩ (by omega) (by omega)
end
end Lw
set_option Elab.async false
set_option linter.all false
set_option maxRecDepth 100000
/-! enumerate(t) of a tuple; enumerate and for over what is a list or a tuple -/
namespace Lw
open PySem PySem.Spec PyProof.Rows L2
/-- the two objects that enumerate(t) makes: the tuple's iterator, the counter over it -/
abbrev itO (l : Addr) : Obj := { cls := .type "tuple_iterator", data := .fields #[.ref l, .int 0 0] }
abbrev enO (i : Addr) : Obj := { cls := .type "enumerate", data := .fields #[.none, .bool false, .ref i, rawInt 0, .none, .none] }
theorem enumT_new (l : Addr) (o : Obj) (items : Array Value) (n : Nat) (hc : o.cls = .type "tuple") (hd : o.data = .seq items n) :
    Meets (Builtin.«enumerate.__new__» ⟨[.type "enumerate", .ref l], []⟩) (fun _ R s => s.heap.get? l = some o ∧
      R (.ok (.ret (.ref (s.heap.push (itO l)).objs.size))) { s with heap := (s.heap.push (itO l)).push (enO s.heap.objs.size) }) := by
  obtain ⟨oc, dct, dt, sl⟩ := o
  dsimp only at hc hd
  subst hc hd
  refine .of_wp fun P w A R s hyp => ?_
  rcases s with ⟨h, gn, dr, tk, os⟩
  rcases hyp with ⟨hl, fin⟩
  have sub := sub_enumerate
  have isT : Heap.IsTuple (Shared.heap ⟨h, gn, dr, tk, os⟩) l items := ⟨_, hl, rfl, n, rfl⟩
  wp_walk using AutoSeq1.wpAny_loadPart' hl
  refine wpAny_stack_any fun st => wpAny_pure ?_
  split
  next c _ _ _ _ _ => cases (c == Value.type "enumerate") <;> (wp_walk using AutoSeq1.wpAny_loadPart' hl, wpAny_pyIter_tuple isT) <;> exact ⟨_, rfl, fin⟩
  next => (wp_walk using AutoSeq1.wpAny_loadPart' hl, wpAny_pyIter_tuple isT) <;> exact ⟨_, rfl, fin⟩
theorem enumT_call {P : Program} {w : World} {A : Around} {E : Value → Shared → Prop} {s : Shared} {l : Addr} {items : Array Value} {Q : Value → Shared → Prop} (hL : s.heap.IsTuple l items)
    (h : IsEnum ((s.heap.push (itO l)).push (enO s.heap.objs.size)) (s.heap.objs.size + 1) s.heap.objs.size 0 .none → Heap.IsTupleIter ((s.heap.push (itO l)).push (enO s.heap.objs.size)) s.heap.objs.size l 0 →
      Q (.ref (s.heap.objs.size + 1)) { s with heap := (s.heap.push (itO l)).push (enO s.heap.objs.size) }) :
    wpAny (model P w) A (call (.type "enumerate") [.ref l]) Q E s := by
  obtain ⟨o, get, cls, n, dat⟩ := hL
  have size1 : (s.heap.push (itO l)).objs.size = s.heap.objs.size + 1 := Heap.size_push ..
  have en : IsEnum ((s.heap.push (itO l)).push (enO s.heap.objs.size)) (s.heap.objs.size + 1) s.heap.objs.size 0 .none := by
    rw [← size1]
    exact Heap.get?_push_size _ rfl
  have it : Heap.IsTupleIter ((s.heap.push (itO l)).push (enO s.heap.objs.size)) s.heap.objs.size l 0 := ⟨itO l, Heap.get?_push_of_some _ (Heap.get?_push_size _ rfl), rfl, rfl⟩
  refine callType_new F.called_enumerate (by decide) (F.typeCall_enumerate_1 _) (F.newCall_enumerate_1 _) (F.args_object_init_2 · _) F.entry_enumerate_new (enumT_new l o items n cls dat) ⟨get, ?_⟩
  rw [size1]
  exact ⟨⟨_, en, rfl⟩, h en it⟩
/-- the turns of enumerate(t): a new pair of the number and the item -/
def IteT (K : PySem.W.Frag) (a : Addr) : It where
  go i H := ∃ (xs : List V) (x : V), SqT K H a xs ∧ xs[i]? = some x
  yld i H v H' := ∃ T x, v = .ref T ∧ H T = none ∧ H' = upd H T (.tup [.int (i : Nat), x]) ∧ ∀ xs, SqT K H a xs → xs[i]? = some x
  stop i H := ∃ xs : List V, SqT K H a xs ∧ xs.length ≤ i
/-- the state of the walk at turn i -/
structure EnAt (a e it : Addr) (i : Nat) (h : Heap) : Prop where
  en : ∃ old, IsEnum h e it ((i : Nat) : Int) old
  itr : h.IsTupleIter it a i
  ne : e ≠ it ∧ e ≠ a
theorem two {e it b : Addr} (h : b ∈ [e, it]) : b = e ∨ b = it := by
  simp only [List.mem_cons, List.not_mem_nil, or_false] at h
  exact h
theorem EnAt.keep {a e it : Addr} {i : Nat} {h h' : Heap} (z : EnAt a e it i h) (k : ∀ b ∈ [e, it], ∀ o, h.get? b = some o → h'.get? b = some o) : EnAt a e it i h' := by
  obtain ⟨old, he⟩ := z.en
  exact ⟨⟨old, k e (.head _) _ he⟩, z.itr.at (k it (.tail _ (.head _))), z.ne⟩
theorem enumT_item {X : Cx} {elts : List Expr} {kk : Nat} {tpos : Pos} {a e it : Addr} (ai : a ≠ it) (calm : X.calm = true) {i : Nat} {pins : List (Addr × Obj)} {s : Shared} {σ : L2.St} {H : Hp} {E : Value → Shared → Prop} (I : Inv X pins σ H s)
    (off : ∀ b ∈ [e, it], FpOk X pins H b) (z : EnAt a e it i s.heap) {xs : List V} {x : V} (hq : SqT X.K H a xs) (hx : xs[i]? = some x) :
    wpAny (model X.prog X.w) X.A (pyNext (.ref e)) (fun r s1 => ∃ u, r = some u ∧ wpAny (model X.prog X.w) X.A (letOwnedTupleGo (.Tuple elts kk tpos) (.ref e) u)
      (fun _ s2 => ∃ y H', Inv X pins σ H' s2 ∧ RelV y u ∧ (IteT X.K a).yld i H y H' ∧ EnAt a e it (i + 1) s2.heap ∧ ∀ b ∈ [e, it], H' b = none) E s1) E s := by
  obtain ⟨old, he⟩ := z.en
  obtain ⟨its, vals, tup, _⟩ := I.tuple hq
  obtain ⟨u, hu, ru⟩ := vals.get hx
  have eb := Heap.lt_size he
  have ib : it < s.heap.objs.size := z.itr.elim fun _ q => Heap.lt_size q.1
  have hi : i < its.toArray.size := by
    rw [List.size_toArray]
    exact (List.getElem?_eq_some_iff.mp hu).1
  have out : e ∉ [it, a] := fun m => (two m).elim z.ne.1 z.ne.2
  refine wpAny_pyNext_enum_itemD (Draws.tuple (A := X.A.in1) (show X.A.in1.handled = none from I.ok.hd calm) it a ai its.toArray) he ⟨z.itr, tup⟩ hi z.ne.1 out ?_
  intro y h' tk hy eo st new _ stay
  obtain rfl : y = u := by
    rw [List.getElem?_toArray, hu] at hy
    exact (Option.some.inj hy).symm
  refine ⟨_, rfl, wpAny_letOwnedTupleGo_enum (s := { s with heap := h', toks := tk + 1 }) eo fun h2 en2 sb => ?_⟩
  have new2 : h2.get? s.heap.objs.size = some { cls := .type "tuple", data := .seq #[.int i tk, y] } := by
    rw [sb.2 _ (Nat.ne_of_gt eb)]
    exact new
  have okN : ObjOk X.prog X.w (upd H s.heap.objs.size (.tup [.int (i : Nat), x])) h2 s.heap.objs.size (.tup [.int (i : Nat), x]) := ⟨by show 2 ≤ sizeLine; decide, _, .cons ⟨_, rfl⟩ (.cons ru .nil), _, new2, rfl, _, rfl⟩
  have rest : ∀ b o, b ∉ [e, it] → s.heap.get? b = some o → h2.get? b = some o := by
    intro b o nb hb
    have be : b ≠ e := fun q => nb (q ▸ .head _)
    have bi : b ≠ it := fun q => nb (q ▸ .tail _ (.head _))
    rw [sb.2 b be]
    exact stay b o be bi hb
  refine ⟨.ref s.heap.objs.size, _, I.turnedNew (ch := [e, it]) rest off (Nat.le_refl _) okN, rfl, ⟨_, x, rfl, I.hok.fresh (Nat.le_refl _), rfl, fun ys hys => I.tuple_inj hys hq ▸ hx⟩, ⟨⟨y, ?_⟩, ?_, z.ne⟩, ?_⟩
  · rw [Int.natCast_succ]
    exact en2
  · exact st.1.at fun o q => by rw [sb.2 it z.ne.1.symm]; exact q
  · intro b hb
    have lt : b < s.heap.objs.size := (two hb).elim (fun q => q ▸ eb) (fun q => q ▸ ib)
    rw [upd_ne (Nat.ne_of_lt lt)]
    exact (off b hb).1
/-- the tuple's iterator at its end -/
theorem over {P : Program} {w : World} {A : Around} (calm : A.handled = none) {it a : Addr} {items : Array Value} {i : Nat} (hi : items.size ≤ i) : Draws P w A it [it, a] i (fun _ _ => True) (fun j h => j = i ∧ h.IsTupleIter it a i ∧ h.IsTuple a items) where
  live _ _ z := z.2.1.elim fun o q => ⟨o, q.1⟩
  frame _ _ _ z k := ⟨z.1, z.2.1.at (k it (.head _)), z.2.2.at (k a (.tail _ (.head _)))⟩
  item j _ _ _ lt z _ := absurd z.1 (Nat.ne_of_lt lt)
  done _ _ _ z h := wpAny_nextOf_tuple_end calm z.2.1 z.2.2 (Array.getElem?_eq_none hi) h
theorem enumT_turn {P : Program} {w : World} {K : PySem.W.Frag} {elts : List Expr} {kk : Nat} {tpos : Pos} {a e it : Addr} (ai : a ≠ it) : Turn P w K (.Tuple elts kk tpos) (IteT K a) [e, it] e (EnAt a e it) where
  mem := .head _
  obj i h z b hb := by
    obtain ⟨old, he⟩ := z.en
    obtain ⟨o, ho, _, hd⟩ := z.itr
    rcases two hb with rfl | rfl
    · exact ⟨_, he, nofun⟩
    · exact ⟨o, ho, by rw [hd]; nofun⟩
  keep i h h' z k := z.keep k
  item := by
    rintro X rfl rfl rfl calm i pins s σ H E I off z ⟨xs, x, hq, hx⟩
    exact enumT_item ai calm I off z hq hx
  done := by
    rintro X rfl rfl rfl calm i pins s σ H E I off z ⟨xs, hq, hx⟩
    obtain ⟨old, he⟩ := z.en
    obtain ⟨its, vals, tup, _⟩ := I.tuple hq
    obtain ⟨f0, f1, _, f3, f4, f5⟩ := off it (.tail _ (.head _))
    have len := vals.length
    refine wpAny_pyNext_enum_endD (over (A := X.A.in1) (show X.A.in1.handled = none from I.ok.hd calm) (items := its.toArray) (by rw [List.size_toArray]; omega)) he ⟨rfl, z.itr, tup⟩ fun h' up => ⟨rfl, I.turned (t' := s.toks) (fun b o hb q => up b o hb q) f0 f1 f3 f4 f5⟩
  self A i s Q E z h := z.en.elim fun _ he => wpAny_pyIter_enum he h
theorem walk_enumT {K : PySem.W.Frag} {a : Addr} {xs : List V} : Walk (IteT K a) xs.length (fun H => SqT K H a xs) (YPair (fun i => some (.int (i : Nat))) (fun i => xs[i]?)) := by
  constructor
  · intro i H hi hq
    exact ⟨xs, xs[i], hq, List.getElem?_eq_getElem hi⟩
  · intro H hq
    exact ⟨xs, hq, Nat.le_refl _⟩
  · rintro i H _ _ hi hq ⟨T, x, rfl, nT, rfl, at_⟩
    exact ⟨T, _, x, rfl, nT, rfl, rfl, at_ xs hq⟩
/-! ### a list or a tuple -/
abbrev SqF := PySem.W.Frag → Hp → Addr → List V → Prop
/-- enumerate(e) -/
def iEnumA (K : PySem.W.Frag) (ta : TA) : TI := fun σ H R => ta σ H fun vs H1 => ∃ (a : Addr) (xs : List V) (S : SqF), vs = [.ref a] ∧ (S = SqL ∨ S = SqT) ∧ S K H1 a xs ∧
  ∀ J, Walk J xs.length (fun H => S K H a xs) (YPair (fun i => some (.int (i : Nat))) (fun i => xs[i]?)) → R J H1
/-- e itself -/
def iSeqA (K : PySem.W.Frag) (tl : TE) : TI := fun σ H R => tl σ H fun x H1 => ∃ (a : Addr) (xs : List V) (S : SqF), x = .ref a ∧ (S = SqL ∨ S = SqT) ∧ S K H1 a xs ∧ ∀ J, Walk J xs.length (fun H => S K H a xs) (YAt xs) → R J H1
section
variable {X : Cx}
/-- new addresses are nobody's -/
theorem new_ok {pins : List (Addr × Obj)} {s : Shared} {σ : L2.St} {H : Hp} {b : Addr} (I : Inv X pins σ H s) (h : s.heap.objs.size ≤ b) : FpOk X pins H b := I.fpOk h (I.hok.fresh h)
theorem pi_enumA {e : Expr} {ta : TA} {p pos tpos : Pos} {elts : List Expr} {kk : Nat} (hg : Gl X "enumerate") (hm : X.mg "enumerate" = none) (ha : PA X [e] ta) (hs : starEach [e] X.env = [(false, eval e X.env)] := by rfl) :
    PI X (.Tuple elts kk tpos) (.Call (.Name "enumerate" p) [e] [] pos) (iEnumA X.K ta) := by
  constructor
  intro pins s σ H R I h
  refine Call_ (ld_blt I hg hm boot_enumerate (PyProof.Rows.callWith_type1 (wpAny_mono (ha.run pos pins s σ H _ I h) ?_ fun _ _ z => z) hs rfl))
  rintro us s1 ⟨_, H1, I1, vals, a, xs, S, rfl, hS, hq, go⟩
  obtain ⟨_, rfl, rfl⟩ : ∃ u, us = [u] ∧ u = Value.ref a := by
    match us, vals with
    | [u], .cons r .nil => exact ⟨u, rfl, r⟩
  have free : ∀ b ∈ [s1.heap.objs.size + 1, s1.heap.objs.size], FpOk X pins H1 b := fun b hb => new_ok I1 ((two hb).elim (fun q => q ▸ Nat.le_succ _) (fun q => q ▸ Nat.le_refl _))
  rcases hS with rfl | rfl
  · obtain ⟨its, rv, lst, _⟩ := I1.list hq
    refine call_enumerate_list lst.isList fun g en it _ up => wpAny_pyIter_enum en ?_
    exact ⟨_, [s1.heap.objs.size + 1, s1.heap.objs.size], _, Ite X.K a, H1, rfl, I1.kept (t' := s1.toks) up, turn_enum a _ _, ⟨⟨.none, en⟩, it, Nat.succ_ne_self _⟩, free, go _ walk_enum⟩
  · obtain ⟨its, rv, tup, _⟩ := I1.tuple hq
    have old : a < s1.heap.objs.size := tup.elim fun _ q => Heap.lt_size q.1
    refine enumT_call (items := its.toArray) tup fun en it => wpAny_pyIter_enum en ?_
    refine ⟨_, [s1.heap.objs.size + 1, s1.heap.objs.size], _, IteT X.K a, H1, rfl, I1.kept (t' := s1.toks) fun b o q => Heap.get?_push_of_some _ (Heap.get?_push_of_some _ q), enumT_turn (Nat.ne_of_lt old), ⟨⟨.none, en⟩, it, Nat.succ_ne_self _, ?_⟩, free, go _ walk_enumT⟩
    exact fun q => absurd old (Nat.not_lt.mpr (q ▸ Nat.le_succ _))
theorem pi_seqA {tg l : Expr} {tl : TE} (hl : PE X l tl) : PI X tg l (iSeqA X.K tl) := by
  constructor
  intro pins s σ H R I h
  refine wpAny_mono (hl.run pins s σ H _ I h) ?_ fun _ _ z => z
  rintro v s1 ⟨_, H1, I1, rv, a, xs, S, rfl, hS, hq, go⟩
  cases rv
  have free : ∀ b ∈ [s1.heap.objs.size], FpOk X pins H1 b := fun b hb => new_ok I1 (List.mem_singleton.mp hb ▸ Nat.le_refl _)
  have keep : ∀ o : Obj, Inv X pins σ H1 { s1 with heap := s1.heap.push o } := fun o => I1.kept (t' := s1.toks) fun b o' q => Heap.get?_push_of_some _ q
  rcases hS with rfl | rfl
  · obtain ⟨its, r, lst, _⟩ := I1.list hq
    exact wpAny_pyIter_list lst.isList ⟨_, _, _, Itl X.K a, H1, rfl, keep _, turn_list a _, ⟨_, Heap.get?_push_size _ rfl, rfl, rfl⟩, free, go _ walk_list⟩
  · obtain ⟨its, r, tup, _⟩ := I1.tuple hq
    exact wpAny_pyIter_tuple (items := its.toArray) tup ⟨_, _, _, Itt X.K a, H1, rfl, keep _, turn_tuple a _, ⟨_, Heap.get?_push_size _ rfl, rfl, rfl⟩, free, go _ walk_tup⟩
end
end Lw
set_option Elab.async false
set_option linter.all false
set_option maxRecDepth 100000
namespace Lw
open PySem L2
abbrev sCheck : Stmt := top 8
abbrev sInit : Stmt := inClass (top 9) 2
/-- what the walk asks of the class Graph -/
structure GTxt (K : PySem.W.Frag) (mg : Str → Option Value) (C : Addr) (mc : Value) : Prop where
  cl : Cls K C
  nS : NoAttr K C "state_count"
  nE : NoAttr K C "edge_pairs"
  mgG : mg "Graph" = some (.ref C)
  rd : ClX.CRead K C mc
  v8 : ∃ u, ClX.CVal K C mc "MAX_STATES" (.int 8) u
  v24 : ∃ u, ClX.CVal K C mc "MAX_EDGES" (.int 24) u
  enum : mg "enumerate" = none
def flds (n : Int) (t : Addr) : List (Str × V) := [("state_count", V.int n), ("edge_pairs", V.ref t)]
def spCheck (K : PySem.W.Frag) : Sp := fun vs H Q _ => ∃ (n : Int) (e : Addr) (ts : Es) (S : SqF), vs = [.int n, .ref e] ∧ (S = SqL ∨ S = SqT) ∧ S K H e (vsOf ts) ∧ Ed H ts ∧ Valid n ts ∧ 1 ≤ n ∧ n ≤ 100 ∧ ts.length ≤ 100 ∧ ∀ H', Same H H' → Q .non H'
structure GraphAt (C : Addr) (H : Hp) (g : Addr) (n : Int) (us : Es) : Prop where
  ob : ∃ dx t, H g = some (.ins C dx (flds n t)) ∧ H t = some (.tup (vsOf us))
  ed : Ed H us
def spInit (C : Addr) : Sp := fun vs H Q _ => ∃ (g dx e : Addr) (n : Int) (ts : Es) (mk : List V → HO), vs = [.ref g, .int n, .ref e] ∧ H g = some (.ins C dx []) ∧ (mk = HO.lst ∨ mk = HO.tup) ∧ H e = some (mk (vsOf ts)) ∧ Ed H ts ∧ Valid n ts ∧ 1 ≤ n ∧ n ≤ 8 ∧ ts.length ≤ 24 ∧
  ∀ (us : Es) (H' : Hp), psOf us = psOf ts → KeepB g H H' → GraphAt C H' g n us → Q .non H'
theorem sq_same {K : PySem.W.Frag} {S : SqF} {H H' : Hp} {e : Addr} {xs : List V} (hS : S = SqL ∨ S = SqT) (h : S K H e xs) (s : Same H H') : S K H' e xs := by
  rcases hS with rfl | rfl
  · exact s.seq h
  · rcases h with (h | ⟨o, h⟩) | h
    · exact .inl (.inl (s _ _ h))
    · exact .inl (.inr ⟨o, s _ _ h⟩)
    · exact .inr h
theorem vsOf_len (ts : Es) : (vsOf ts).length = ts.length := by
  unfold vsOf
  rw [List.length_map]
theorem vsOf_at {ts : Es} {i : Nat} {v : V} (h : (vsOf ts)[i]? = some v) : ∃ e, ts[i]? = some e ∧ v = .ref e.1 := by
  unfold vsOf at h
  rw [List.getElem?_map] at h
  cases g : ts[i]? with
  | none =>
    rw [g] at h
    cases h
  | some e =>
    rw [g] at h
    exact ⟨e, rfl, (Option.some.inj h).symm⟩
section
variable {P : Program} {w : World} {K : PySem.W.Frag} {mg : Str → Option Value} {base : Heap}
theorem scCheck : FnScope ["states", "edges", "place", "source", "target", "sources", "state"] ["states", "edges"] (defScope sCheck) := ⟨rfl, rfl, rfl, by decide +kernel, rfl, by decide +kernel, by decide +kernel⟩
theorem inV_yes {k : Int} {ks : List Int} (h : k ∈ ks) : inV (.int k) (ks.map V.int) = true := by
  unfold inV
  rw [List.any_map, List.any_eq_true]
  exact ⟨k, h, by simp [eqV]⟩
theorem flat_ints (ks : List Int) : (ks.map V.int).all flatV = true := by
  rw [List.all_map, List.all_eq_true]
  intro x _
  rfl
set_option maxHeartbeats 8000000 in
theorem ok_check {f C : Addr} {mc : Value} {fd : FuncData} {k : Nat} (F : Fun K "check_edges" "check_edges" sCheck f fd) (T : Bi mg) (G : GTxt K mg C mc) : FnOk P w K mg base CX0 (k + 1) f fd ["states", "edges"] (spCheck K) := by
  refine F.ok scCheck (fun vs H Q E h => ?_) (fun cdv A outer s H vs Q E hr h => ?_)
  · obtain ⟨n, e, ts, S, rfl, _⟩ := h
    rfl
  · obtain ⟨n, e, ts, S, rfl, hS, hq, ed, va, n1, n8, hl, q⟩ := h
    refine ⟨_, pss_cons (ps_for PassesOwn.never rfl (pi_enumA (by rfl) G.enum (pa_cons (pv 1) pa_nil))
          (pg_tup rfl (pgs_cons (pg_name (i := 2) scCheck.nd rfl (.inl rfl)) (pgs_cons (pg_tup rfl (pgs_cons (pg_name (i := 3) scCheck.nd rfl (.inl rfl)) (pgs_cons (pg_name (i := 4) scCheck.nd rfl (.inl rfl)) pgs_nil))) pgs_nil)))
        (pss_one (ps_if (pt_not (PW.pt (pw_and (pt_chain op_le op_lt pe_int (pv 3) (pv 0)) (pw_and1 (pt_chain op_le op_lt pe_int (pv 4) (pv 0)))))) (pss_one ps_never) pss_nil)))
      (pss_cons (ps_setLc (i := 5) (own := [("source", 3), ("target", 4)]) (g := gTup K 2 (gCons (gName 3) (gCons (gName 4) gNil))) (tt := tYes) (te := tVar 3) rfl scCheck.nd rfl rfl (sw_true rfl rfl rfl (by decide +kernel))
          (pi_seqA (pv 1))
          (blkOk_by (N := ["states", "edges", "place", "source", "target", "sources", "state"]) (sc := defScope sCheck) (by decide +kernel))
          (fun _ _ _ _ _ => by exact pg_tup rfl (pgs_cons (pg_name (i := 3) scCheck.nd rfl (Or.inl rfl)) (pgs_cons (pg_name (i := 4) scCheck.nd rfl (Or.inl rfl)) pgs_nil)))
          (fun _ _ _ _ _ => pts_nil)
          (fun _ _ _ _ _ => by exact pv 3))
      (pss_one (ps_for PassesOwn.never rfl (pi_range1 (by rfl) T.range (pa_cons (pv 0) pa_nil)) (pg_name (i := 6) scCheck.nd rfl (Or.inl rfl))
        (pss_one (ps_if (pt_cmpR op_notIn_seq (pv 6) (pv 5) (by rfl)) (pss_one ps_never) pss_nil))))), ?_⟩
    have gsz : ∀ m : Nat, m ≤ 1000 → m < sizeLine := fun m h => small1000 h
    -- for place, (source, target) in enumerate(edges)
    refine ⟨_, rfl, e, vsOf ts, S, rfl, hS, hq, fun J w => ?_⟩
    refine for_it w (fun i σ H' => ∃ v2 v3 v4 : Option V, σ = [some (.int n), some (.ref e), v2, v3, v4, none, none] ∧ Same H H') ⟨none, none, none, rfl, fun _ _ z => z⟩ (fun i σ H' _ p => by obtain ⟨_, _, _, _, s⟩ := p; exact sq_same hS hq s) ?_ ?_
    · rintro i x σ H1 H' hi ⟨v2, v3, v4, rfl, sm⟩ ⟨Ta, x, y, rfl, hT, rfl, gx, gy⟩
      obtain ⟨ee, hee, rfl⟩ := vsOf_at gy
      have ex : x = .int (i : Nat) := (Option.some.inj gx).symm
      subst ex
      have s1 := sm.trans (same_upd (o := .tup [.int (i : Nat), .ref ee.1]) hT)
      have mem : ee ∈ ts := List.mem_of_getElem? hee
      have r := va.rg ee mem
      refine ⟨Ta, _, rfl, SqT.of upd_same, rfl, _, _, rfl, _, _, rfl, ⟨ee.1, _, rfl, SqT.of (s1 _ _ (ed ee mem)), rfl, _, _, rfl, _, _, rfl, rfl, ?_⟩⟩
      refine ⟨rfl, ?_⟩
      refine ⟨_, rfl, _, _, rfl, rfl, _, rfl, if_t (decide_eq_true r.1) ⟨_, rfl, _, _, rfl, rfl, ?_⟩⟩
      refine ⟨_, rfl, if_t (decide_eq_true r.2.1) ?_⟩
      refine ⟨_, rfl, _, _, rfl, rfl, _, rfl, if_t (decide_eq_true r.2.2.1) ⟨_, rfl, _, _, rfl, rfl, ?_⟩⟩
      refine ⟨_, rfl, ?_⟩
      refine if_f (by rw [decide_eq_true r.2.2.2]; rfl) ?_
      exact ⟨_, _, _, rfl, s1⟩
    · rintro σ H1 ⟨v2, v3, v4, rfl, sm⟩
      -- sources
      refine ⟨_, rfl, e, vsOf ts, S, rfl, hS, sq_same hS hq sm, fun J w => fun D hD => ?_⟩
      have nD : H D = none := sm.free hD
      refine lc_it w (fun i H' => Same H H' ∧ H' D = some (.lst ((ts.take i).map fun e => V.int e.2.1))) ⟨sm.trans (same_upd hD), upd_same⟩ (fun i H' _ p => sq_same hS hq p.1) ?_ ?_
      · rintro i x H2 H' hi ⟨sm2, eD⟩ ⟨rfl, gx⟩
        obtain ⟨ee, hee, rfl⟩ := vsOf_at gx
        have mem : ee ∈ ts := List.mem_of_getElem? hee
        refine ⟨ee.1, _, rfl, SqT.of (sm2 _ _ (ed ee mem)), rfl, _, _, rfl, _, _, rfl, rfl, rfl, ?_⟩
        refine ⟨_, rfl, _, eD, ?_, ?_, ?_⟩
        · rw [List.length_map, List.length_take]
          exact gsz _ (by omega)
        · intro c o ec
          rw [upd_ne (ne_of_none ec nD)]
          exact sm2 _ _ ec
        · rw [upd_same, List.take_add_one, hee, List.map_append]
          rfl
      · rintro H2 ⟨sm2, eD⟩
        rw [vsOf_len, List.take_length] at eD
        refine ⟨_, rfl, n, rfl, by omega, by omega, ?_⟩
        refine for_it (walk_range (lo := 0) (n := n.toNat)) (fun i σ H' => ∃ v2 v3 v4 v6 : Option V, σ = [some (.int n), some (.ref e), v2, v3, v4, some (.ref D), v6] ∧ Same H H' ∧ H' D = some (.lst (ts.map fun e => V.int e.2.1))) ⟨_, _, _, _, rfl, sm2, eD⟩ (fun _ _ _ _ _ => True.intro) ?_ ?_
        · rintro i x σ H3 H' hi ⟨v2, v3, v4, v6, rfl, sm3, eD3⟩ ⟨rfl, rfl⟩
          obtain ⟨ee, hee, hk⟩ := va.sr (i : Int) (by omega) (by omega)
          have e1 : (ts.map fun e => V.int e.2.1) = (ts.map fun e => e.2.1).map V.int := by
            rw [List.map_map]
            rfl
          have e2 : inV (.int (0 + (i : Int))) (ts.map fun e => V.int e.2.1) = true := by
            rw [e1, Int.zero_add, ← hk]
            exact inV_yes (List.mem_map_of_mem (f := fun e : Addr × Int × Int => e.2.1) hee)
          refine ⟨_, rfl, _, rfl, D, _, rfl, .inl (SqL.of eD3), rfl, by rw [e1]; exact flat_ints _, _, rfl, ?_⟩
          refine if_f (by rw [e2]; rfl) ?_
          exact ⟨_, _, _, _, rfl, sm3, eD3⟩
        · rintro σ H3 ⟨v2, v3, v4, v6, rfl, sm3, eD3⟩
          exact q H3 sm3
end
end Lw
set_option Elab.async false
set_option linter.all false
set_option maxRecDepth 100000
namespace Lw
open PySem L2
abbrev sEq : Stmt := inClass (top 9) 4
abbrev sLen : Stmt := inClass (top 9) 5
abbrev sRepr : Stmt := inClass (top 9) 6
abbrev sStates : Stmt := inClass (top 9) 7
abbrev sEdges : Stmt := inClass (top 9) 8
/-! ### edges as data -/
def dEs (ts : Es) : List PyData := ts.map fun e => .tuple [.int e.2.1, .int e.2.2]
theorem dEs_at {K : PySem.W.Frag} {H : Hp} : ∀ {ts : Es}, Ed H ts → DpAll K H (vsOf ts) (dEs ts)
  | [], _ => .nil
  | e :: ts, h => .cons (.tup (SqT.of (h e List.mem_cons_self)) (.cons (.int _) (.cons (.int _) .nil))) (dEs_at (ts := ts) fun x hx => h x (List.mem_cons_of_mem _ hx))
theorem dEs_lay : ∀ ts : Es, PyData.canLayAll0 (dEs ts) = true
  | [] => rfl
  | e :: ts => by
    show (true && PyData.canLayAll0 (dEs ts)) = true
    rw [dEs_lay ts]
    rfl
theorem dEs_depth : ∀ ts : Es, PyData.depthAll (dEs ts) ≤ 1
  | [] => Nat.zero_le _
  | e :: ts => by
    show max 1 (PyData.depthAll (dEs ts)) ≤ 1
    exact Nat.max_le.mpr ⟨Nat.le_refl _, dEs_depth ts⟩
theorem shT (ts : Es) : SeqAt.shaped (.tuple (dEs ts)) = true := by
  show (PyData.canLayAll0 (dEs ts) && decide (PyData.depthAll (dEs ts) + 1 ≤ 64)) = true
  rw [dEs_lay, decide_eq_true (by have := dEs_depth ts; omega)]
  rfl
theorem shL (ts : Es) : SeqAt.shaped (.list (dEs ts)) = true := by
  show (PyData.canLayAll0 (dEs ts) && decide (PyData.depthAll (dEs ts) + 1 ≤ 64)) = true
  rw [dEs_lay, decide_eq_true (by have := dEs_depth ts; omega)]
  rfl
theorem eqv_es : ∀ us ts : Es, PyData.eqvAll (dEs us) (dEs ts) = decide (psOf us = psOf ts)
  | [], [] => rfl
  | [], e :: ts => rfl
  | e :: us, [] => rfl
  | e :: us, f :: ts => by
    have ih := eqv_es us ts
    show ((e.2.1 == f.2.1 && (e.2.2 == f.2.2 && true)) && PyData.eqvAll (dEs us) (dEs ts)) = decide (e.2 :: psOf us = f.2 :: psOf ts)
    rw [ih]
    obtain ⟨a, x, y⟩ := e
    obtain ⟨b, z, u⟩ := f
    by_cases h1 : x = z <;> by_cases h2 : y = u <;> by_cases h3 : psOf us = psOf ts <;> simp [h1, h2, h3]
/-! ### the object -/
theorem ks : ¬ (("state_count" : Str) = "edge_pairs") := by decide +kernel
theorem flds_put1 (n : Int) : putF "state_count" (.int n) [] = ([("state_count", V.int n)] : List (Str × V)) := rfl
theorem flds_put2 (n : Int) (t : Addr) : putF "edge_pairs" (.ref t) ([("state_count", V.int n)] : List (Str × V)) = flds n t := by
  show (if ("state_count" : Str) = "edge_pairs" then _ else (("state_count" : Str), V.int n) :: putF "edge_pairs" (.ref t) []) = flds n t
  rw [if_neg ks]
  rfl
theorem look_s (n : Int) (t : Addr) : (flds n t).lookup ("state_count" : Str) = some (.int n) := by
  unfold flds
  simp [List.lookup]
theorem look_e (n : Int) (t : Addr) : (flds n t).lookup ("edge_pairs" : Str) = some (.ref t) := by
  unfold flds
  have h : (("edge_pairs" : Str) == ("state_count" : Str)) = false := by decide +kernel
  simp [List.lookup, h]
theorem look_no (n : Int) (t : Addr) {m : Str} (h1 : (m == ("state_count" : Str)) = false) (h2 : (m == ("edge_pairs" : Str)) = false) : (flds n t).lookup m = none := by
  unfold flds
  simp [List.lookup, h1, h2]
theorem sq_or {K : PySem.W.Frag} {S : SqF} {H : Hp} {e : Addr} {xs : List V} (hS : S = SqL ∨ S = SqT) (h : S K H e xs) : SqL K H e xs ∨ SqT K H e xs := by
  rcases hS with rfl | rfl
  · exact .inl h
  · exact .inr h
def grText (n m : Int) : Str := ((((("Graph(" : Str) ++ (toString n : Str)) ++ (" states, " : Str)) ++ (toString m : Str)) ++ (" edges)" : Str))
def spLen (C : Addr) : Sp := fun vs H Q _ => ∃ (g : Addr) (n : Int) (us : Es), vs = [.ref g] ∧ GraphAt C H g n us ∧ Q (.int us.length) H
def spStates (C : Addr) : Sp := fun vs H Q _ => ∃ (g : Addr) (n : Int) (us : Es), vs = [.ref g] ∧ GraphAt C H g n us ∧ Q (.int n) H
def spRepr (C : Addr) : Sp := fun vs H Q _ => ∃ (g : Addr) (n : Int) (us : Es), vs = [.ref g] ∧ GraphAt C H g n us ∧ 0 ≤ n ∧ n < 1000 ∧ us.length < 1000 ∧ Q (.str (grText n us.length)) H
def spEdges (C : Addr) : Sp := fun vs H Q _ => ∃ (g : Addr) (n : Int) (us : Es), vs = [.ref g] ∧ GraphAt C H g n us ∧ ∀ p, H p = none → Q (.ref p) (upd H p (.lst (vsOf us)))
section
variable {P : Program} {w : World} {K : PySem.W.Frag} {mg : Str → Option Value} {base : Heap}
theorem scInit : FnScope ["self", "states", "edges", "source", "target"] ["self", "states", "edges"] (defScope sInit) := ⟨rfl, rfl, rfl, by decide +kernel, rfl, by decide +kernel, by decide +kernel⟩
set_option maxHeartbeats 8000000 in
theorem ok_init {f C : Addr} {mc : Value} {fd : FuncData} {k : Nat} (F : Fun K "__init__" "Graph.__init__" sInit f fd) (T : Bi mg) (G : GTxt K mg C mc) (cC : C8.Cal P w K mg base 1 "check_edges" (spCheck K) []) : FnOk P w K mg base CX0 (k + 2) f fd ["self", "states", "edges"] (spInit C) := by
  refine F.ok scInit (fun vs H Q E h => ?_) (fun cdv A outer s H vs Q E hr h => ?_)
  · obtain ⟨g, dx, e, n, ts, mk, rfl, _⟩ := h
    rfl
  · obtain ⟨g, dx, e, n, ts, mk, rfl, hg, hmk, he, ed, va, n1, n8, hl, q⟩ := h
    have ge : e ≠ g := by
      rintro rfl
      rw [hg] at he
      rcases hmk with rfl | rfl <;> cases he
    obtain ⟨S, hS, hq0⟩ : ∃ S : SqF, (S = SqL ∨ S = SqT) ∧ ∀ H', H' e = some (mk (vsOf ts)) → S K H' e (vsOf ts) := by
      rcases hmk with rfl | rfl
      · exact ⟨SqL, .inl rfl, fun H' h => SqL.of h⟩
      · exact ⟨SqT, .inr rfl, fun H' h => SqT.of h⟩
    have hq := hq0 H he
    have hk : 1 ≤ k + 1 := Nat.le_add_left 1 k
    refine ⟨_, pss_cons (ps_if (pt_cmpR op_lt (pv 1) pe_int (nomark _)) (pss_one ps_never) pss_nil)
      (pss_cons (ps_if (pt_cmpR op_gt (pv 1) (ClX.pe_cval (pe_glob (v := .ref C) (by rfl) G.mgG rfl)) (nomark _)) (pss_one ps_never) pss_nil)
      (pss_cons (ps_if (pt_cmpR op_gt (pe_callB call_len_seq (by rfl) T.len PySem.boot_len (pa_cons (pv 2) pa_nil)) (ClX.pe_cval (pe_glob (v := .ref C) (by rfl) G.mgG rfl)) (nomark _)) (pss_one ps_never) pss_nil)
      (pss_cons (ps_expr (C8.pe_c cC hr hk (by rfl) (pa_cons (pv 1) (pa_cons (pv 2) pa_nil))))
      (pss_cons (ps_fld (pv 0) (pv 1) rfl)
      (pss_one (ps_fld (pv 0) (pe_callTy call_tuple_of (by rfl) T.tuple (by decide +kernel) (pa_cons
        (pe_lc (own := [("source", 3), ("target", 4)]) (g := gTup K 2 (gCons (gName 3) (gCons (gName 4) gNil))) (tt := tYes) (te := tTup (tCons (tVar 3) (tCons (tVar 4) tNil))) rfl scInit.nd (pi_seqA (pv 2))
          (blkOk_by (N := ["self", "states", "edges", "source", "target"]) (sc := defScope sInit) (by decide +kernel))
          (fun _ _ _ _ _ => by exact pg_tup rfl (pgs_cons (pg_name (i := 3) scInit.nd rfl (Or.inl rfl)) (pgs_cons (pg_name (i := 4) scInit.nd rfl (Or.inl rfl)) pgs_nil)))
          (fun _ _ _ _ _ => pts_nil)
          (fun _ _ _ _ _ => by exact pe_tup (pa_cons (pv 3) (pa_cons (pv 4) pa_nil)))) pa_nil)) rfl)))))), ?_⟩
    obtain ⟨u8, hv8⟩ := G.v8
    obtain ⟨u24, hv24⟩ := G.v24
    refine ⟨_, rfl, _, _, rfl, rfl, _, rfl, if_f (decide_eq_false (by omega)) ?_⟩
    refine ⟨_, rfl, C, mc, _, _, rfl, G.rd, hv8, _, _, rfl, rfl, _, rfl, if_f (decide_eq_false (by omega)) ?_⟩
    refine ⟨_, rfl, e, _, rfl, sq_or hS hq, C, mc, _, _, rfl, G.rd, hv24, _, _, rfl, rfl, _, rfl, if_f (decide_eq_false (by rw [vsOf_len]; omega)) ?_⟩
    refine ⟨_, rfl, _, rfl, n, e, ts, S, rfl, hS, hq, ed, va, n1, by omega, by omega, fun H1 s1 => ?_⟩
    refine ⟨_, rfl, _, rfl, g, C, dx, [], rfl, s1 _ _ hg, G.cl, G.nS, (by show 0 < 1000; decide), ?_⟩
    rw [flds_put1]
    have k2 : KeepB g H (upd H1 g (.ins C dx [("state_count", V.int n)])) := KeepB.trans (.of_same s1) .updb
    have g2 : upd H1 g (.ins C dx [("state_count", V.int n)]) g = some (.ins C dx [("state_count", V.int n)]) := upd_same
    generalize upd H1 g (.ins C dx [("state_count", V.int n)]) = H2 at *
    refine ⟨_, rfl, e, vsOf ts, S, rfl, hS, hq0 _ (k2 _ _ ge he), fun J w => fun D hD => ?_⟩
    have nDg : D ≠ g := fun z => by
      rw [z, g2] at hD
      cases hD
    have nD : H D = none := k2.free g2 hD
    refine lc_it w (fun i H' => ∃ us : Es, psOf us = psOf (ts.take i) ∧ KeepB g H H' ∧ H' g = some (.ins C dx [("state_count", V.int n)]) ∧ H' D = some (.lst (vsOf us)) ∧ Ed H' us)
      ⟨[], rfl, k2.new hD, by rw [upd_ne nDg.symm]; exact g2, upd_same, .nil⟩ (fun i H' _ p => by obtain ⟨us, _, k3, _⟩ := p; exact hq0 _ (k3 _ _ ge he)) ?_ ?_
    · rintro i x H3 H' hi ⟨us, hus, k3, g3, eD, ed3⟩ ⟨rfl, gx⟩
      obtain ⟨ee, hee, rfl⟩ := vsOf_at gx
      have mem : ee ∈ ts := List.mem_of_getElem? hee
      have eg : ee.1 ≠ g := fun z => by
        have h := ed ee mem
        rw [z, hg] at h
        cases h
      refine ⟨ee.1, _, rfl, SqT.of (k3 _ _ eg (ed ee mem)), rfl, _, _, rfl, _, _, rfl, rfl, rfl, ?_⟩
      refine ⟨_, rfl, _, rfl, (by show 2 ≤ sizeLine; decide), fun t ht => ?_⟩
      have s4 := same_upd (o := .tup [.int ee.2.1, .int ee.2.2]) ht
      have tD : D ≠ t := ne_of_none eD ht
      refine ⟨_, s4 _ _ eD, ?_, us ++ [(t, ee.2)], ?_, ?_, ?_, ?_, ?_⟩
      · have h1 : us.length = (ts.take i).length := by
          have := congrArg List.length hus
          unfold psOf at this
          simpa using this
        rw [vsOf_len, h1, List.length_take]
        exact small1000 (by omega)
      · unfold psOf at hus ⊢
        rw [List.map_append, hus, List.take_add_one, hee, List.map_append]
        rfl
      · exact (k3.new ht).at nD
      · rw [upd_ne nDg.symm]
        exact s4 _ _ g3
      · rw [upd_same]
        unfold vsOf
        rw [List.map_append]
        rfl
      · refine Ed.app (fun x hx => ?_) (.one ?_)
        · have h := s4 _ _ (ed3 x hx)
          rw [upd_ne (fun z => ?_)]
          · exact h
          · rw [z, s4 _ _ eD] at h
            cases h
        · rw [upd_ne (Ne.symm tD), upd_same]
    · rintro H3 ⟨us, hus, k3, g3, eD, ed3⟩
      rw [vsOf_len, List.take_length] at hus
      refine ⟨D, _, rfl, .inl ⟨SqL.of eD, fun t ht => ?_⟩⟩
      have s4 := same_upd (o := .tup (vsOf us)) ht
      have tg : t ≠ g := (ne_of_none g3 ht).symm
      refine ⟨_, rfl, g, C, dx, _, rfl, s4 _ _ g3, G.cl, G.nE, (by show 1 < 1000; decide), ?_⟩
      rw [flds_put2]
      refine q us _ hus ((k3.trans (.of_same s4)).trans .updb) ⟨⟨dx, t, upd_same, by rw [upd_ne tg]; exact upd_same⟩, fun x hx => ?_⟩
      have h := s4 _ _ (ed3 x hx)
      rw [upd_ne (fun z => ?_)]
      · exact h
      · rw [z, s4 _ _ g3] at h
        cases h
/-! ### the small ones -/
theorem scLen : FnScope ["self"] ["self"] (defScope sLen) := ⟨rfl, rfl, rfl, by decide +kernel, rfl, by decide +kernel, by decide +kernel⟩
theorem ok_len {f C : Addr} {mc : Value} {fd : FuncData} {k : Nat} (F : Fun K "__len__" "Graph.__len__" sLen f fd) (T : Bi mg) (G : GTxt K mg C mc) : FnOk P w K mg base CX0 (k + 1) f fd ["self"] (spLen C) := by
  refine F.ok scLen (fun vs H Q E h => ?_) (fun cdv A outer s H vs Q E hr h => ?_)
  · obtain ⟨g, n, us, rfl, _⟩ := h
    rfl
  · obtain ⟨g, n, us, rfl, ⟨⟨dx, t, h1, h2⟩, ed⟩, q⟩ := h
    refine ⟨_, pss_one (ps_ret (pe_callB call_len_seq (by rfl) T.len PySem.boot_len (pa_cons (pe_fld (pv 0) rfl) pa_nil))), ?_⟩
    refine ⟨_, rfl, g, C, dx, _, _, rfl, h1, G.cl, G.nE, look_e _ _, t, _, rfl, .inr (SqT.of h2), ?_⟩
    rw [vsOf_len]
    exact q
theorem scStates : FnScope ["self"] ["self"] (defScope sStates) := ⟨rfl, rfl, rfl, by decide +kernel, rfl, by decide +kernel, by decide +kernel⟩
theorem ok_states {f C : Addr} {mc : Value} {fd : FuncData} {k : Nat} (F : Fun K "states" "Graph.states" sStates f fd) (G : GTxt K mg C mc) : FnOk P w K mg base CX0 (k + 1) f fd ["self"] (spStates C) := by
  refine F.ok scStates (fun vs H Q E h => ?_) (fun cdv A outer s H vs Q E hr h => ?_)
  · obtain ⟨g, n, us, rfl, _⟩ := h
    rfl
  · obtain ⟨g, n, us, rfl, ⟨⟨dx, t, h1, h2⟩, ed⟩, q⟩ := h
    exact ⟨_, pss_one (ps_ret (pe_fld (pv 0) rfl)), _, rfl, g, C, dx, _, _, rfl, h1, G.cl, G.nS, look_s _ _, q⟩
theorem scEdges : FnScope ["self"] ["self"] (defScope sEdges) := ⟨rfl, rfl, rfl, by decide +kernel, rfl, by decide +kernel, by decide +kernel⟩
theorem ok_edges {f C : Addr} {mc : Value} {fd : FuncData} {k : Nat} (F : Fun K "edges" "Graph.edges" sEdges f fd) (T : Bi mg) (G : GTxt K mg C mc) : FnOk P w K mg base CX0 (k + 1) f fd ["self"] (spEdges C) := by
  refine F.ok scEdges (fun vs H Q E h => ?_) (fun cdv A outer s H vs Q E hr h => ?_)
  · obtain ⟨g, n, us, rfl, _⟩ := h
    rfl
  · obtain ⟨g, n, us, rfl, ⟨⟨dx, t, h1, h2⟩, ed⟩, q⟩ := h
    exact ⟨_, pss_one (ps_ret (pe_callTy call_list_of (by rfl) T.list (by decide +kernel) (pa_cons (pe_fld (pv 0) rfl) pa_nil))), _, rfl, g, C, dx, _, _, rfl, h1, G.cl, G.nE, look_e _ _, t, _, rfl, .inr (SqT.of h2), q⟩
theorem scRepr : FnScope ["self"] ["self"] (defScope sRepr) := ⟨rfl, rfl, rfl, by decide +kernel, rfl, by decide +kernel, by decide +kernel⟩
theorem log_small {n : Int} (h0 : 0 ≤ n) (h1 : n < 1000) : n.natAbs.log2 < 1920 := by
  have h : n.natAbs < 2 ^ 10 := by omega
  by_cases hz : n.natAbs = 0
  · rw [hz]
    decide
  · have := (Nat.log2_lt hz).mpr h
    omega
theorem len_small {n : Int} (h0 : 0 ≤ n) (h1 : n < 1000) : (Str.ofString (toString n)).length ≤ 3 := PyProof.Rows.toString_length_le h0 (by decide) (by omega)
theorem len_app (x y : Str) : (x ++ y).length = x.length + y.length := by
  show (x.cps ++ y.cps).size = x.cps.size + y.cps.size
  exact Array.size_append
theorem ok_repr {f C : Addr} {mc : Value} {fd : FuncData} {k : Nat} (F : Fun K "__repr__" "Graph.__repr__" sRepr f fd) (T : Bi mg) (G : GTxt K mg C mc) : FnOk P w K mg base CX0 (k + 1) f fd ["self"] (spRepr C) := by
  refine F.ok scRepr (fun vs H Q E h => ?_) (fun cdv A outer s H vs Q E hr h => ?_)
  · obtain ⟨g, n, us, rfl, _⟩ := h
    rfl
  · obtain ⟨g, n, us, rfl, ⟨⟨dx, t, h1, h2⟩, ed⟩, n0, n1, hl, q⟩ := h
    refine ⟨_, pss_one (ps_ret (pe_joined (.cons pe_str (.cons (pe_fmt (pe_fld (pv 0) rfl)) (.cons pe_str (.cons (pe_fmt (pe_callB call_len_seq (by rfl) T.len PySem.boot_len (pa_cons (pe_fld (pv 0) rfl) pa_nil))) (.cons pe_str .nil))))))), ?_⟩
    have hsz : ∀ m : Nat, m ≤ 1000 → m ≤ sizeLine := fun m h => Nat.le_of_lt (small1000 h)
    have l0 : (0 : Int) ≤ (us.length : Int) := by omega
    have l1 : (us.length : Int) < 1000 := by omega
    have a1 := len_small n0 n1
    have a2 := len_small l0 l1
    have z1 : (Str.ofString "Graph(").length = 6 := by decide +kernel
    have z2 : (Str.ofString " states, ").length = 9 := by decide +kernel
    have z3 : (Str.ofString " edges)").length = 7 := by decide +kernel
    have z0 : Str.empty ++ Str.ofString "Graph(" = Str.ofString "Graph(" := by decide +kernel
    refine ⟨_, rfl, hsz _ (by rw [z0]; omega), _, rfl, g, C, dx, _, _, rfl, h1, G.cl, G.nS, look_s _ _, .inr ⟨n, rfl, log_small n0 n1, _, rfl, hsz _ ?_, ?_⟩⟩
    · rw [z0, len_app]; omega
    refine ⟨_, rfl, hsz _ ?_, ?_⟩
    · rw [z0, len_app, len_app]; omega
    refine ⟨_, rfl, g, C, dx, _, _, rfl, h1, G.cl, G.nE, look_e _ _, t, _, rfl, .inr (SqT.of h2), .inr ⟨_, rfl, ?_, _, rfl, hsz _ ?_, ?_⟩⟩
    · rw [vsOf_len]; exact log_small l0 l1
    · rw [vsOf_len, z0, len_app, len_app, len_app]; omega
    refine ⟨_, rfl, hsz _ ?_, ?_⟩
    · rw [vsOf_len, z0, len_app, len_app, len_app, len_app]; omega
    rw [vsOf_len, z0]
    exact q
end
end Lw
set_option Elab.async false
set_option linter.all false
set_option maxRecDepth 100000
namespace Lw
open PySem L2
/-- what isinstance asks of the class, and that the built-in kinds are not of it -/
structure GIs (K : PySem.W.Frag) (C : Addr) : Prop where
  ins : C8.InsC K C
  non : PySem.W.kitOne K (.type "NoneType") (.ref C) = some false
  int : PySem.W.kitOne K (.type "int") (.ref C) = some false
  lst : PySem.W.kitOne K (.type "list") (.ref C) = some false
  tup : PySem.W.kitOne K (.type "tuple") (.ref C) = some false
def spGEq (K : PySem.W.Frag) (C : Addr) : Sp := fun vs H Q _ => ∃ (g : Addr) (n : Int) (us : Es) (y : V), vs = [.ref g, y] ∧ GraphAt C H g n us ∧
  ((∃ (g2 : Addr) (n2 : Int) (us2 : Es), y = .ref g2 ∧ GraphAt C H g2 n2 us2 ∧ Q (.bl (decide (n = n2) && decide (psOf us = psOf us2))) H) ∨ ((∃ t, TyX K H y t ∧ PySem.W.kitOne K t (.ref C) = some false) ∧ Q (.bl false) H))
theorem spGEq_mono {K : PySem.W.Frag} {C : Addr} (vs : List V) (H : Hp) (Q Q' : VK) (E : XK) (h : ∀ v H', Q v H' → Q' v H') (s : spGEq K C vs H Q E) : spGEq K C vs H Q' E := by
  obtain ⟨g, n, us, y, e, G, s⟩ := s
  rcases s with ⟨g2, n2, us2, e2, G2, q⟩ | ⟨t, q⟩
  · exact ⟨g, n, us, y, e, G, .inl ⟨g2, n2, us2, e2, G2, h _ _ q⟩⟩
  · exact ⟨g, n, us, y, e, G, .inr ⟨t, h _ _ q⟩⟩
theorem GraphAt.same {C : Addr} {H H' : Hp} {g : Addr} {n : Int} {us : Es} (h : GraphAt C H g n us) (s : Same H H') : GraphAt C H' g n us := by
  obtain ⟨⟨dx, t, h1, h2⟩, ed⟩ := h
  exact ⟨⟨dx, t, s _ _ h1, s _ _ h2⟩, ed.same s⟩
theorem PlanAt.same {H H' : Hp} {p q : Addr} {n : Int} {ts : Es} (h : PlanAt H p q n ts) (s : Same H H') : PlanAt H' p q n ts := ⟨s _ _ h.tp, s _ _ h.ls, h.ed.same s, h.va, h.n1⟩
section
variable {P : Program} {w : World} {K : PySem.W.Frag} {mg : Str → Option Value} {base : Heap}
theorem scEq : FnScope ["self", "other"] ["self", "other"] (defScope sEq) := ⟨rfl, rfl, rfl, by decide +kernel, rfl, by decide +kernel, by decide +kernel⟩
set_option maxHeartbeats 4000000 in
theorem ok_eq {f C : Addr} {mc : Value} {fd : FuncData} {k : Nat} (F : Fun K "__eq__" "Graph.__eq__" sEq f fd) (T : Bi mg) (G : GTxt K mg C mc) (S : GIs K C) : FnOk P w K mg base CX0 (k + 1) f fd ["self", "other"] (spGEq K C) := by
  refine F.ok scEq (fun vs H Q E h => ?_) (fun cdv A outer s H vs Q E hr h => ?_)
  · obtain ⟨g, n, us, y, rfl, _⟩ := h
    rfl
  · obtain ⟨g, n, us, y, rfl, ⟨⟨dx, t, h1, h2⟩, ed⟩, hh⟩ := h
    refine ⟨_, pss_one (ps_ret (pe_and (pe_callB call_isi (by rfl) T.isi (by decide +kernel) (pa_cons (pv 1) (pa_cons (pe_glob (v := .ref C) (by rfl) G.mgG rfl) pa_nil)))
      (pe_and (pe_cmpR op_eq (pe_fld (pv 0) rfl) (pe_fld (pv 1) rfl) (nomark _)) (pe_one (pe_cmpR (op_eqD hr.units) (pe_fld (pv 0) rfl) (pe_fld (pv 1) rfl) (nomark _)))))), ?_⟩
    rcases hh with ⟨g2, n2, us2, rfl, ⟨⟨dx2, t2, h12, h22⟩, ed2⟩, q⟩ | ⟨⟨ty, hty, hk⟩, q⟩
    · refine ⟨_, rfl, _, _, _, _, true, rfl, .own _, .base (.ins h12 S.ins.cl S.ins.ha S.ins.hn S.ins.htk S.ins.hm), S.ins.me, true, rfl, iteT ?_⟩
      refine ⟨_, rfl, g, C, dx, _, _, rfl, h1, G.cl, G.nS, look_s _ _, _, rfl, g2, C, dx2, _, _, rfl, h12, G.cl, G.nS, look_s _ _, rfl, _, rfl, ?_⟩
      by_cases hn : n = n2
      · refine if_t (decide_eq_true (by rw [hn])) ?_
        refine ⟨_, rfl, g, C, dx, _, _, rfl, h1, G.cl, G.nE, look_e _ _, _, rfl, g2, C, dx2, _, _, rfl, h12, G.cl, G.nE, look_e _ _, _, _, .tup (SqT.of h2) (dEs_at ed), .tup (SqT.of h22) (dEs_at ed2), shT _, shT _, ?_⟩
        rw [decide_eq_true hn, Bool.true_and, ← eqv_es] at q
        exact q
      · refine if_f (decide_eq_false (fun z => hn (by injection z))) ?_
        rw [decide_eq_false hn, Bool.false_and] at q
        exact q
    · exact ⟨_, rfl, _, _, _, _, false, rfl, .own _, hty, hk, false, rfl, iteF q⟩
end
end Lw
set_option Elab.async false
set_option linter.all false
set_option maxRecDepth 100000
/-! the own errors: a base over ValueError with a word, and errors of one field over it -/
namespace Lw
open PySem PySem.Spec PyProof.Rows L2
section
variable {X : Cx} {CX : CXT} {k : Nat} {C f : Addr} {mc : Value} {fd : FuncData} {ps : List Str} {sp : Sp} {ds : List Value} {dvs : List V} {E : XK} {x m : Str} {e : Expr} {es : List Expr} {ta : TA} {p1 p2 pos : Pos}
/-- C.m(e, ..), m a plain def of the class C -/
theorem pe_clsfn {pl : Sem Bool} (hg : Gl X x) (hm : X.mg x = some (.ref C)) (r : ClX.CRead X.K C mc) (kv : ClX.CVal X.K C mc m (.ref f) (.ref f)) (hk : PySem.W.keepIn X.K (.ref f) = true)
    (F : FnOk X.prog X.w X.K X.mg X.base CX k f fd ps sp) (hr : Room k X.A) (hb : Binds X.K fd ps ds) (hd : Vals dvs ds) (hx : Passes CX X E) (ha : PA X (e :: es) ta)
    (hc : eval (.Call (.Attribute (.Name x p1) m p2) (e :: es) [] pos) X.env = (do
      let ov ← eval (.Name x p1) X.env
      standAt p2.atName
      let (f, first) ← holding [ov] (getMethod ov m pl)
      callWith pos f first (backTo pos (starEach (e :: es) X.env)) (backToKw pos (keywordEach [] X.env))) := by rfl)
    (hdb : (x == ("__debug__" : Str)) = false := by decide) (he : starEach (e :: es) X.env = (false, eval e X.env) :: starEach es X.env := by rfl) (hpl : (backTo pos (starEach es X.env)).any (·.1) = false := by rfl) :
    PE X (.Call (.Attribute (.Name x p1) m p2) (e :: es) [] pos) (tCall sp dvs E ta) := by
  refine ⟨fun pins s σ H Q I h => ?_⟩
  refine PySem.W.methodCall_KW (ld_glob I hg hm ?_ hdb) hc
  refine PySem.W.method_cls I.kIn r.ga (ClX.getcval_ok I r kv fun s' I' => ?_)
  refine PySem.W.callWith_K (h₀ := X.base) I.ok.mod.kin hk (thn (ha.run pos pins s' σ H _ I' h) fun us s2 ⟨vs, H2, I2, rv, q⟩ => ⟨I2.kIn, ?_⟩) he hpl
  exact run_fn F hr hb hd hx I2 rv q
end
abbrev sWin : Stmt := inClass (top 2) 0
/-- a fresh error of the class at C, its dict at d with these fields -/
def spWin (K : PySem.W.Frag) : Sp := fun vs H Q _ => ∃ (a C : Addr) (wd told : Str), vs = [.ref a, .str wd, .str told] ∧ OexC K C ∧ PySem.W.findIn K (.ref C) "word" = some none ∧ H a = some (exo a C none) ∧
  ∀ d, H d = none → d ≠ a → Q .non (upd (upd H d (exd d [("word", .str wd)])) a (exo a C (some d)))
/-- the fields of an error -/
def erF (fld wd : Str) (n : Int) : List (Str × V) := [(fld, .int n), ("word", .str wd)]
theorem er_w {fld wd : Str} {n : Int} (h : (("word" : Str) == fld) = false) : (erF fld wd n).lookup ("word" : Str) = some (.str wd) := by
  simp [erF, List.lookup, h]
theorem er_n {fld wd : Str} {n : Int} : (erF fld wd n).lookup fld = some (.int n) := by
  simp [erF, List.lookup]
def spErr (C : Addr) (fld wd : Str) : Sp := fun vs H Q _ => ∃ (a : Addr) (n : Int), vs = [.ref a, .int n] ∧ n.natAbs < 10 ^ 100 ∧ H a = some (exo a C none) ∧
  ∀ d, H d = none → d ≠ a → Q .non (upd (upd (upd H d (exd d [("word", .str wd)])) a (exo a C (some d))) d (exd d (erF fld wd n)))
/-- an own error that can be raised by its name -/
structure ErrIn (P : Program) (w : World) (K : PySem.W.Frag) (mg : Str → Option Value) (base : Heap) (x : Str) (C : Addr) (fld wd : Str) : Prop where
  O : OexC K C
  mx : mg x = some (.ref C)
  ini : ∃ (fI : Addr) (fd : FuncData), PySem.W.findIn K (.ref C) "__init__" = some (some (.ref fI)) ∧ PySem.W.typeIn K (.ref fI) = some (.type "function") ∧ FnOk P w K mg base CX0 2 fI fd ["self", fld] (spErr C fld wd) ∧ Binds K fd ["self", fld] []
/-- what raising such an error asks, once its argument is read -/
theorem er_tail {H : Hp} {C : Addr} {n : Int} {fld wd : Str} {E : XK} (hn : n.natAbs < 10 ^ 100) (k : ∀ d, H d = none → E (.ref C) (some d) (upd H d (.xd (erF fld wd n)))) :
    [V.int n].length ≤ 1000 ∧ ∀ a, H a = none → spErr C fld wd (.ref a :: ([V.int n] ++ [])) (upd H a (exo a C none))
      (fun v H2 => v = .non ∧ ∃ (d : Addr) (fs : List (Str × V)), H2 a = some (exo a C (some d)) ∧ H2 d = some (exd d fs) ∧ H d = none ∧ E (.ref C) (some d) (upd (del H2 a) d (.xd fs))) (fun _ _ _ => False) := by
  refine ⟨by show 1 ≤ 1000; decide, fun a na => ⟨a, n, rfl, hn, upd_same, fun d hd ne => ⟨rfl, d, _, ?_, upd_same, ?_, ?_⟩⟩⟩
  · rw [upd_ne ne.symm]
    exact upd_same
  · rw [upd_ne ne] at hd
    exact hd
  · have hd' : H d = none := by
      rw [upd_ne ne] at hd
      exact hd
    have e : upd (del (upd (upd (upd (upd H a (exo a C none)) d (exd d [("word", .str wd)])) a (exo a C (some d))) d (exd d (erF fld wd n))) a) d (.xd (erF fld wd n)) = upd H d (.xd (erF fld wd n)) := by
      funext x
      by_cases e1 : x = d
      · subst e1
        rw [upd_same, upd_same]
      · rw [upd_ne e1, upd_ne e1]
        by_cases e2 : x = a
        · subst e2
          rw [del_same, na]
        · rw [del_ne e2, upd_ne e1, upd_ne e2, upd_ne e1, upd_ne e2]
    rw [e]
    exact k d hd'
theorem ps_raiseE {X : Cx} {W : WX} {x : Str} {C : Addr} {fld wd : Str} {j : Nat} {e : Expr} {ta : TA} {p pos pos2 : Pos} (hc : X.calm = true) (tk : Takes X W) (R : ErrIn X.prog X.w X.K X.mg X.base x C fld wd) (hr : Room j X.A) (hj : 3 ≤ j) (hg : Gl X x) (ha : PA X [e] ta)
    (hdb : (x == ("__debug__" : Str)) = false := by decide) (he : starEach [e] X.env = (false, eval e X.env) :: starEach [] X.env := by rfl) (hpl : (backTo pos (starEach [] X.env)).any (·.1) = false := by rfl) :
    PS X (.Raise (some (.Call (.Name x p) [e] [] pos)) none pos2) (fun _ σ H => tMkO C (spErr C fld wd) [] ta σ H fun cls d H' => W cls d σ H') := by
  obtain ⟨fI, fd, h1, h2, F, b⟩ := R.ini
  exact ps_raise hc tk (pmk_oex R.O h1 h2 F (hr.mono hj) b .nil pass0 hg R.mx ha hdb he hpl)
section
variable {P : Program} {w : World} {K : PySem.W.Frag} {mg : Str → Option Value} {base : Heap}
theorem scWin : FnScope ["self", "word", "told"] ["self", "word", "told"] (defScope sWin) := ⟨rfl, rfl, rfl, by decide +kernel, rfl, by decide +kernel, by decide +kernel⟩
theorem ok_win {f : Addr} {fd : FuncData} {k : Nat} {dvs : List V} (F : FunD K "__init__" "WindowError.__init__" (defArgs sWin) (defBody sWin) (defScope sWin) dvs [] f fd) (mVE : mg "ValueError" = none)
    (vV : PySem.W.findCls K (.type "ValueError") (.type "type") "__init__" = some (.val (.builtin "ValueError.__init__"))) : FnOk P w K mg base CX0 (k + 1) f fd ["self", "word", "told"] (spWin K) := by
  refine F.ok scWin (fun vs H Q E h => ?_) (fun cdv A outer s H vs Q E hr h => ?_)
  · obtain ⟨a, C, wd, told, rfl, _⟩ := h
    rfl
  · obtain ⟨a, C, wd, told, rfl, T, nw, ha, q⟩ := h
    refine ⟨_, pss_cons (ps_expr (pe_veinit (by rfl) mVE vV (pa_cons (pv 0) (pa_cons (pv 2) pa_nil)))) (pss_one (ps_ost (pv 0) (pv 1))), ?_⟩
    refine ⟨_, rfl, _, rfl, a, C, _, rfl, (by show 1 ≤ 1000; decide), T, ha, ?_⟩
    exact ⟨_, rfl, _, rfl, a, C, rfl, T, nw, .inl ⟨ha, fun d hd ne => q d hd ne⟩⟩
theorem log_big {n : Int} (h : n.natAbs < 10 ^ 100) : n.natAbs.log2 < 1920 := by
  by_cases hz : n.natAbs = 0
  · rw [hz]
    decide
  · exact (Nat.log2_lt hz).mpr (Nat.lt_trans h (by decide +kernel))
theorem len_app0 (x y : Str) : (x ++ y).length = x.length + y.length := by
  show (x.cps ++ y.cps).size = x.cps.size + y.cps.size
  exact Array.size_append
end
end Lw
set_option Elab.async false
set_option linter.all false
set_option maxRecDepth 100000
/-! try .. except C as n: .., with any clauses behind, where all that the body raises is of C -/
namespace Lw
open PySem PySem.Spec PyProof.Rows L2
section
variable {X : Cx} {pins : List (Addr × Obj)} {σ : L2.St} {H : Hp}
/-- an error on the ground: its object, the frame's state, and the state of a suite that handles it -/
theorem ground {a : Addr} {cls : Value} {d : Option Addr} {B h : Heap} {sI s' : Shared} (fo : X.env.frame = some X.env.locals) (J : Inv X pins σ H sI)
    (old : ∀ b o, sI.heap.get? b = some o → b ∉ frs X.stack → B.get? b = some o) (up : sI.heap.UpToSlots h) (os : s'.os = sI.os) (bare : AllBare s'.gens) (na : H a = none)
    (fl : HandSPX.FlyingZ B (X.env :: X.outer) a (Zc cls d) h) :
    ∃ oe, h.get? a = some oe ∧ Zc cls d oe ∧ (∃ vs, oe.data = .fields vs) ∧ Inv X pins σ H { s' with heap := h } ∧ Inv (X.suite a ((a, oe) :: (X.pn ++ pins))) [] σ H { s' with heap := h } := by
  obtain ⟨oe, vs, get, z, dat⟩ := fl.there
  have K : Inv X pins σ H { s' with heap := h } := J.landed old fl.1 up os bare
  have off : a ∉ frs (X.env :: X.outer) := by
    intro m
    obtain ⟨_, o, ho, no⟩ := fl.2.2.1.mem m
    have e : oe = o := Option.some.inj (get.symm.trans ho)
    exact no vs (e ▸ dat)
  refine ⟨oe, get, z, ⟨vs, dat⟩, K, K.suite get dat na (fun e => off ?_) (fun m => off ?_)⟩
  · refine List.mem_filterMap.mpr ⟨X.env, .head _, ?_⟩
    rw [fo, ← e]
  · obtain ⟨en, hen, hfr⟩ := List.mem_filterMap.mp m
    exact List.mem_filterMap.mpr ⟨en, .tail _ hen, hfr⟩
/-- what becomes of an error that leaves the body -/
abbrev Lands (X : Cx) (pins : List (Addr × Obj)) (D : Ends) (hds : List ExceptHandler) : Value → Shared → Prop := fun e s1 =>
  wpAny (model X.prog X.w) X.A (noteFrame e X.env) (fun _ s2 => wpAny (model X.prog X.w) X.A (setFlight e none) (fun _ s3 => wpAny (model X.prog X.w) X.A (handleBy e X.env hds) (SP X pins D) X.xe s3) X.xe s2) X.xe s1
/-- the ends of the suite: its name goes -/
abbrev without (D : Ends) (i : Nat) : Ends := { nx := fun τ G => D.nx (τ.set i none) G, rt := D.rt, bk := fun τ G => D.bk (τ.set i none) G, ct := fun τ G => D.ct (τ.set i none) G }
def wFirst (K : PySem.W.Frag) (c : Value) (i : Nat) (ts : Addr → Value → Option Addr → TS) (D : Ends) : WX := fun cls d τ G =>
  PySem.W.exmOne K cls c = some true ∧ ∀ a, G a = none → ts a cls d (without D i) (τ.set i (some (.ref a))) G
theorem SP.back {P' : Cx} {ps : List (Addr × Obj)} {D : Ends} {f : Flow} {s : Shared} (h : SP P' ps D f s) (k : ∀ {τ G}, Inv P' ps τ G s → Inv X pins τ G s) : SP X pins D f s := by
  match f, h with
  | .next, ⟨τ, G, J, q⟩ => exact ⟨τ, G, k J, q⟩
  | .brk, ⟨τ, G, J, q⟩ => exact ⟨τ, G, k J, q⟩
  | .cont, ⟨τ, G, J, q⟩ => exact ⟨τ, G, k J, q⟩
  | .ret u, ⟨v, τ, G, J, r, q⟩ => exact ⟨v, τ, G, k J, r, q⟩
end
section
variable {X : Cx} {x n : Str} {c : Value} {i : Nat} {body suite : List Stmt} {b0 : Stmt} {np pos pos' : Pos} {tb : WX → TS} {ts : Addr → Value → Option Addr → TS} {more : List ExceptHandler}
theorem ps_try_first (so : X.stack = X.env :: X.outer) (fo : X.env.frame = some X.env.locals) (nd : X.N.Nodup) (hi : X.N[i]? = some n) (loc : X.env.kindOf n = some .local) (nam : Names X x c)
    (inBody : ∀ (W : WX) (pn : List (Addr × Obj)) (xe : Value → Shared → Prop), Takes (X.tr pn xe) W → PassesOwn (model X.prog X.w) X.A X.env xe →
      PSs (X.tr pn xe) body (tb W))
    (inSuite : ∀ (a : Addr) (oe : Obj) (cls : Value) (d : Option Addr) (pn : List (Addr × Obj)), Zc cls d oe → (∃ vs, oe.data = .fields vs) →
      PSs (X.suite a ((a, oe) :: pn)) (b0 :: suite) (ts a cls d)) :
    PS X (.Try body (.ExceptHandler (some (.Name x np)) (some n) (b0 :: suite) pos' :: more) [] [] pos) (fun D σ H => tb (wFirst X.K c i ts D) D σ H) := by
  constructor
  intro pins s σ H D I h
  have frames : X.A.frames = some (X.env :: X.outer) := I.ok.frames.trans (congrArg some so)
  refine wpAny_Try_except (wpAny_mono ((inBody (wFirst X.K c i ts D) (X.pn ++ pins) (Lands X pins D (.ExceptHandler (some (.Name x np)) (some n) (b0 :: suite) pos' :: more)) ?_ PassesOwn.looking).run [] s σ H D (I.toTry _) h) ?_ fun _ _ z => z)
  · -- an error leaves the body: it lands, it is of c, the suite runs
    rintro _ s' ⟨a, B, sI, ps, τ, G, cls, d, rfl, J0, old, up, sky, na, os, bare, hit, run⟩
    have J : Inv X pins τ G sI := J0.ofTry I.ok
    refine Sky.land Zc.steady frames fo (show Sky B (X.env :: X.outer) a (Zc cls d) X.env.locals s'.heap from so ▸ sky) fun g fl up1 => ?_
    obtain ⟨oe, get, z, _, K, S⟩ := ground fo J old (up.trans up1) os bare na fl
    have isC : PySem.W.Looks (model X.prog X.w) g (typeOf (.ref a)) cls := fun A' Q' E' t keep q => wpAny_typeOf_ref (keep _ _ get) (z.1.symm ▸ q)
    refine wpAny_handleBy_cons (codeAny_handlers_test ?_) nofun
    have ask : ∀ {Q E : Value → Shared → Prop}, Q c { s' with heap := g } → wpAny (model X.prog X.w) (X.A.mark (some (.ref a))) (eval (.Name x np) X.env) Q E { s' with heap := g } := by
      intro Q' E' q
      rcases nam.2.2 with m | ⟨m, bt, ne⟩
      · exact ld_glob (X := X.suite a ((a, oe) :: (X.pn ++ pins))) S nam.1 m q nam.2.1
      · exact ld_blt (X := X.suite a ((a, oe) :: (X.pn ++ pins))) S nam.1 m bt q ne nam.2.1
    refine ask ((PySem.W.exm_one (M := model X.prog X.w) K.kIn isC hit).here (codeAny_handlers_suite_as (HandSPX.lands_againZ fl fun g2 fl2 up2 => ?_)))
    obtain ⟨oe2, _, z2, flds, _, S2⟩ := ground fo J old ((up.trans up1).trans up2) os bare na fl2
    refine store_ok (X := X.suite a ((a, oe2) :: (X.pn ++ pins))) (v := .ref a) S2 nd hi (.inl loc) rfl (fun s5 S5 => ?_) (.inr loc)
    refine wpAny_mono ((inSuite a oe2 cls d (X.pn ++ pins) z2 flds).run [] s5 _ G _ S5 (run a na)) ?_ fun _ _ z => z.elim
    have gone : ∀ {τ6 G6 s6} {Q : Shared → Prop}, Inv (X.suite a ((a, oe2) :: (X.pn ++ pins))) [] τ6 G6 s6 → (∀ s7, Inv X pins (τ6.set i none) G6 s7 → Q s7) → wpAny (model X.prog X.w) X.A (do bindName X.env n .none; unbindBehindTheSuite X.env n pos') (fun _ s7 => Q s7) X.xe s6 :=
      fun S6 after => gone_ok (S6.unsuite I.ok) nd hi loc after
    intro f s6 fin
    match f, fin with
    | .next, ⟨τ6, G6, S6, q⟩ => exact gone S6 fun s7 J7 => ⟨_, _, J7, q⟩
    | .brk, ⟨τ6, G6, S6, q⟩ => exact gone S6 fun s7 J7 => ⟨_, _, J7, q⟩
    | .cont, ⟨τ6, G6, S6, q⟩ => exact gone S6 fun s7 J7 => ⟨_, _, J7, q⟩
    | .ret u, ⟨v, τ6, G6, S6, r, q⟩ => exact gone S6 fun s7 J7 => ⟨_, _, _, J7, r, q⟩
  · -- the body ends by itself
    intro f s1 fin
    have fin := SP.back (X := X) (pins := pins) fin fun J => J.ofTry I.ok
    match f, fin with
    | .next, fin => exact wpAny_execs_nil fin
    | .brk, fin => exact fin
    | .cont, fin => exact fin
    | .ret u, fin => exact fin
end
end Lw
set_option Elab.async false
set_option linter.all false
set_option maxRecDepth 100000
/-! a def that raises nothing, called while an error is handled: p is the handled one, of which Z is known -/
namespace Lw
open PySem PySem.Spec PyProof.Rows L2
structure FnC (P : Program) (w : World) (K : PySem.W.Frag) (mg : Str → Option Value) (base : Heap) (k : Nat) (f : Addr) (fd : FuncData) (ps : List Str) (Z : Addr × Obj → Prop) (sp : Sp) : Prop where
  len : ∀ vs H Q E, sp vs H Q E → vs.length = ps.length
  run : ∀ (A : Around) (outer : List Env) (s : Shared) (H : Hp) (args : Args) (us : List Value) (vs : List V) (Q : VK) (E : XK) (p : Addr × Obj), L2H.RoomH k A → Z p → L2H.PinOk outer H s p → Env0 P w K mg base A outer s H → BindsTo s fd args (ps.zip us) → Vals vs us → sp vs H Q E →
    codeAny (model P w) A (.call (.ref f) args) (CR CX0 outer P w H s Q E) s
theorem fn_ofC {P : Program} {w : World} {K : PySem.W.Frag} {mg : Str → Option Value} {base : Heap} {k : Nat} {x qual : Str} {st : Stmt} {f : Addr} {fd : FuncData} {N ps : List Str} {Z : Addr × Obj → Prop} {sp : Sp} (F : Fun K x qual st f fd) (S : FnScope N ps (defScope st))
    (len : ∀ vs H Q E, sp vs H Q E → vs.length = ps.length)
    (hbody : ∀ (cdv : Value) (A : Around) (outer : List Env) (s : Shared) (H : Hp) (vs : List V) (Q : VK) (E : XK) (p : Addr × Obj), Z p → L2H.RoomH k (A.deeper (envOfC qual (defScope st) s.heap.objs.size f cdv)) → sp vs H Q E →
      ∃ t, PSs (L2H.cxH CX0 P w K mg base N qual (defScope st) f cdv A outer s H E p) (defBody st) t ∧ t { nx := fun _ H' => Q .non H', rt := Q } (L2.start N vs) H) : FnC P w K mg base (k + 1) f fd ps Z sp := by
  obtain ⟨oc, od, kV, doc, pm, an, cdv, ct, osl, rfl, lk, hcd⟩ := F.ex
  refine ⟨len, fun A outer s H args us vs Q E p hr hz hpin e0 hb r hsp => ?_⟩
  have hl := len _ _ _ _ hsp
  have up : ∀ b o, base.get? b = some o → s.heap.get? b = some o := fun b o e => (e0.bs b o e).1
  have KX : K.In s.heap := e0.mod.kin.keeps up
  refine codeAny_call_function hr.depth (KX _ _ lk) rfl S.co S.gen rfl (PySem.W.codeRec_of KX hcd) (hb _ _ _ _ ?_)
  refine wpAny_newFunctionEnv_cells S.kind (fun y hy => ?_) fun env he s1 x => ?_
  · exact (S.par y.1 (List.of_mem_zip hy).1).imp id fun q => ⟨q, PySem.W.cellsFrom_some _ _ _ (.inl q)⟩
  · subst he
    refine ⟨(e0.mod.nolimit.keeps up).keeps x.toInCall.keep, codeAny_func ?_⟩
    obtain ⟨t, ht, hq⟩ := hbody cdv A outer s H vs Q E p hz (hr.deeper _) hsp
    refine wpAny_mono (ht.run [] s1 (L2.start N vs) H _ (L2H.inv_startH S hpin e0 hl r x) hq) (fun fl s' hs => ?_) fun e s' hs => hs
    cases fl with
    | ret u =>
      obtain ⟨v, σ', H', J, rv, q⟩ := hs
      exact ⟨v, H', J.os, J.bare, J.base, J.hok, rv, q⟩
    | next =>
      obtain ⟨σ', H', J, q⟩ := hs
      exact ⟨.non, H', J.os, J.bare, J.base, J.hok, rfl, q⟩
    | brk => exact hs.elim fun _ z => z.elim fun _ z => z.2.elim
    | cont => exact hs.elim fun _ z => z.elim fun _ z => z.2.elim
section
variable {X : Cx} {k : Nat} {f : Addr} {fd : FuncData} {ps : List Str} {Z : Addr × Obj → Prop} {sp : Sp} {x : Str} {q pos : Pos} {e : Expr} {es : List Expr} {ta : TA} {p : Addr × Obj}
theorem pe_callC (F : FnC X.prog X.w X.K X.mg X.base k f fd ps Z sp) (hr : L2H.RoomH k X.A) (hp : p ∈ X.pn) (hz : Z p) (hg : Gl X x) (hm : X.mg x = some (.ref f)) (hk : PySem.W.keepIn X.K (.ref f) = true) (hb : Binds X.K fd ps [])
    (ha : PA X (e :: es) ta) (hdb : (x == ("__debug__" : Str)) = false := by decide) (he : starEach (e :: es) X.env = (false, eval e X.env) :: starEach es X.env := by rfl) (hpl : (backTo pos (starEach es X.env)).any (·.1) = false := by rfl) :
    PE X (.Call (.Name x q) (e :: es) [] pos) (tCall sp [] E0 ta) := by
  refine ⟨fun pins s σ H Q I h => wpAny_Call_Name_kw (ld_glob I hg hm ?_ hdb)⟩
  refine PySem.W.callWith_K (h₀ := X.base) I.ok.mod.kin hk (thn (ha.run pos pins s σ H _ I h) fun us s1 ⟨vs, H1, I1, r, q⟩ => ⟨I1.kIn, ?_⟩) he hpl
  replace q : sp (vs ++ []) H1 Q E0 := q
  rw [List.append_nil] at q
  have b := hb s1 us I1.kIn (by rw [List.append_nil, ← r.length]; exact F.len _ _ _ _ q)
  rw [List.append_nil] at b
  have P1 := I1.pin p (List.mem_append_left _ hp)
  refine wpAny_call (codeAny_mono (F.run X.A X.stack s1 H1 ⟨us, []⟩ us vs Q E0 p hr hz ⟨P1.1, P1.2.1, fun hm => (List.mem_cons.mp (I1.stkSub p.1 hm)).elim P1.2.2.1 P1.2.2.2.1, P1.2.2.2.2⟩ I1.env0 b r q) fun r s' hq => ?_)
  cases r with
  | error e => exact (show False from hq).elim
  | ok fl =>
    cases fl with
    | ret u => exact I1.after hq
    | next => exact False.elim hq
    | brk => exact False.elim hq
    | cont => exact False.elim hq
/-- a field of the handled error, wherever it is pinned -/
theorem pe_xfP {a C : Addr} {oe : Obj} {dd : Addr} {te : TE} {n : Str} (T : XfC X.K C) (hno : PySem.W.findIn X.K (.ref C) n = some none) (hz : Zc (.ref C) (some dd) oe) (hf : ∃ vs, oe.data = .fields vs) (hp : (a, oe) ∈ X.pn) (he : PE X e te)
    (hb : attributeBase e n X.env (eval e X.env) = eval e X.env := by rfl) :
    PE X (.Attribute e n pos) (fun σ H Q => te σ H fun y H1 => y = .ref a ∧ ∃ (fs : List (Str × V)) (v : V), H1 dd = some (.xd fs) ∧ fs.lookup n = some v ∧ Q v H1) := by
  refine ⟨fun pins s σ H Q I h => attr_of hb (thn (he.run pins s σ H _ I h) fun u s1 hh => ?_)⟩
  obtain ⟨y, H1, I1, ry, rfl, fs, v, ed, l, q⟩ := hh
  obtain rfl : u = Value.ref a := ry
  obtain ⟨ha, _⟩ := I1.pin (a, oe) (List.mem_append_left _ hp)
  obtain ⟨vs, hd⟩ := hf
  obtain ⟨mA, hns, hr⟩ := (show ObjOk X.prog X.w H1 s1.heap dd (.xd fs) from I1.hok dd _ ed)
  obtain ⟨od, ho, hl⟩ := lookIn_ns hns
  obtain ⟨u, hu, ru⟩ := RelO.some_of (v := v) (o := mA n) (by rw [← l]; exact hr n)
  have J : PySem.W.InstAt s1.heap a oe C (some od) := ⟨ha, hz.1, by unfold PySem.W.notCls; rw [hd] <;> rfl, by rw [hz.2]; exact ho⟩
  exact HandSPX.exc_get I1.kIn J T.ga T.gg T.exC (PySem.W.findObj_own T.hdC hno rfl (by rw [hl, hu])) (handed_of ru) ⟨v, H1, I1.tok _, ru, q⟩
end
end Lw
set_option Elab.async false
set_option linter.all false
set_option maxRecDepth 100000
namespace Lw
open PySem PySem.Spec PyProof.Rows L2
abbrev sField : Stmt := top 15
abbrev sTried : Stmt := top 16
/-- the handled error at a: of the class at C, its dict at dd -/
def Zh (C a dd : Addr) : Addr × Obj → Prop := fun p => p.1 = a ∧ Zc (.ref C) (some dd) p.2 ∧ ∃ vs, p.2.data = .fields vs
def spField (a dd : Addr) (fld wd : Str) : Sp := fun vs H Q _ => ∃ n : Int, vs = [.ref a] ∧ H dd = some (.xd (erF fld wd n)) ∧ ∀ H', Same H H' → Q (.int n) H'
theorem same_new {H : Hp} {p : Addr} {o : HO} (h : H p = none) : Same H (upd H p o) := fun b x e => by
  rw [upd_ne (ne_of_none e h)]
  exact e
theorem ifT {c : Bool} {A B : Prop} (hc : c = true) (h : A) : if c = true then A else B := by
  rw [if_pos hc]
  exact h
theorem ifF {c : Bool} {A B : Prop} (hc : c = false) (h : B) : if c = true then A else B := by
  rw [if_neg (by rw [hc]; exact Bool.false_ne_true)]
  exact h
section
variable {P : Program} {w : World} {K : PySem.W.Frag} {mg : Str → Option Value} {base : Heap}
theorem scField : FnScope ["_law_e", "_law_fields", "_law_word", "_law_ask"] ["_law_e"] (defScope sField) := ⟨rfl, rfl, rfl, by decide +kernel, rfl, by decide +kernel, by decide +kernel⟩
set_option maxHeartbeats 4000000 in
theorem ok_field_invalidgraph {f C a dd : Addr} {fd : FuncData} {k : Nat} (F : Fun K "_law_field" "_law_field" sField f fd) (T : XfC K C) (nw : PySem.W.findIn K (.ref C) "word" = some none) (nn : PySem.W.findIn K (.ref C) "place" = some none) :
    FnC P w K mg base (k + 1) f fd ["_law_e"] (Zh C a dd) (spField a dd "place" "invalidgraph") := by
  have w0 : (("word" : Str) == ("place" : Str)) = false := by decide +kernel
  refine fn_ofC F scField (fun vs H Q E h => ?_) (fun cdv A outer s H vs Q E p hz hr h => ?_)
  · obtain ⟨n, rfl, _⟩ := h
    rfl
  · obtain ⟨n, rfl, hd, q⟩ := h
    obtain ⟨pa, po⟩ := p
    obtain ⟨rfl, hzc, hf⟩ := hz
    have hm : (pa, po) ∈ [(pa, po)] := List.mem_singleton.mpr rfl
    refine ⟨_, pss_cons (ps_if (pt_cmpR op_in_seq (pe_xfP T nw hzc hf hm (pv 0)) (pe_lst (pa_cons pe_str (pa_cons pe_str (pa_cons pe_str (pa_cons pe_str pa_nil))))) (by rfl)) (pss_one ps_never) pss_nil) (pss_cons (ps_if (pt_cmpR op_in_seq (pe_xfP T nw hzc hf hm (pv 0)) (pe_lst (pa_cons pe_str (pa_cons pe_str pa_nil))) (by rfl)) (pss_one ps_never) pss_nil) (pss_cons (ps_if (pt_cmpR op_in_seq (pe_xfP T nw hzc hf hm (pv 0)) (pe_lst (pa_cons pe_str (pa_cons pe_str (pa_cons pe_str (pa_cons pe_str pa_nil))))) (by rfl)) (pss_one (ps_ret (pe_xfP T nn hzc hf hm (pv 0)))) pss_nil) (pss_cons ps_never (pss_cons ps_never (pss_cons ps_never (pss_cons ps_never (pss_one ps_never))))))), ?_⟩
    have sz : ∀ m : Nat, m ≤ 10 → m ≤ sizeLine := fun m h => Nat.le_trans h (by rw [sizeLine_eq]; decide)
    have s0 : Same H H := fun _ _ z => z
    refine ⟨_, rfl, rfl, _, _, s0 _ _ hd, er_w w0, sz 4 (by decide), fun l1 h1 => ⟨l1, _, rfl, .inl (SqL.of upd_same), rfl, (by decide +kernel), _, rfl, ifF (by decide +kernel) ?_⟩⟩
    have s1 := s0.trans (same_new (o := .lst [.str "invalidname", .str "duplicatename", .str "nameinuse", .str "unknownname"]) h1)
    refine ⟨_, rfl, rfl, _, _, s1 _ _ hd, er_w w0, sz 2 (by decide), fun l2 h2 => ⟨l2, _, rfl, .inl (SqL.of upd_same), rfl, (by decide +kernel), _, rfl, ifF (by decide +kernel) ?_⟩⟩
    have s2 := s1.trans (same_new (o := .lst [.str "limitexceeded", .str "capacityexceeded"]) h2)
    refine ⟨_, rfl, rfl, _, _, s2 _ _ hd, er_w w0, sz 4 (by decide), fun l3 h3 => ⟨l3, _, rfl, .inl (SqL.of upd_same), rfl, (by decide +kernel), _, rfl, ifT (by decide +kernel) ?_⟩⟩
    have s3 := s2.trans (same_new (o := .lst [.str "invalidgraph", .str "invalidrow", .str "invalidpath", .str "invalidcode"]) h3)
    exact ⟨_, rfl, rfl, _, _, s3 _ _ hd, er_n, q _ s3⟩
set_option maxHeartbeats 4000000 in
theorem ok_field_limitexceeded {f C a dd : Addr} {fd : FuncData} {k : Nat} (F : Fun K "_law_field" "_law_field" sField f fd) (T : XfC K C) (nw : PySem.W.findIn K (.ref C) "word" = some none) (nn : PySem.W.findIn K (.ref C) "limit" = some none) :
    FnC P w K mg base (k + 1) f fd ["_law_e"] (Zh C a dd) (spField a dd "limit" "limitexceeded") := by
  have w0 : (("word" : Str) == ("limit" : Str)) = false := by decide +kernel
  refine fn_ofC F scField (fun vs H Q E h => ?_) (fun cdv A outer s H vs Q E p hz hr h => ?_)
  · obtain ⟨n, rfl, _⟩ := h
    rfl
  · obtain ⟨n, rfl, hd, q⟩ := h
    obtain ⟨pa, po⟩ := p
    obtain ⟨rfl, hzc, hf⟩ := hz
    have hm : (pa, po) ∈ [(pa, po)] := List.mem_singleton.mpr rfl
    refine ⟨_, pss_cons (ps_if (pt_cmpR op_in_seq (pe_xfP T nw hzc hf hm (pv 0)) (pe_lst (pa_cons pe_str (pa_cons pe_str (pa_cons pe_str (pa_cons pe_str pa_nil))))) (by rfl)) (pss_one ps_never) pss_nil) (pss_cons (ps_if (pt_cmpR op_in_seq (pe_xfP T nw hzc hf hm (pv 0)) (pe_lst (pa_cons pe_str (pa_cons pe_str pa_nil))) (by rfl)) (pss_one (ps_ret (pe_xfP T nn hzc hf hm (pv 0)))) pss_nil) (pss_cons ps_never (pss_cons ps_never (pss_cons ps_never (pss_cons ps_never (pss_cons ps_never (pss_one ps_never))))))), ?_⟩
    have sz : ∀ m : Nat, m ≤ 10 → m ≤ sizeLine := fun m h => Nat.le_trans h (by rw [sizeLine_eq]; decide)
    have s0 : Same H H := fun _ _ z => z
    refine ⟨_, rfl, rfl, _, _, s0 _ _ hd, er_w w0, sz 4 (by decide), fun l1 h1 => ⟨l1, _, rfl, .inl (SqL.of upd_same), rfl, (by decide +kernel), _, rfl, ifF (by decide +kernel) ?_⟩⟩
    have s1 := s0.trans (same_new (o := .lst [.str "invalidname", .str "duplicatename", .str "nameinuse", .str "unknownname"]) h1)
    refine ⟨_, rfl, rfl, _, _, s1 _ _ hd, er_w w0, sz 2 (by decide), fun l2 h2 => ⟨l2, _, rfl, .inl (SqL.of upd_same), rfl, (by decide +kernel), _, rfl, ifT (by decide +kernel) ?_⟩⟩
    have s2 := s1.trans (same_new (o := .lst [.str "limitexceeded", .str "capacityexceeded"]) h2)
    exact ⟨_, rfl, rfl, _, _, s2 _ _ hd, er_n, q _ s2⟩

abbrev sInvalidGraph : Stmt := inClass (top 3) 0
theorem scInvalidGraph : FnScope ["self", "place"] ["self", "place"] (defScope sInvalidGraph) := ⟨rfl, rfl, rfl, by decide +kernel, rfl, by decide +kernel, by decide +kernel⟩
theorem ok_invalidgraph {f C CW fW : Addr} {mc : Value} {fd fdW : FuncData} {k : Nat} (F : Fun K "__init__" "InvalidGraph.__init__" sInvalidGraph f fd) (T : OexC K C) (nw : PySem.W.findIn K (.ref C) "word" = some none) (nn : PySem.W.findIn K (.ref C) "place" = some none)
    (gW : mg "WindowError" = some (.ref CW)) (rW : ClX.CRead K CW mc) (vW : ClX.CVal K CW mc "__init__" (.ref fW) (.ref fW)) (kW : PySem.W.keepIn K (.ref fW) = true) (FW : FnOk P w K mg base CX0 1 fW fdW ["self", "word", "told"] (spWin K)) (bW : Binds K fdW ["self", "word", "told"] []) :
    FnOk P w K mg base CX0 (k + 2) f fd ["self", "place"] (spErr C "place" "invalidgraph") := by
  refine F.ok scInvalidGraph (fun vs H Q E h => ?_) (fun cdv A outer s H vs Q E hr h => ?_)
  · obtain ⟨a, n, rfl, _⟩ := h
    rfl
  · obtain ⟨a, n, rfl, hn, ha, q⟩ := h
    refine ⟨_, pss_cons (ps_expr (pe_clsfn (by rfl) gW rW vW kW FW (hr.mono (Nat.le_add_left 1 k)) bW .nil pass0 (pa_cons (pv 0) (pa_cons pe_str (pa_cons (pe_joined (.cons pe_str (.cons (pe_fmt (pv 1)) .nil))) pa_nil))))) (pss_one (ps_ost (pv 0) (pv 1))), ?_⟩
    have z0 : (Str.empty ++ Str.ofString "no graph: place ").length = 16 := by decide +kernel
    have zn := int_text_len_1921 (log_big hn)
    have hsz : ∀ m : Nat, m ≤ 3000 → m ≤ sizeLine := fun m h => Nat.le_trans h (by rw [sizeLine_eq]; decide)
    refine ⟨_, rfl, _, rfl, hsz _ (by rw [z0]; decide), _, rfl, .inr ⟨n, rfl, log_big hn, _, rfl, hsz _ (by rw [len_app0, z0]; omega), ?_⟩⟩
    refine ⟨a, C, _, _, rfl, T, nw, ha, fun d hd ne => ?_⟩
    have ed : upd (upd H d (exd d [("word", .str "invalidgraph")])) a (exo a C (some d)) d = some (exd d [("word", .str "invalidgraph")]) := by
      rw [upd_ne ne]
      exact upd_same
    exact ⟨_, rfl, _, rfl, a, C, rfl, T, nn, .inr ⟨d, _, upd_same, ed, (by show 1 ≤ 900; decide), q d hd ne⟩⟩
abbrev sLimitExceeded : Stmt := inClass (top 4) 0
theorem scLimitExceeded : FnScope ["self", "limit"] ["self", "limit"] (defScope sLimitExceeded) := ⟨rfl, rfl, rfl, by decide +kernel, rfl, by decide +kernel, by decide +kernel⟩
theorem ok_limitexceeded {f C CW fW : Addr} {mc : Value} {fd fdW : FuncData} {k : Nat} (F : Fun K "__init__" "LimitExceeded.__init__" sLimitExceeded f fd) (T : OexC K C) (nw : PySem.W.findIn K (.ref C) "word" = some none) (nn : PySem.W.findIn K (.ref C) "limit" = some none)
    (gW : mg "WindowError" = some (.ref CW)) (rW : ClX.CRead K CW mc) (vW : ClX.CVal K CW mc "__init__" (.ref fW) (.ref fW)) (kW : PySem.W.keepIn K (.ref fW) = true) (FW : FnOk P w K mg base CX0 1 fW fdW ["self", "word", "told"] (spWin K)) (bW : Binds K fdW ["self", "word", "told"] []) :
    FnOk P w K mg base CX0 (k + 2) f fd ["self", "limit"] (spErr C "limit" "limitexceeded") := by
  refine F.ok scLimitExceeded (fun vs H Q E h => ?_) (fun cdv A outer s H vs Q E hr h => ?_)
  · obtain ⟨a, n, rfl, _⟩ := h
    rfl
  · obtain ⟨a, n, rfl, hn, ha, q⟩ := h
    refine ⟨_, pss_cons (ps_expr (pe_clsfn (by rfl) gW rW vW kW FW (hr.mono (Nat.le_add_left 1 k)) bW .nil pass0 (pa_cons (pv 0) (pa_cons pe_str (pa_cons (pe_joined (.cons pe_str (.cons (pe_fmt (pv 1)) .nil))) pa_nil))))) (pss_one (ps_ost (pv 0) (pv 1))), ?_⟩
    have z0 : (Str.empty ++ Str.ofString "more than the limit of ").length = 23 := by decide +kernel
    have zn := int_text_len_1921 (log_big hn)
    have hsz : ∀ m : Nat, m ≤ 3000 → m ≤ sizeLine := fun m h => Nat.le_trans h (by rw [sizeLine_eq]; decide)
    refine ⟨_, rfl, _, rfl, hsz _ (by rw [z0]; decide), _, rfl, .inr ⟨n, rfl, log_big hn, _, rfl, hsz _ (by rw [len_app0, z0]; omega), ?_⟩⟩
    refine ⟨a, C, _, _, rfl, T, nw, ha, fun d hd ne => ?_⟩
    have ed : upd (upd H d (exd d [("word", .str "limitexceeded")])) a (exo a C (some d)) d = some (exd d [("word", .str "limitexceeded")]) := by
      rw [upd_ne ne]
      exact upd_same
    exact ⟨_, rfl, _, rfl, a, C, rfl, T, nn, .inr ⟨d, _, upd_same, ed, (by show 1 ≤ 900; decide), q d hd ne⟩⟩

end
end Lw
set_option Elab.async false
set_option linter.all false
set_option maxRecDepth 100000
namespace Lw
open PySem PySem.Spec PyProof.Rows L2
/-- an error that `_law_tried` tells: its word and its field -/
structure ErOk (P : Program) (w : World) (K : PySem.W.Frag) (mg : Str → Option Value) (base : Heap) (CW fF : Addr) (fdF : FuncData) (C : Addr) (fld wd : Str) : Prop where
  ex : PySem.W.exmOne K (.ref C) (.ref CW) = some true
  T : XfC K C
  nw : PySem.W.findIn K (.ref C) "word" = some none
  nf : (("word" : Str) == fld) = false
  FF : ∀ a dd, FnC P w K mg base 1 fF fdF ["_law_e"] (Zh C a dd) (spField a dd fld wd)
/-- what `_law_tried` makes of what it calls: ('', value), or the word and the field of an own error -/
def Tried (Er : Addr → Str → Str → Prop) : (XK → Hp → VK → Prop) → Hp → VK → Prop := fun tl H Q =>
  tl (fun cls d H' => ∃ (C dd : Addr) (fld wd : Str) (n : Int), Er C fld wd ∧ cls = .ref C ∧ d = some dd ∧ H' dd = some (.xd (erF fld wd n)) ∧ ∀ H2 p, Same H' H2 → H' p = none → H2 p = some (.tup [.str wd, .int n]) → Q (.ref p) H2) H
    (fun v H' => [V.str "", v].length ≤ sizeLine ∧ ∀ p, H' p = none → Q (.ref p) (upd H' p (.tup [.str "", v])))
section
variable {X : Cx}
theorem scTried : FnScope ["_law_ask", "_law_e"] ["_law_ask"] (defScope sTried) := ⟨rfl, rfl, rfl, by decide +kernel, rfl, by decide +kernel, by decide +kernel⟩
set_option maxHeartbeats 4000000 in
theorem tried_gives {q : Str} {g CW fF : Addr} {cdg : Value} {fdF : FuncData} (hr : Room 2 X.A) (gW : X.mg "WindowError" = some (.ref CW))
    (gF : X.mg "_law_field" = some (.ref fF)) (kF : PySem.W.keepIn X.K (.ref fF) = true) (bF : L2.Binds X.K fdF ["_law_e"] []) :
    LamX.GivesTo X ["_law_ask", "_law_e"] "_law_tried" (defScope sTried) g cdg (defBody sTried) "_law_ask" q (Tried (ErOk X.prog X.w X.K X.mg X.base CW fF fdF)) := by
  intro f c' s H Q tl act hc h
  have two : 2 ≤ sizeLine := by decide
  refine ⟨_, pss_one (ps_try_first (X := (cxOf C8.CX0 X.prog X.w X.K X.mg X.base ["_law_ask", "_law_e"] "_law_tried" (defScope sTried) g cdg X.A X.stack s H C8.E0).nox) (i := 1) (c := .ref CW)
      (tb := fun W D σ H => ∃ Ech : XK, (∀ cls d σ' H', Ech cls d H' → W cls d σ' H') ∧ σ[0]? = some (some (.ref f)) ∧ H c' = some (LamX.CodeO c' q) ∧ tl Ech H (fun v H' => [V.str "", v].length ≤ sizeLine ∧ ∀ p, H' p = none → D.rt (.ref p) (upd H' p (.tup [.str "", v]))))
      (ts := fun a cls d D σ H => ∃ (C dd : Addr) (fld wd : Str), ErOk X.prog X.w X.K X.mg X.base CW fF fdF C fld wd ∧ cls = .ref C ∧ d = some dd ∧ (∃ σ0 : L2.St, σ = σ0.set 1 (some (.ref a))) ∧ ∃ n : Int, H dd = some (.xd (erF fld wd n)) ∧ ∀ H2 p, Same H H2 → H p = none → H2 p = some (.tup [.str wd, .int n]) → D.rt (.ref p) H2)
      rfl rfl scTried.nd rfl rfl ⟨rfl, by decide, .inl gW⟩ (fun W pn xe tk _ => ?_) (fun a oe cls d pn hz hf => ?_)), ?_⟩
  · refine ⟨fun pins s' σ H' D I h' => ?_⟩
    obtain ⟨Ech, hW, h1, h2, h3⟩ := h'
    exact (pss_one (ps_ret (pe_tup (pa_cons pe_str (pa_cons (act W pn xe Ech _ _ tk hW) pa_nil))))).run pins s' σ H' D I ⟨h1, h2, h3⟩
  · refine ⟨fun pins s' σ H' D I h' => ?_⟩
    obtain ⟨C, dd, fld, wd, ok, rfl, rfl, ⟨σ0, rfl⟩, n, h2, h3⟩ := h'
    have h1 : (σ0.set 1 (some (.ref a)))[1]? = some (some (V.ref a)) := by
      have l2 : (σ0.set 1 (some (.ref a))).length = 2 := I.len
      rw [List.length_set] at l2
      rw [List.getElem?_set_self (by omega)]
    have hrm : L2H.RoomH 1 ((cxOf C8.CX0 X.prog X.w X.K X.mg X.base ["_law_ask", "_law_e"] "_law_tried" (defScope sTried) g cdg X.A X.stack s H C8.E0).nox.suite a ((a, oe) :: pn)).A := ⟨by have := hr.dp; show X.A.depth + 1 + 3 * 1 + 5 < _; omega, by have := hr.un; show X.A.units + 3 + 16 * 1 + 200 < _; omega⟩
    refine (pss_one (ps_ret (pe_tup (pa_cons (pe_xfP (X := ((cxOf C8.CX0 X.prog X.w X.K X.mg X.base ["_law_ask", "_law_e"] "_law_tried" (defScope sTried) g cdg X.A X.stack s H C8.E0).nox.suite a ((a, oe) :: pn))) ok.T ok.nw hz hf List.mem_cons_self (pv 1)) (pa_cons (pe_callC (X := ((cxOf C8.CX0 X.prog X.w X.K X.mg X.base ["_law_ask", "_law_e"] "_law_tried" (defScope sTried) g cdg X.A X.stack s H C8.E0).nox.suite a ((a, oe) :: pn))) (p := (a, oe)) (ok.FF a dd) hrm List.mem_cons_self ⟨rfl, hz, hf⟩ (by rfl) gF kF bF (pa_cons (pv 1) pa_nil)) pa_nil))))).run pins s' _ H' D I ?_
    refine ⟨_, h1, rfl, _, _, h2, er_w ok.nf, _, h1, n, rfl, h2, fun H2 s2 => ⟨two, fun p hp => ?_⟩⟩
    exact h3 _ p (s2.trans (same_new hp)) (s2.free hp) upd_same
  · exact ⟨_, fun cls d σ' H' ⟨C, dd, fld, wd, n, ok, e1, e2, e3, e4⟩ => ⟨by rw [e1]; exact ok.ex, fun a na => ⟨C, dd, fld, wd, ok, e1, e2, ⟨σ', rfl⟩, n, e3, e4⟩⟩, rfl, hc, h⟩
end
end Lw
set_option Elab.async false
set_option linter.all false
set_option maxRecDepth 100000
/-! ==, != and in of an object whose class has its own __eq__, whatever that answers -/
namespace Lw
open PySem PySem.Spec PyProof.Rows L2
section
variable {X : Cx} {n : Nat} {A : Around} {pins : List (Addr × Obj)} {s : Shared} {σ : L2.St} {H : Hp} {CX : CXT} {C f : Addr} {fd : FuncData} {ps : List Str} {sp : Sp} {E : XK}
/-- what comes back of a def: a value and a heap -/
def BackV (X : Cx) (pins : List (Addr × Obj)) (σ : L2.St) (Q : VK) : Value → Shared → Prop := fun u s' => ∃ v H', Inv X pins σ H' s' ∧ RelV v u ∧ Q v H'
theorem run_own {vs : List V} {us : List Value} {Q : VK} (F : FnOk X.prog X.w X.K X.mg X.base CX n f fd ps sp) (hb : Binds X.K fd ps []) (hx : Passes CX X E) (sb : L2.Sub X n A) (I : Inv X pins σ H s) (r : Vals vs us)
    (hsp : sp vs H Q E) : wpAny (model X.prog X.w) A (call (.ref f) us) (BackV X pins σ Q) X.xe s := by
  have e0 : Env0 X.prog X.w X.K X.mg X.base A X.stack s H := by
    have e := I.env0
    exact ⟨by rw [sb.fr]; exact e.frames, e.mod, e.bs, e.bsz, e.funs, e.frf, e.hok, e.bare⟩
  have hl := F.len _ _ _ _ hsp
  refine wpAny_call (codeAny_mono (F.run A X.stack s H ⟨us, []⟩ us vs _ E sb.room e0 (by
    have := hb s us I.kIn (by rw [List.append_nil, ← r.length]; exact hl)
    simpa using this) r hsp) fun r s' hq => ?_)
  cases r with
  | error e => exact hx pins σ H s e s' I hq
  | ok fl =>
    cases fl with
    | ret w =>
      obtain ⟨z, H', I', rz, ez⟩ := I.after hq
      exact ⟨z, H', I', rz, ez⟩
    | next => exact False.elim hq
    | brk => exact False.elim hq
    | cont => exact False.elim hq
theorem back_bool {Q : VK} {u : Value} {s' : Shared} (h : BackV X pins σ (fun v H' => ∃ b, v = .bl b ∧ Q (.bl b) H') u s') : ∃ b H', u = .bool b ∧ Inv X pins σ H' s' ∧ Q (.bl b) H' := by
  obtain ⟨v, H', I', rv, b, rfl, q⟩ := h
  cases rv
  exact ⟨b, H', rfl, I', q⟩
/-- own == of an object at a and any value of a known type that is not of a subclass -/
theorem rc_own {a dx : Addr} {fs : List (Str × V)} {y : V} {v tb : Value} {Q : VK} (F : FnOk X.prog X.w X.K X.mg X.base CX n f fd ps sp) (hs : PySem.W.findIn X.K (.ref C) "__eq__" = some (some (.ref f))) (hf : PySem.W.isFn X.K (.ref f) = true)
    (hb : Binds X.K fd ps []) (hx : Passes CX X E) (sb : L2.Sub X n A) (I : Inv X pins σ H s) (ha : H a = some (.ins C dx fs)) (ry : RelV y v) (ty : PySem.W.Looks (model X.prog X.w) s.heap (typeOf v) tb) (nf : PySem.W.notFirst X.K C tb = true)
    (hsp : sp [.ref a, y] H (fun v H' => ∃ b, v = .bl b ∧ Q (.bl b) H') E) : wpAny (model X.prog X.w) A (richCompare .Eq (.ref a) v) (fun u s' => ∃ b H', u = .bool b ∧ Inv X pins σ H' s' ∧ Q (.bl b) H') X.xe s := by
  obtain ⟨mA, J, _⟩ := ins_get I.hok ha
  obtain ⟨od, J, _⟩ := J.look
  obtain ⟨m, hF⟩ := I.fr
  refine PySem.W.cmp_K (op := .Eq) (tb := tb) sb.room.units0 hF I.ok.mod.kin J ty nf hs hf ?_
  refine wpAny_mono (run_own F hb hx sb I (.cons (show RelV (.ref a) (.ref a) from rfl) (.cons ry .nil)) hsp) (fun u s' h => ?_) fun _ _ e => e
  obtain ⟨b, H', rfl, I', q⟩ := back_bool h
  exact ⟨b, H', rfl, I', q⟩
/-- x == y, both objects of the class at C -/
def rEqO (C : Addr) (sp : Sp) (E : XK) : R2 := fun x y H Q => ∃ a b dx dy fs gs, x = .ref a ∧ y = .ref b ∧ H a = some (.ins C dx fs) ∧ H b = some (.ins C dy gs) ∧ sp [x, y] H (fun v H' => ∃ c, v = .bl c ∧ Q (.bl c) H') E
theorem op_eqO (F : FnOk X.prog X.w X.K X.mg X.base CX n f fd ps sp) (hs : PySem.W.findIn X.K (.ref C) "__eq__" = some (some (.ref f))) (hf : PySem.W.isFn X.K (.ref f) = true) (hb : Binds X.K fd ps []) (hx : Passes CX X E) (hr : Room n X.A) :
    OpR X (compareOp .Eq) (rEqO C sp E) := by
  intro pins s σ H x y v u Q I rx ry h
  obtain ⟨a, b, dx, dy, fs, gs, rfl, rfl, ha, hb', hsp⟩ := h
  cases rx
  cases ry
  obtain ⟨mB, J', _⟩ := ins_get I.hok hb'
  obtain ⟨od', J', _⟩ := J'.look
  refine wpAny_mono (rc_own (tb := .ref C) F hs hf hb hx ⟨hr, rfl⟩ I ha (y := .ref b) rfl J'.type (by simp [PySem.W.notFirst]) hsp) (fun u s' h => ?_) fun _ _ e => e
  obtain ⟨b, H', rfl, I', q⟩ := h
  exact ⟨.bl b, H', I', rfl, q⟩
/-- x != y, both objects of the class at C, which has no __ne__ of its own -/
def rNeO (C : Addr) (sp : Sp) (E : XK) : R2 := fun x y H Q => ∃ a b dx dy fs gs, x = .ref a ∧ y = .ref b ∧ H a = some (.ins C dx fs) ∧ H b = some (.ins C dy gs) ∧ sp [x, y] H (fun v H' => ∃ c, v = .bl c ∧ Q (.bl (!c)) H') E
theorem ne_body {s : Shared} {a b : Addr} {ox : Obj} {od : Option Obj} {M : Model} {Q : Fin → Shared → Prop} {Er : Value → Shared → Prop} (kin : X.K.In s.heap) (J : PySem.W.InstAt s.heap a ox C od) (hs : PySem.W.findIn X.K (.ref C) "__eq__" = some (some (.ref f))) (hf : PySem.W.isFn X.K (.ref f) = true) (hu : A.units < cLine)
    (h : wpAny M A (call (.ref f) [.ref a, .ref b]) (fun u s' => ∃ c, u = .bool c ∧ Q (.done (.ret (.bool (!c)))) s') Er s) : wpAny M A (Builtin.«object.__ne__» ⟨[.ref a, .ref b], []⟩) Q Er s := by
  unfold Builtin.«object.__ne__»
  repeat (first
    | with_reducible refine wpAny_cRoomFor hu ?_
    | (refine wpAny_bind (m := callSpecialIfBound? (.ref a) (Str.ofString "__eq__") [.ref b])
        (PySem.W.ifBound_K kin J hs hf (wpAny_mono h (fun r s' hr => by
          obtain ⟨c, rfl, hq⟩ := hr
          repeat (first | exact hq | exact wpAny_pure hq | exact wpAny_truthy_bool hq | (refine wpAny_bind (m := truthy (.bool _)) (wpAny_truthy_bool ?_)) | wp_step)) fun _ _ e => e)))
    | wp_step)
theorem op_neO {nm q : Str} {N : Addr} {bs : List Value} {hdct : Bool} {sn : List Str} {sub : List Value} {ab : Bool} {col : Option Bool} {dd : Option Addr} {k0 k1 k2 k3 k5 : Option Value} {newId : String}
    (F : FnOk X.prog X.w X.K X.mg X.base CX n f fd ps sp) (hs : PySem.W.findIn X.K (.ref C) "__eq__" = some (some (.ref f))) (hf : PySem.W.isFn X.K (.ref f) = true) (hne : PySem.W.findIn X.K (.ref C) "__ne__" = some (some (.builtin "object.__ne__")))
    (hC : X.K.lookup C = some (excClassObj nm q C N bs [.type "object"] hdct sn sub ab col dd k0 k1 k2 k3 k5 newId)) (hb : Binds X.K fd ps []) (hx : Passes CX X E) (hr : Room (n + 1) X.A) :
    OpR X (compareOp .NotEq) (rNeO C sp E) := by
  intro pins s σ H x y v u Q I rx ry h
  obtain ⟨a, b, dx, dy, fs, gs, rfl, rfl, ha, hb', hsp⟩ := h
  cases rx
  cases ry
  obtain ⟨mA, J, _⟩ := ins_get I.hok ha
  obtain ⟨od, J, _⟩ := J.look
  obtain ⟨mB, J', _⟩ := ins_get I.hok hb'
  obtain ⟨od', J', _⟩ := J'.look
  have kin := I.kIn
  have un := hr.un
  have hu1 : X.A.units + 1 < cLine := by omega
  have run := run_own (A := X.A.in1) F hb hx (L2.Sub.in1 (X := X) (n := n) (A := X.A) ⟨hr, rfl⟩) I (.cons (show RelV (.ref a) (.ref a) from rfl) (.cons (show RelV (.ref b) (.ref b) from rfl) .nil)) hsp
  show wpAny (model X.prog X.w) X.A (richCompare .NotEq (.ref a) (.ref b)) (EP X pins σ Q) X.xe s
  unfold richCompare
  simp only [oneThing_ref]
  refine wpAny_holding (wpAny_bind (wpAny_cRoomFor (Nat.lt_of_succ_lt hu1) ?_))
  refine wpAny_bind (J.type.here (wpAny_bind (J'.type.here ?_)))
  rw [show (Value.ref C != Value.ref C) = false from by simp]
  simp only [Bool.false_eq_true, if_false]
  refine wpAny_bind (wpAny_pure ?_)
  simp only [Bool.false_eq_true, if_false]
  have one : wpAny (model X.prog X.w) X.A (tryCompare (.ref a) (cmpInfo .NotEq).2.1 (.ref b)) (fun r s' => ∃ v, r = some v ∧ EP X pins σ Q v s') X.xe s := by
    unfold tryCompare
    refine wpAny_bind ?_
    simp only [callSpecialIfBound?, bindSpecialIfBound?]
    refine wpAny_holding (wpAny_bind (wpAny_bind (wpAny_bind (J.type.here ((PySem.W.looks_findIn kin hne).here ?_)))))
    simp only [PySem.F.cmp_object.ne.bind]
    refine wpAny_bind (wpAny_askSetting (wpAny_ite ?_))
    have fin : wpAny (model X.prog X.w) X.A (call (.builtin "object.__ne__") ([.ref a] ++ [.ref b])) (fun v s' => wpAny (model X.prog X.w) X.A (match (some v : Option Value) with
        | some .notImplemented | none => pure none
        | some v => pure (some v)) (fun r s' => ∃ v, r = some v ∧ EP X pins σ Q v s') X.xe s') X.xe s := by
      obtain ⟨hp, g, d, t, os⟩ := s
      refine wpAny_call (codeAny_call_builtin PySem.F.cmp_object.ne.plain PySem.F.cmpEntry_ne (wpAny_check_slot_inst PySem.F.cmpKind_ne PySem.F.cmpSplit_ne (PySem.F.cmpArgs_ne _ _) PySem.F.cmp_object.hasObject J.at_ J.cls (kin _ _ hC) ?_))
      refine ne_body (A := X.A.in1) kin J hs hf (by exact hu1) (wpAny_mono run (fun u s' h => ?_) fun _ _ e => e)
      obtain ⟨v, H', I', rv, c, rfl, q⟩ := h
      cases rv
      exact ⟨c, rfl, wpAny_pure ⟨_, rfl, .bl (!c), H', I', rfl, q⟩⟩
    split
    · exact wpAny_bind (wpAny_pure (wpAny_pure (wpAny_bind (wpAny_mono fin (fun v s' h => wpAny_pure h) fun _ _ e => e))))
    · exact wpAny_tryCatch (wpAny_bind (wpAny_pure (wpAny_pure (wpAny_bind (wpAny_mono fin (fun v s' h => wpAny_pure h) fun _ _ e => e)))))
  refine wpAny_bind (wpAny_mono one (fun r s' z => ?_) fun _ _ e => e)
  obtain ⟨v, rfl, hq⟩ := z
  exact wpAny_pure hq
end
end Lw
set_option Elab.async false
set_option linter.all false
set_option maxRecDepth 100000
namespace Lw
open PySem PySem.Spec PyProof.Rows L2
section
variable {X : Cx} {n : Nat} {CX : CXT} {C f : Addr} {fd : FuncData} {ps : List Str} {sp : Sp} {E : XK}
/-- len of an object with its own __len__ -/
def rLenO (C : Addr) (sp : Sp) (E : XK) : List V → Hp → VK → Prop := fun xs H Q => ∃ (a dx : Addr) (fs : List (Str × V)), xs = [.ref a] ∧ H a = some (.ins C dx fs) ∧ sp [.ref a] H (fun v H' => ∃ n : Int, v = .int n ∧ (0 ≤ n ∧ n < 2 ^ 63) ∧ Q (.int n) H') E
theorem call_lenO (F : FnOk X.prog X.w X.K X.mg X.base CX n f fd ps sp) (hs : PySem.W.findIn X.K (.ref C) "__len__" = some (some (.ref f))) (hf : PySem.W.isFn X.K (.ref f) = true) (hb : Binds X.K fd ps []) (hx : Passes CX X E) (hr : Room (n + 1) X.A) :
    CallR X (.builtin "len") (rLenO C sp E) := by
  intro pins s σ H xs us Q I r h
  obtain ⟨a, dx, fs, rfl, ha, hsp⟩ := h
  cases r with
  | cons r rr =>
    cases rr
    cases r
    obtain ⟨mA, J, _⟩ := ins_get I.hok ha
    obtain ⟨od, J, _⟩ := J.look
    obtain ⟨m, hF⟩ := I.fr
    refine PySem.W.len_K hF I.ok.mod.kin J hs hf (wpAny_mono (run_own (A := X.A.in1) F hb hx (L2.Sub.in1 (X := X) (n := n) (A := X.A) ⟨hr, rfl⟩) I (.cons (show RelV (.ref a) (.ref a) from rfl) .nil) hsp) (fun u s' h => ?_) fun _ _ e => e)
    obtain ⟨v, H', I', rv, k, rfl, hk, q⟩ := h
    obtain ⟨t, rfl⟩ := rv
    exact ⟨hk, .int k, H', I'.tok _, ⟨_, rfl⟩, q⟩
/-- repr of an object with its own __repr__ -/
def rReprO (C : Addr) (sp : Sp) (E : XK) : List V → Hp → VK → Prop := fun xs H Q => ∃ (a dx : Addr) (fs : List (Str × V)), xs = [.ref a] ∧ H a = some (.ins C dx fs) ∧ sp [.ref a] H (fun v H' => ∃ x : Str, v = .str x ∧ Q (.str x) H') E
theorem call_reprO (F : FnOk X.prog X.w X.K X.mg X.base CX n f fd ps sp) (hs : PySem.W.findIn X.K (.ref C) "__repr__" = some (some (.ref f))) (hf : PySem.W.isFn X.K (.ref f) = true) (hb : Binds X.K fd ps []) (hx : Passes CX X E) (hr : Room (n + 1) X.A) :
    CallR X (.builtin "repr") (rReprO C sp E) := by
  intro pins s σ H xs us Q I r h
  obtain ⟨a, dx, fs, rfl, ha, hsp⟩ := h
  cases r with
  | cons r rr =>
    cases rr
    cases r
    obtain ⟨mA, J, _⟩ := ins_get I.hok ha
    obtain ⟨od, J, _⟩ := J.look
    obtain ⟨m, hF⟩ := I.fr
    have un := hr.un
    refine PySem.W.repr_K (by show X.A.units + 1 < cLine; omega) hF I.ok.mod.kin J hs hf (wpAny_mono (run_own (A := X.A.in1) F hb hx (L2.Sub.in1 (X := X) (n := n) (A := X.A) ⟨hr, rfl⟩) I (.cons (show RelV (.ref a) (.ref a) from rfl) .nil) hsp) (fun u s' h => ?_) fun _ _ e => e)
    obtain ⟨v, H', I', rv, x, rfl, q⟩ := h
    obtain ⟨t, rfl⟩ := rv
    exact ⟨.str x, H', I', ⟨_, rfl⟩, q⟩
end
end Lw
set_option Elab.async false
set_option linter.all false
set_option maxRecDepth 100000
/-! min and max of a pair, the number of different ints of a list, a class made by a local name -/
namespace Lw
open PySem PySem.Spec PyProof.Rows L2
section
variable {X : Cx}
/-- the pair's items -/
theorem pair_of {x y : Int} {its : List Value} (r : Vals [V.int x, V.int y] its) : ∃ t u, its = [.int x t, .int y u] := by
  match its, r with
  | [_, _], .cons ⟨t, rfl⟩ (.cons ⟨u, rfl⟩ .nil) => exact ⟨t, u, rfl⟩
theorem pair_at {x y : Int} {t u : Tok} {i : Nat} {v : Value} (h : #[Value.int x t, .int y u][i]? = some v) : ∃ k, v = .int (if i = 0 then x else y) k := by
  match i, h with
  | 0, h => exact ⟨t, (Option.some.inj h).symm⟩
  | 1, h => exact ⟨u, (Option.some.inj h).symm⟩
/-- its iterator: what a walk over it asks -/
theorem pair_walk {s : Shared} {a : Addr} {items : Array Value} (tup : s.heap.IsTuple a items) :
    (Heap.IsTupleIter (s.heap.push { cls := .type "tuple_iterator", data := .fields #[.ref a, .int 0 0] }) s.heap.objs.size a 0 ∧ Heap.IsTuple (s.heap.push { cls := .type "tuple_iterator", data := .fields #[.ref a, .int 0 0] }) a items) ∧
      a < s.heap.objs.size ∧ ∀ b ∈ [s.heap.objs.size, a], b < (s.heap.push { cls := .type "tuple_iterator", data := .fields #[.ref a, .int 0 0] }).objs.size := by
  have lt : a < s.heap.objs.size := tup.elim fun _ q => Heap.lt_size q.1
  refine ⟨⟨⟨_, Heap.get?_push_size _ rfl, rfl, rfl⟩, tup.push _⟩, lt, fun b hb => ?_⟩
  rw [Heap.size_push]
  simp only [List.mem_cons, List.not_mem_nil, or_false] at hb
  rcases hb with rfl | rfl
  · exact Nat.lt_succ_self _
  · exact Nat.lt_succ_of_lt lt
theorem kept_on {s : Shared} {o : Obj} {h' : Heap} (hk : ∀ b u, b ∉ [s.heap.objs.size] → (s.heap.push o).get? b = some u → h'.get? b = some u) : ∀ b u, s.heap.get? b = some u → h'.get? b = some u := by
  intro b u q
  refine hk b u (fun m => ?_) (Heap.get?_push_of_some _ q)
  rw [List.mem_singleton.mp m] at q
  exact Nat.lt_irrefl _ (Heap.lt_size q)
def rMin2 (K : PySem.W.Frag) : List V → Hp → VK → Prop := fun vs H Q => ∃ (a : Addr) (x y : Int), vs = [.ref a] ∧ SqT K H a [.int x, .int y] ∧ Q (.int (if y < x then y else x)) H
def rMax2 (K : PySem.W.Frag) : List V → Hp → VK → Prop := fun vs H Q => ∃ (a : Addr) (x y : Int), vs = [.ref a] ∧ SqT K H a [.int x, .int y] ∧ Q (.int (if x < y then y else x)) H
theorem cr_min2 (calm : X.calm = true) : CallR X (.builtin "min") (rMin2 X.K) := by
  rintro pins s σ H _ us Q I r ⟨a, x, y, rfl, hq, q⟩
  obtain ⟨its, rv, tup, _⟩ := I.tuple hq
  obtain ⟨t, u, rfl⟩ := pair_of rv
  obtain ⟨z, lt, fp⟩ := pair_walk tup
  rw [Vals.ref1 r]
  refine call_min_walk (wpAny_pyIter_tuple tup ⟨_, _, _, _, _, _, _, rfl, Walks.tuple (A := X.A.in1) (I.ok.hd calm) _ a (Nat.ne_of_lt lt) _, z, fp, Nat.succ_pos 1, CmpOf.ints_lt (fun i => if i = 0 then x else y) (fun i v => pair_at), fun v h' tk hv hk => ?_⟩)
  have e : argBest (fun i j => decide ((if i = 0 then x else y) < if j = 0 then x else y)) (#[Value.int x t, .int y u].size - 1) = if y < x then 1 else 0 := by
    show (if decide (y < x) = true then 1 else 0) = _
    simp only [decide_eq_true_eq]
  replace hv : #[Value.int x t, .int y u][argBest (fun i j => decide ((if i = 0 then x else y) < if j = 0 then x else y)) (#[Value.int x t, .int y u].size - 1)]? = some v := hv
  rw [e] at hv
  refine ⟨.int (if y < x then y else x), H, I.kept (t' := tk) (kept_on hk), ?_, q⟩
  by_cases c : y < x
  · rw [if_pos c] at hv ⊢
    exact ⟨u, (Option.some.inj hv).symm⟩
  · rw [if_neg c] at hv ⊢
    exact ⟨t, (Option.some.inj hv).symm⟩
theorem cr_max2 (calm : X.calm = true) : CallR X (.builtin "max") (rMax2 X.K) := by
  rintro pins s σ H _ us Q I r ⟨a, x, y, rfl, hq, q⟩
  obtain ⟨its, rv, tup, _⟩ := I.tuple hq
  obtain ⟨t, u, rfl⟩ := pair_of rv
  obtain ⟨z, lt, fp⟩ := pair_walk tup
  rw [Vals.ref1 r]
  refine call_max_walk (wpAny_pyIter_tuple tup ⟨_, _, _, _, _, _, _, rfl, Walks.tuple (A := X.A.in1) (I.ok.hd calm) _ a (Nat.ne_of_lt lt) _, z, fp, Nat.succ_pos 1, CmpOf.ints_gt (fun i => if i = 0 then x else y) (fun i v => pair_at), fun v h' tk hv hk => ?_⟩)
  have e : argBest (fun i j => decide ((if i = 0 then x else y) > if j = 0 then x else y)) (#[Value.int x t, .int y u].size - 1) = if x < y then 1 else 0 := by
    show (if decide (y > x) = true then 1 else 0) = _
    simp only [decide_eq_true_eq]
  replace hv : #[Value.int x t, .int y u][argBest (fun i j => decide ((if i = 0 then x else y) > if j = 0 then x else y)) (#[Value.int x t, .int y u].size - 1)]? = some v := hv
  rw [e] at hv
  refine ⟨.int (if x < y then y else x), H, I.kept (t' := tk) (kept_on hk), ?_, q⟩
  by_cases c : x < y
  · rw [if_pos c] at hv ⊢
    exact ⟨u, (Option.some.inj hv).symm⟩
  · rw [if_neg c] at hv ⊢
    exact ⟨t, (Option.some.inj hv).symm⟩
/-! ### len(set(xs)) -/
theorem met_nodup (val : Nat → Int) : ∀ i, (firstMet val i).Nodup := by
  intro i
  induction i with
  | zero => exact List.nodup_nil
  | succ i ih =>
    rw [firstMet_succ]
    unfold step_dedup
    split
    · exact ih
    · rename_i no
      rw [List.nodup_append]
      refine ⟨ih, by simp, fun a ha b hb => ?_⟩
      rw [List.mem_singleton.mp hb]
      rintro rfl
      exact no (List.any_eq_true.mpr ⟨_, ha, by simp⟩)
theorem met_mem {ns : List Int} (k : Int) : k ∈ firstMet (fun i => ns.getD i 0) ns.length ↔ k ∈ ns := by
  have all : (List.range ns.length).map (fun i => ns.getD i 0) = ns := by
    apply List.ext_getElem?
    intro j
    rw [List.getElem?_map]
    by_cases hj : j < ns.length
    · rw [List.getElem?_range hj]
      simp [hj]
    · rw [List.getElem?_eq_none (by simp; omega), List.getElem?_eq_none (by omega)]
      rfl
  have h := firstMet_any (fun i => ns.getD i 0) ns.length k
  rw [all] at h
  have iff_any : ∀ l : List Int, (l.any (· == k) = true ↔ k ∈ l) := fun l => by simp
  rw [← iff_any, h, iff_any]
def tLenSet (K : PySem.W.Frag) (ta : TE) : TE := fun σ H Q => ta σ H fun x H1 => ∃ (l : Addr) (ns : List Int), x = .ref l ∧ SqL K H1 l (ns.map V.int) ∧ ns.length ≤ 4000 ∧ ∀ ds : List Int, ds.Nodup → (∀ k, k ∈ ds ↔ k ∈ ns) → Q (.int (ds.length : Nat)) H1
theorem pe_lenSetA {a : Expr} {ta : TE} {p p2 q pos : Pos} (g1 : Gl X "len") (m1 : X.mg "len" = none) (g2 : Gl X "set") (m2 : X.mg "set" = none) (ha : PE X a ta) (calm : X.calm = true := by rfl)
    (na : starEach [a] X.env = (false, eval a X.env) :: starEach [] X.env := by rfl) : PE X (.Call (.Name "len" p) [.Call (.Name "set" p2) [a] [] q] [] pos) (tLenSet X.K ta) := by
  constructor
  intro pins s σ H Q I h
  refine Call_ (ld_blt I g1 m1 boot_len (callWith_builtin1 (args_cons (Call_ (ld_blt I g2 m2 boot_set (callWith_type1 (args_cons (wpAny_mono (ha.run pins s σ H _ I h) ?_ fun _ _ z => z) na) na rfl))) rfl) rfl rfl))
  rintro v s1 ⟨_, H1, I1, rv, l, ns, rfl, hq, hl, go⟩
  cases rv
  obtain ⟨its, vals, lst, _⟩ := I1.list hq
  have len : its.toArray.size = ns.length := by
    rw [List.size_toArray, ← vals.length, List.length_map]
  refine args_nil (call_set_list (I1.ok.hd calm) lst.isList (by rw [List.toList_toArray]; exact RZ.intsAre_vals vals) (by rw [len]; unfold scanBound; omega) fun g tk st up => args_nil ?_)
  rw [len] at st
  obtain ⟨o, es, ep, t, get, exact_, dat, _, _, _, fits, num⟩ := st
  have J : Inv X pins σ H1 { s1 with heap := g, toks := tk } := I1.kept fun b u z => up b u (Heap.lt_size z) z
  have short := firstMet_length_le (fun i => ns.getD i 0) ns.length
  refine call_len_set get exact_ dat fits (by rw [num]; omega) ⟨.int ((firstMet (fun i => ns.getD i 0) ns.length).length : Nat), H1, J.tok _, ⟨_, by rw [num]⟩, go _ (met_nodup _ _) met_mem⟩
/-! ### a class in a slot, made -/
def tMakeL (i : Nat) (C : Addr) (sp : Sp) (E : XK) (t : TA) : TE := fun σ H Q => σ[i]? = some (some (.ref C)) ∧ tMake C sp [] E t σ H Q
theorem pe_makeL {CX : CXT} {k i : Nat} {f C : Addr} {fd : FuncData} {ps : List Str} {sp : Sp} {E : XK} {x : Str} {p pos : Pos} {e : Expr} {es : List Expr} {t : TA} (M : Mk X.K C f) (F : FnOk X.prog X.w X.K X.mg X.base CX k f fd ps sp) (hr : Room (k + 1) X.A)
    (hN : X.N[i]? = some x) (hv : Vis X.env.scope x) (hb : Binds X.K fd ps []) (hx : Passes CX X E) (ha : PA X (e :: es) t) (d1 : (x == ("__debug__" : Str)) = false := by decide) (d2 : (x == ("__classdict__" : Str)) = false := by decide)
    (he : starEach (e :: es) X.env = (false, eval e X.env) :: starEach es X.env := by rfl) (hpl : (backTo pos (starEach es X.env)).any (·.1) = false := by rfl) : PE X (.Call (.Name x p) (e :: es) [] pos) (tMakeL i C sp E t) := by
  constructor
  rintro pins s σ H Q I ⟨slot, ht⟩
  refine wpAny_Call_Name_kw (wpAny_mono ((pe_var (pos := p) hN hv d1 d2).run pins s σ H (fun v G => v = .ref C ∧ G = H) I ⟨_, slot, rfl, rfl⟩) ?_ fun _ _ z => z)
  rintro v s1 ⟨_, G, I1, rv, rfl, eG⟩
  rw [eG] at I1
  cases rv
  refine PySem.W.callWith_K (h₀ := X.base) I.ok.mod.kin M.kp (wpAny_mono (ha.run pos pins s1 σ H _ I1 ht) ?_ fun _ _ z => z) he hpl
  rintro us s2 ⟨vs, G2, I2, r, q⟩
  exact ⟨I2.kIn, run_make M F hr hb .nil hx I2 r q⟩
end
end Lw
set_option Elab.async false
set_option linter.all false
set_option maxRecDepth 100000
/-! what a graph's parts give: the mathematics, check_edges and Graph.__init__ with their errors -/
namespace Lw
open PySem L2
/-! ### chosen indices -/
def sel (f : Int × Int → Bool) (ps : List (Int × Int)) (i : Nat) : List Int := ((List.range i).filter fun j => (ps[j]?.map f).getD false).map fun j : Nat => (j : Int)
theorem sel_succ {f : Int × Int → Bool} {ps : List (Int × Int)} {i : Nat} {p : Int × Int} (h : ps[i]? = some p) : sel f ps (i + 1) = if f p = true then sel f ps i ++ [(i : Int)] else sel f ps i := by
  unfold sel
  rw [List.range_succ, List.filter_append, List.map_append]
  by_cases hf : f p = true
  · rw [if_pos hf]
    simp [h, hf]
  · rw [if_neg hf]
    simp [h, hf]
theorem sel_len (f : Int × Int → Bool) (ps : List (Int × Int)) (i : Nat) : (sel f ps i).length ≤ i := by
  unfold sel
  rw [List.length_map]
  refine Nat.le_trans (List.length_filter_le _ _) ?_
  simp
theorem sel_none {f : Int × Int → Bool} {ps : List (Int × Int)} : ∀ {i : Nat}, i ≤ ps.length → (∀ j p, j < i → ps[j]? = some p → f p = false) → sel f ps i = []
  | 0, _, _ => rfl
  | i + 1, hi, h => by
    have e := List.getElem?_eq_getElem (show i < ps.length by omega)
    rw [sel_succ e, if_neg (by rw [h i _ (Nat.lt_succ_self i) e]; exact Bool.false_ne_true)]
    exact sel_none (by omega) fun j p hj hp => h j p (by omega) hp
theorem sel_pre {f : Int × Int → Bool} {ps : List (Int × Int)} {i : Nat} : ∀ {m : Nat}, i + m ≤ ps.length → ∃ r, sel f ps (i + m) = sel f ps i ++ r
  | 0, _ => ⟨[], by simp⟩
  | m + 1, h => by
    obtain ⟨r, hr⟩ := sel_pre (f := f) (ps := ps) (i := i) (m := m) (by omega)
    have e := List.getElem?_eq_getElem (show i + m < ps.length by omega)
    rw [show i + (m + 1) = i + m + 1 by omega, sel_succ e, hr]
    by_cases c : f ps[i + m] = true
    · rw [if_pos c]
      exact ⟨r ++ [((i + m : Nat) : Int)], by simp⟩
    · rw [if_neg c]
      exact ⟨r, rfl⟩
theorem sel_first {f : Int × Int → Bool} {ps : List (Int × Int)} {i : Nat} {p : Int × Int} (hp : ps[i]? = some p) (hf : f p = true) (before : ∀ j q, j < i → ps[j]? = some q → f q = false) : ∃ r, sel f ps ps.length = (i : Int) :: r := by
  have lt : i < ps.length := (List.getElem?_eq_some_iff.mp hp).1
  obtain ⟨r, hr⟩ := sel_pre (f := f) (ps := ps) (i := i + 1) (m := ps.length - (i + 1)) (by omega)
  rw [show i + 1 + (ps.length - (i + 1)) = ps.length by omega, sel_succ hp, if_pos hf, sel_none (by omega) before] at hr
  exact ⟨r, hr⟩
/-! ### what is due -/
def badB (n : Int) (p : Int × Int) : Bool := !(decide (0 ≤ p.1) && decide (p.1 < n) && decide (0 ≤ p.2) && decide (p.2 < n))
def missB (n : Int) (ps : List (Int × Int)) : Bool := (List.range n.toNat).any fun k => !(ps.any fun p => p.1 == (k : Int))
/-- of a number of states from 1 to 8 and at most 24 edges: what check_edges tells -/
def dueC (n : Int) (ps : List (Int × Int)) : Option Int := match sel (badB n) ps ps.length with
  | k :: _ => some k
  | [] => if missB n ps = true then some (ps.length : Int) else none
def due (n : Int) (ps : List (Int × Int)) : Str × Int :=
  if n < 1 then ("invalidgraph", -1) else if 8 < n then ("limitexceeded", 8) else if 24 < ps.length then ("limitexceeded", 24) else
    match dueC n ps with
    | some k => ("invalidgraph", k)
    | none => ("", (ps.length : Int))
theorem dueC_bad {n : Int} {ps : List (Int × Int)} {i : Nat} {p : Int × Int} (hp : ps[i]? = some p) (hf : badB n p = true) (before : ∀ j q, j < i → ps[j]? = some q → badB n q = false) : dueC n ps = some (i : Int) := by
  obtain ⟨r, hr⟩ := sel_first hp hf before
  unfold dueC
  rw [hr]
theorem good_sel {n : Int} {ps : List (Int × Int)} (h : ∀ (j : Nat) (q : Int × Int), ps[j]? = some q → badB n q = false) : sel (badB n) ps ps.length = [] := sel_none (Nat.le_refl _) fun j p _ hp => h j p hp
theorem dueC_miss {n : Int} {ps : List (Int × Int)} (h : ∀ (j : Nat) (q : Int × Int), ps[j]? = some q → badB n q = false) (k : Nat) (hk : (k : Int) < n) (no : ∀ p ∈ ps, p.1 ≠ (k : Int)) : dueC n ps = some (ps.length : Int) := by
  unfold dueC
  rw [good_sel h]
  have e : missB n ps = true := by
    unfold missB
    rw [List.any_eq_true]
    refine ⟨k, List.mem_range.mpr (by omega), ?_⟩
    rw [Bool.not_eq_true']
    rw [List.any_eq_false]
    intro p hp
    simpa using no p hp
  show (if missB n ps = true then _ else _) = _
  rw [if_pos e]
theorem dueC_ok {n : Int} {ps : List (Int × Int)} (h : ∀ (j : Nat) (q : Int × Int), ps[j]? = some q → badB n q = false) (all : ∀ k : Nat, (k : Int) < n → ∃ p ∈ ps, p.1 = (k : Int)) : dueC n ps = none := by
  unfold dueC
  rw [good_sel h]
  have e : missB n ps = false := by
    unfold missB
    rw [List.any_eq_false]
    intro k hk
    have hk' := List.mem_range.mp hk
    obtain ⟨p, hp, e⟩ := all k (by omega)
    rw [Bool.not_eq_true, Bool.not_eq_false']
    exact List.any_eq_true.mpr ⟨p, hp, by simpa using e⟩
  show (if missB n ps = true then _ else _) = _
  rw [if_neg (by rw [e]; exact Bool.false_ne_true)]
theorem good_iff {n : Int} {p : Int × Int} : badB n p = false ↔ 0 ≤ p.1 ∧ p.1 < n ∧ 0 ≤ p.2 ∧ p.2 < n := by
  unfold badB
  rw [Bool.not_eq_false']
  simp only [Bool.and_eq_true, decide_eq_true_eq, and_assoc]
/-- the law's own count of sources -/
theorem nodup_le : ∀ {a b : List Int}, a.Nodup → (∀ x ∈ a, x ∈ b) → a.length ≤ b.length
  | [], _, _, _ => Nat.zero_le _
  | x :: a, b, nd, sub => by
    have hx : x ∈ b := sub x (.head _)
    have ih := nodup_le (a := a) (b := b.erase x) (List.nodup_cons.mp nd).2 (fun y hy => (List.mem_erase_of_ne (fun e => (List.nodup_cons.mp nd).1 (by rw [← e]; exact hy))).mpr (sub y (.tail _ hy)))
    rw [List.length_erase_of_mem hx] at ih
    have pos : 0 < b.length := List.length_pos_of_mem hx
    show a.length + 1 ≤ b.length
    omega
theorem ints_nodup (m : Nat) : ((List.range m).map fun k : Nat => (k : Int)).Nodup := by
  rw [List.nodup_iff_pairwise_ne, List.pairwise_map]
  refine (List.nodup_iff_pairwise_ne.mp List.nodup_range).imp fun h e => h (by omega)
theorem miss_iff {n : Int} {ps : List (Int × Int)} {ds : List Int} (h : ∀ p ∈ ps, 0 ≤ p.1 ∧ p.1 < n) (nd : ds.Nodup) (mem : ∀ k, k ∈ ds ↔ k ∈ ps.map (·.1)) : decide ((ds.length : Int) < n) = missB n ps := by
  have inside : ∀ k ∈ ds, 0 ≤ k ∧ k < n := fun k hk => by
    obtain ⟨p, hp, rfl⟩ := List.mem_map.mp ((mem k).mp hk)
    exact h p hp
  cases e : missB n ps with
  | true =>
    unfold missB at e
    obtain ⟨k, hk, no⟩ := List.any_eq_true.mp e
    have hk' := List.mem_range.mp hk
    have nk : (k : Int) ∉ ds := fun z => by
      obtain ⟨p, hp, ep⟩ := List.mem_map.mp ((mem _).mp z)
      rw [Bool.not_eq_true', List.any_eq_false] at no
      exact no p hp (by simpa using ep)
    have le := nodup_le (b := ((List.range n.toNat).map fun k : Nat => (k : Int)).erase (k : Int)) nd fun x hx => by
      obtain ⟨a, b⟩ := inside x hx
      refine (List.mem_erase_of_ne (fun z => nk (by rw [← z]; exact hx))).mpr (List.mem_map.mpr ⟨x.toNat, List.mem_range.mpr (by omega), by omega⟩)
    rw [List.length_erase_of_mem (List.mem_map.mpr ⟨k, hk, rfl⟩), List.length_map, List.length_range] at le
    exact decide_eq_true (by omega)
  | false =>
    unfold missB at e
    rw [List.any_eq_false] at e
    have le := nodup_le (a := (List.range n.toNat).map fun k : Nat => (k : Int)) (b := ds) (ints_nodup _) fun x hx => by
      obtain ⟨k, hk, rfl⟩ := List.mem_map.mp hx
      have z := e k hk
      rw [Bool.not_eq_true, Bool.not_eq_false'] at z
      obtain ⟨p, hp, ep⟩ := List.any_eq_true.mp z
      exact (mem _).mpr (List.mem_map.mpr ⟨p, hp, by simpa using ep⟩)
    rw [List.length_map, List.length_range] at le
    exact decide_eq_false (by omega)
/-! ### promises -/
theorem psOf_at {us : Es} {i : Nat} {e : Addr × Int × Int} (h : us[i]? = some e) : (psOf us)[i]? = some e.2 := by
  unfold psOf
  rw [List.getElem?_map, h]
  rfl
theorem psOf_len (us : Es) : (psOf us).length = us.length := by
  unfold psOf
  rw [List.length_map]
theorem psOf_back {us : Es} {i : Nat} {p : Int × Int} (h : (psOf us)[i]? = some p) : ∃ e, us[i]? = some e ∧ e.2 = p := by
  unfold psOf at h
  rw [List.getElem?_map] at h
  exact Option.map_eq_some_iff.mp h
/-- an InvalidGraph with the place k leaves -/
def OutG (CG : Addr) (H : Hp) (k : Int) (E : XK) : Prop := ∀ H1 d, Same H H1 → H1 d = none → E (.ref CG) (some d) (upd H1 d (.xd (erF "place" "invalidgraph" k)))
def OutL (CL : Addr) (H : Hp) (k : Int) (E : XK) : Prop := ∀ H1 d, Same H H1 → H1 d = none → E (.ref CL) (some d) (upd H1 d (.xd (erF "limit" "limitexceeded" k)))
theorem OutG.same {CG : Addr} {H H' : Hp} {k : Int} {E : XK} (h : OutG CG H k E) (s : Same H H') : OutG CG H' k E := fun H1 d s1 => h H1 d (s.trans s1)
def spCheckX (CG : Addr) : Sp := fun vs H Q E => ∃ (n : Int) (e : Addr) (ts : Es), vs = [.int n, .ref e] ∧ H e = some (.lst (vsOf ts)) ∧ Ed H ts ∧ 1 ≤ n ∧ n ≤ 8 ∧ ts.length ≤ 24 ∧
  (∀ k, dueC n (psOf ts) = some k → OutG CG H k E) ∧ (dueC n (psOf ts) = none → ∀ H', Same H H' → Q .non H')
def spInitX (C CG CL : Addr) : Sp := fun vs H Q E => ∃ (g dx e : Addr) (n : Int) (ts : Es), vs = [.ref g, .int n, .ref e] ∧ H g = some (.ins C dx []) ∧ H e = some (.lst (vsOf ts)) ∧ Ed H ts ∧ ts.length ≤ 1000 ∧
  (∀ k, due n (psOf ts) = (("invalidgraph" : Str), k) → OutG CG H k E) ∧ (∀ k, due n (psOf ts) = (("limitexceeded" : Str), k) → OutL CL H k E) ∧
  (∀ k, due n (psOf ts) = (("" : Str), k) → ∀ (us : Es) (H' : Hp), psOf us = psOf ts → KeepB g H H' → GraphAt C H' g n us → Q .non H')
section
variable {P : Program} {w : World} {K : PySem.W.Frag} {mg : Str → Option Value} {base : Heap}
set_option maxHeartbeats 8000000 in
theorem ok_checkX {f C CG : Addr} {mc : Value} {fd : FuncData} {k : Nat} (F : Fun K "check_edges" "check_edges" sCheck f fd) (T : Bi mg) (G : GTxt K mg C mc) (R : ErrIn P w K mg base "InvalidGraph" CG "place" "invalidgraph") : FnOk P w K mg base (L2.CX P w) (k + 4) f fd ["states", "edges"] (spCheckX CG) := by
  refine F.okX scCheck (fun vs H Q E h => ?_) (fun cdv A outer s H vs Q E hr h => ?_)
  · obtain ⟨n, e, ts, rfl, _⟩ := h
    rfl
  · obtain ⟨n, e, ts, rfl, he, ed, n1, n8, hl, kE, kQ⟩ := h
    refine ⟨_, pss_cons (ps_for (passes_of rfl) rfl (pi_enumA (by rfl) G.enum (pa_cons (pv 1) pa_nil))
          (pg_tup rfl (pgs_cons (pg_name (i := 2) scCheck.nd rfl (.inl rfl)) (pgs_cons (pg_tup rfl (pgs_cons (pg_name (i := 3) scCheck.nd rfl (.inl rfl)) (pgs_cons (pg_name (i := 4) scCheck.nd rfl (.inl rfl)) pgs_nil))) pgs_nil)))
        (pss_one (ps_if (pt_not (PW.pt (pw_and (pt_chain op_le op_lt pe_int (pv 3) (pv 0)) (pw_and1 (pt_chain op_le op_lt pe_int (pv 4) (pv 0)))))) (pss_one (ps_raiseE rfl (takes_of rfl rfl rfl rfl) R hr (by omega) (by rfl) (pa_cons (pv 2) pa_nil))) pss_nil)))
      (pss_cons (ps_setLc (i := 5) (own := [("source", 3), ("target", 4)]) (g := gTup K 2 (gCons (gName 3) (gCons (gName 4) gNil))) (tt := tYes) (te := tVar 3) rfl scCheck.nd rfl rfl (sw_true rfl rfl rfl (by decide +kernel))
          (pi_seqA (pv 1))
          (blkOk_by (N := ["states", "edges", "place", "source", "target", "sources", "state"]) (sc := defScope sCheck) (by decide +kernel))
          (fun _ _ _ _ _ => by exact pg_tup rfl (pgs_cons (pg_name (i := 3) scCheck.nd rfl (Or.inl rfl)) (pgs_cons (pg_name (i := 4) scCheck.nd rfl (Or.inl rfl)) pgs_nil)))
          (fun _ _ _ _ _ => pts_nil)
          (fun _ _ _ _ _ => by exact pv 3))
      (pss_one (ps_for (passes_of rfl) rfl (pi_range1 (by rfl) T.range (pa_cons (pv 0) pa_nil)) (pg_name (i := 6) scCheck.nd rfl (Or.inl rfl))
        (pss_one (ps_if (pt_cmpR op_notIn_seq (pv 6) (pv 5) (by rfl)) (pss_one (ps_raiseE rfl (takes_of rfl rfl rfl rfl) R hr (by omega) (by rfl) (pa_cons (pe_callB call_len_seq (by rfl) T.len PySem.boot_len (pa_cons (pv 1) pa_nil)) pa_nil))) pss_nil))))), ?_⟩
    have small : ∀ m : Nat, m ≤ 1000 → ((m : Nat) : Int).natAbs < 10 ^ 100 := fun m h => Nat.lt_of_le_of_lt (show ((m : Nat) : Int).natAbs ≤ 1000 by omega) (by decide +kernel)
    refine ⟨_, rfl, e, vsOf ts, SqL, rfl, .inl rfl, SqL.of he, fun J w => ?_⟩
    refine for_it w (fun i σ H' => ∃ v2 v3 v4 : Option V, σ = [some (.int n), some (.ref e), v2, v3, v4, none, none] ∧ Same H H' ∧ ∀ j q, j < i → (psOf ts)[j]? = some q → badB n q = false) ⟨none, none, none, rfl, fun _ _ z => z, fun j q hj => absurd hj (Nat.not_lt_zero _)⟩ (fun i σ H' _ p => by obtain ⟨_, _, _, _, s, _⟩ := p; exact SqL.of (s _ _ he)) ?_ ?_
    · rintro i x σ H1 H' hi ⟨v2, v3, v4, rfl, sm, good⟩ ⟨Ta, x, y, rfl, hT, rfl, gx, gy⟩
      obtain ⟨ee, hee, rfl⟩ := vsOf_at gy
      have ex : x = .int (i : Nat) := (Option.some.inj gx).symm
      subst ex
      have s1 := sm.trans (same_upd (o := .tup [.int (i : Nat), .ref ee.1]) hT)
      have mem : ee ∈ ts := List.mem_of_getElem? hee
      have hps := psOf_at hee
      have hi' : i ≤ 1000 := by rw [vsOf_len] at hi; omega
      refine ⟨Ta, _, rfl, SqT.of upd_same, rfl, _, _, rfl, _, _, rfl, ⟨ee.1, _, rfl, SqT.of (s1 _ _ (ed ee mem)), rfl, _, _, rfl, _, _, rfl, rfl, ?_⟩⟩
      generalize upd H1 Ta (.tup [.int (i : Nat), .ref ee.1]) = H2 at *
      have bad : badB n ee.2 = true → ∃ d0 : Int, d0 = (i : Int) ∧ OutG CG H d0 E := fun hb => ⟨_, rfl, kE _ (dueC_bad hps hb good)⟩
      refine ⟨rfl, ?_⟩
      refine ⟨_, rfl, _, _, rfl, rfl, _, rfl, ?_⟩
      have raise : badB n ee.2 = true → ([V.int (i : Int)].length ≤ 1000 ∧ ∀ a, H2 a = none → spErr CG "place" "invalidgraph" (.ref a :: ([V.int (i : Int)] ++ [])) (upd H2 a (exo a CG none))
          (fun v H2' => v = .non ∧ ∃ (d : Addr) (fs : List (Str × V)), H2' a = some (exo a CG (some d)) ∧ H2' d = some (exd d fs) ∧ H2 d = none ∧ E (.ref CG) (some d) (upd (del H2' a) d (.xd fs))) (fun _ _ _ => False)) := fun hb => by
        obtain ⟨d0, rfl, out⟩ := bad hb
        exact er_tail (small i hi') fun d hd => out _ d s1 hd
      by_cases c1 : 0 ≤ ee.2.1
      · refine if_t (decide_eq_true c1) ⟨_, rfl, _, _, rfl, rfl, ?_⟩
        refine ⟨_, rfl, ?_⟩
        by_cases c2 : ee.2.1 < n
        · refine if_t (decide_eq_true c2) ⟨_, rfl, _, _, rfl, rfl, _, rfl, ?_⟩
          by_cases c3 : 0 ≤ ee.2.2
          · refine if_t (decide_eq_true c3) ⟨_, rfl, _, _, rfl, rfl, ?_⟩
            refine ⟨_, rfl, ?_⟩
            by_cases c4 : ee.2.2 < n
            · refine if_f (by rw [decide_eq_true c4]; rfl) ?_
              refine ⟨_, _, _, rfl, s1, fun j q hj hq => ?_⟩
              by_cases e0 : j = i
              · subst e0
                rw [hps] at hq
                rw [← Option.some.inj hq]
                exact good_iff.mpr ⟨c1, c2, c3, c4⟩
              · exact good j q (by omega) hq
            · refine if_t (by rw [decide_eq_false c4]; rfl) ⟨_, rfl, raise ?_⟩
              rw [← Bool.not_eq_false]
              exact fun z => c4 (good_iff.mp z).2.2.2
          · refine if_f (decide_eq_false c3) ⟨_, rfl, if_t rfl ⟨_, rfl, raise ?_⟩⟩
            rw [← Bool.not_eq_false]
            exact fun z => c3 (good_iff.mp z).2.2.1
        · refine if_f (decide_eq_false c2) (if_t rfl ⟨_, rfl, raise ?_⟩)
          rw [← Bool.not_eq_false]
          exact fun z => c2 (good_iff.mp z).2.1
      · refine if_f (decide_eq_false c1) ⟨_, rfl, if_f rfl (if_t rfl ⟨_, rfl, raise ?_⟩)⟩
        rw [← Bool.not_eq_false]
        exact fun z => c1 (good_iff.mp z).1
    · rintro σ H1 ⟨v2, v3, v4, rfl, sm, good⟩
      have good : ∀ j q, (psOf ts)[j]? = some q → badB n q = false := fun j q hq => good j q (by have := (List.getElem?_eq_some_iff.mp hq).1; rw [psOf_len] at this; rw [vsOf_len]; exact this) hq
      refine ⟨_, rfl, e, vsOf ts, SqL, rfl, .inl rfl, SqL.of (sm _ _ he), fun J w => fun D hD => ?_⟩
      have nD : H D = none := sm.free hD
      refine lc_it w (fun i H' => Same H H' ∧ H' D = some (.lst ((ts.take i).map fun e => V.int e.2.1))) ⟨sm.trans (same_upd hD), upd_same⟩ (fun i H' _ p => SqL.of (p.1 _ _ he)) ?_ ?_
      · rintro i x H2 H' hi ⟨sm2, eD⟩ ⟨rfl, gx⟩
        obtain ⟨ee, hee, rfl⟩ := vsOf_at gx
        have mem : ee ∈ ts := List.mem_of_getElem? hee
        refine ⟨ee.1, _, rfl, SqT.of (sm2 _ _ (ed ee mem)), rfl, _, _, rfl, _, _, rfl, rfl, rfl, ?_⟩
        refine ⟨_, rfl, _, eD, ?_, ?_, ?_⟩
        · rw [List.length_map, List.length_take]
          exact small1000 (by omega)
        · intro c o ec
          rw [upd_ne (ne_of_none ec nD)]
          exact sm2 _ _ ec
        · rw [upd_same, List.take_add_one, hee, List.map_append]
          rfl
      · rintro H2 ⟨sm2, eD⟩
        rw [vsOf_len, List.take_length] at eD
        have e1 : (ts.map fun e => V.int e.2.1) = (ts.map fun e => e.2.1).map V.int := by
          rw [List.map_map]
          rfl
        rw [e1] at eD
        refine ⟨_, rfl, n, rfl, by omega, by omega, ?_⟩
        refine for_it (walk_range (lo := 0) (n := n.toNat)) (fun i σ H' => ∃ v2 v3 v4 v6 : Option V, σ = [some (.int n), some (.ref e), v2, v3, v4, some (.ref D), v6] ∧ Same H H' ∧ H' D = some (.lst ((ts.map fun e => e.2.1).map V.int)) ∧ ∀ k : Nat, k < i → ∃ p ∈ psOf ts, p.1 = (k : Int))
          ⟨_, _, _, _, rfl, sm2, eD, fun k hk => absurd hk (Nat.not_lt_zero _)⟩ (fun _ _ _ _ _ => True.intro) ?_ ?_
        · rintro i x σ H3 H' hi ⟨v2, v3, v4, v6, rfl, sm3, eD3, all⟩ ⟨rfl, rfl⟩
          refine ⟨_, rfl, _, rfl, D, _, rfl, .inl (SqL.of eD3), rfl, flat_ints _, _, rfl, ?_⟩
          by_cases c : ((i : Nat) : Int) ∈ ts.map fun e => e.2.1
          · refine if_f (by show (!inV (V.int (0 + (i : Int))) _) = false; rw [Int.zero_add, inV_yes c]; rfl) ?_
            refine ⟨_, _, _, _, rfl, sm3, eD3, fun k hk => ?_⟩
            by_cases e0 : k = i
            · subst e0
              obtain ⟨ee, hm, h1⟩ := List.mem_map.mp c
              exact ⟨ee.2, List.mem_map.mpr ⟨ee, hm, rfl⟩, h1⟩
            · exact all k (by omega)
          · have no : inV (V.int ((i : Nat) : Int)) ((ts.map fun e => e.2.1).map V.int) = false := by
              rw [← Bool.not_eq_true]
              intro z
              unfold inV at z
              rw [List.any_map, List.any_eq_true] at z
              obtain ⟨y, hy, ey⟩ := z
              refine c ?_
              have : ((i : Nat) : Int) = y := by
                have z2 : y = ((i : Nat) : Int) := by simpa [eqV] using ey
                exact z2.symm
              rw [this]
              exact hy
            refine if_t (by show (!inV (V.int (0 + (i : Int))) _) = true; rw [Int.zero_add, no]; rfl) ?_
            refine ⟨_, rfl, e, _, rfl, .inl (SqL.of (sm3 _ _ he)), ?_⟩
            rw [vsOf_len]
            refine er_tail (small _ (by omega)) fun d hd => ?_
            refine kE _ ?_ _ d sm3 hd
            rw [dueC_miss good i (by omega) (fun p hp e2 => c ?_), psOf_len]
            obtain ⟨ee, hm, rfl⟩ := List.mem_map.mp hp
            exact List.mem_map.mpr ⟨ee, hm, e2⟩
        · rintro σ H3 ⟨v2, v3, v4, v6, rfl, sm3, eD3, all⟩
          exact kQ (dueC_ok good fun k hk => all k (by omega)) H3 sm3
end
end Lw
set_option Elab.async false
set_option linter.all false
set_option maxRecDepth 100000
namespace Lw
open PySem L2
abbrev sFull : Stmt := inClass (top 9) 3
/-- a def that may raise, called by its name -/
structure CalX (P : Program) (w : World) (K : PySem.W.Frag) (mg : Str → Option Value) (base : Heap) (k : Nat) (x : Str) (sp : Sp) : Prop where
  ex : ∃ (f : Addr) (fd : FuncData) (ps : List Str), FnOk P w K mg base (L2.CX P w) k f fd ps sp ∧ mg x = some (.ref f) ∧ PySem.W.keepIn K (.ref f) = true ∧ Binds K fd ps []
theorem pe_cX {X : Cx} {W : WX} {E : XK} {k j : Nat} {x : Str} {sp : Sp} {e : Expr} {es : List Expr} {t : TA} {p pos : Pos} (c : CalX X.prog X.w X.K X.mg X.base k x sp) (tk : Takes X W) (hW : ∀ cls d σ H, E cls d H → W cls d σ H) (hr : Room j X.A) (hk : k ≤ j) (hg : Gl X x) (ha : PA X (e :: es) t)
    (hdb : (x == ("__debug__" : Str)) = false := by decide) (he : starEach (e :: es) X.env = (false, eval e X.env) :: starEach es X.env := by rfl) (hpl : (backTo pos (starEach es X.env)).any (·.1) = false := by rfl) :
    PE X (.Call (.Name x p) (e :: es) [] pos) (tCall sp [] E t) := by
  obtain ⟨f, fd, ps, F, hm, kp, b⟩ := c.ex
  exact pe_call F (hr.mono hk) hg hm kp b .nil (passes_call tk hW) ha hdb he hpl
/-- a class whose making may raise -/
structure MakX (P : Program) (w : World) (K : PySem.W.Frag) (mg : Str → Option Value) (base : Heap) (k : Nat) (C : Addr) (sp : Sp) : Prop where
  ex : ∃ (f : Addr) (fd : FuncData) (ps : List Str), Mk K C f ∧ FnOk P w K mg base (L2.CX P w) k f fd ps sp ∧ Binds K fd ps []
theorem due_mid {n : Int} {ps : List (Int × Int)} (h1 : 1 ≤ n) (h2 : n ≤ 8) (h3 : ps.length ≤ 24) : due n ps = match dueC n ps with
    | some k => (("invalidgraph" : Str), k)
    | none => (("" : Str), (ps.length : Int)) := by
  unfold due
  rw [if_neg (by omega), if_neg (by omega), if_neg (by omega)] <;> rfl
theorem ne_ig : ¬ (("" : Str) = "invalidgraph") := by decide +kernel
theorem ne_le : ¬ (("" : Str) = "limitexceeded") := by decide +kernel
theorem due_low {n : Int} {ps : List (Int × Int)} (h : n < 1) : due n ps = (("invalidgraph" : Str), -1) := by
  unfold due
  rw [if_pos h]
theorem due_high {n : Int} {ps : List (Int × Int)} (h : 8 < n) : due n ps = (("limitexceeded" : Str), 8) := by
  unfold due
  rw [if_neg (by omega), if_pos h]
theorem due_many {n : Int} {ps : List (Int × Int)} (h1 : 1 ≤ n) (h2 : n ≤ 8) (h3 : 24 < ps.length) : due n ps = (("limitexceeded" : Str), 24) := by
  unfold due
  rw [if_neg (by omega), if_neg (by omega), if_pos h3]
theorem due_full {c : Nat} (h1 : 1 ≤ c) (h2 : c ≤ 24) : due 1 (List.replicate c ((0 : Int), (0 : Int))) = (("" : Str), (c : Int)) := by
  have e : dueC 1 (List.replicate c ((0 : Int), (0 : Int))) = none := by
    refine dueC_ok (fun j q hq => ?_) (fun k hk => ?_)
    · rw [List.eq_of_mem_replicate (List.mem_of_getElem? hq)]
      rfl
    · exact ⟨(0, 0), List.mem_replicate.mpr ⟨by omega, rfl⟩, by show (0 : Int) = k; omega⟩
  rw [due_mid (by decide) (by decide) (by rw [List.length_replicate]; exact h2), e, List.length_replicate]
def spFull (C CG CL : Addr) : Sp := fun vs H Q E => ∃ c : Int, vs = [.ref C, .int c] ∧ (c < 1 → OutG CG H 0 E) ∧ (24 < c → OutL CL H 24 E) ∧
  (1 ≤ c → c ≤ 24 → ∀ (g : Addr) (us : Es) (H' : Hp), Same H H' → H g = none → psOf us = List.replicate c.toNat ((0 : Int), (0 : Int)) → GraphAt C H' g 1 us → Q (.ref g) H')
section
variable {P : Program} {w : World} {K : PySem.W.Frag} {mg : Str → Option Value} {base : Heap}
set_option maxHeartbeats 8000000 in
theorem ok_initX {f C CG CL : Addr} {mc : Value} {fd : FuncData} {k : Nat} (F : Fun K "__init__" "Graph.__init__" sInit f fd) (T : Bi mg) (G : GTxt K mg C mc) (RG : ErrIn P w K mg base "InvalidGraph" CG "place" "invalidgraph") (RL : ErrIn P w K mg base "LimitExceeded" CL "limit" "limitexceeded")
    (cC : CalX P w K mg base 4 "check_edges" (spCheckX CG)) : FnOk P w K mg base (L2.CX P w) (k + 5) f fd ["self", "states", "edges"] (spInitX C CG CL) := by
  refine F.okX scInit (fun vs H Q E h => ?_) (fun cdv A outer s H vs Q E hr h => ?_)
  · obtain ⟨g, dx, e, n, ts, rfl, _⟩ := h
    rfl
  · obtain ⟨g, dx, e, n, ts, rfl, hg, he, ed, hl, kG, kL, q⟩ := h
    have ge : e ≠ g := by
      rintro rfl
      rw [hg] at he
      cases he
    refine ⟨_, pss_cons (ps_if (pt_cmpR op_lt (pv 1) pe_int (nomark _)) (pss_one (ps_raiseE rfl (takes_of rfl rfl rfl rfl) RG hr (by omega) (by rfl) (pa_cons (pe_un un_neg pe_int) pa_nil))) pss_nil)
      (pss_cons (ps_if (pt_cmpR op_gt (pv 1) (ClX.pe_cval (pe_glob (v := .ref C) (by rfl) G.mgG rfl)) (nomark _)) (pss_one (ps_raiseE rfl (takes_of rfl rfl rfl rfl) RL hr (by omega) (by rfl) (pa_cons (ClX.pe_cval (pe_glob (v := .ref C) (by rfl) G.mgG rfl)) pa_nil))) pss_nil)
      (pss_cons (ps_if (pt_cmpR op_gt (pe_callB call_len_seq (by rfl) T.len PySem.boot_len (pa_cons (pv 2) pa_nil)) (ClX.pe_cval (pe_glob (v := .ref C) (by rfl) G.mgG rfl)) (nomark _)) (pss_one (ps_raiseE rfl (takes_of rfl rfl rfl rfl) RL hr (by omega) (by rfl) (pa_cons (ClX.pe_cval (pe_glob (v := .ref C) (by rfl) G.mgG rfl)) pa_nil))) pss_nil)
      (pss_cons (ps_expr (pe_cX cC (takes_of rfl rfl rfl rfl) (fun _ _ _ _ h => h) hr (by omega) (by rfl) (pa_cons (pv 1) (pa_cons (pv 2) pa_nil))))
      (pss_cons (ps_fld (pv 0) (pv 1) rfl)
      (pss_one (ps_fld (pv 0) (pe_callTy call_tuple_of (by rfl) T.tuple (by decide +kernel) (pa_cons
        (pe_lc (own := [("source", 3), ("target", 4)]) (g := gTup K 2 (gCons (gName 3) (gCons (gName 4) gNil))) (tt := tYes) (te := tTup (tCons (tVar 3) (tCons (tVar 4) tNil))) rfl scInit.nd (pi_seqA (pv 2))
          (blkOk_by (N := ["self", "states", "edges", "source", "target"]) (sc := defScope sInit) (by decide +kernel))
          (fun _ _ _ _ _ => by exact pg_tup rfl (pgs_cons (pg_name (i := 3) scInit.nd rfl (Or.inl rfl)) (pgs_cons (pg_name (i := 4) scInit.nd rfl (Or.inl rfl)) pgs_nil)))
          (fun _ _ _ _ _ => pts_nil)
          (fun _ _ _ _ _ => by exact pe_tup (pa_cons (pv 3) (pa_cons (pv 4) pa_nil)))) pa_nil)) rfl)))))), ?_⟩
    obtain ⟨u8, hv8⟩ := G.v8
    obtain ⟨u24, hv24⟩ := G.v24
    refine ⟨_, rfl, _, _, rfl, rfl, _, rfl, ?_⟩
    by_cases c1 : n < 1
    · refine if_t (decide_eq_true c1) ⟨1, rfl, ?_⟩
      exact er_tail (n := -1) (by decide +kernel) fun d hd => kG _ (due_low c1) H d (fun _ _ z => z) hd
    refine if_f (decide_eq_false c1) ⟨_, rfl, C, mc, _, _, rfl, G.rd, hv8, _, _, rfl, rfl, _, rfl, ?_⟩
    by_cases c2 : 8 < n
    · refine if_t (decide_eq_true c2) ⟨C, mc, _, _, rfl, G.rd, hv8, ?_⟩
      exact er_tail (n := 8) (by decide +kernel) fun d hd => kL _ (due_high c2) H d (fun _ _ z => z) hd
    refine if_f (decide_eq_false c2) ⟨_, rfl, e, _, rfl, .inl (SqL.of he), C, mc, _, _, rfl, G.rd, hv24, _, _, rfl, rfl, _, rfl, ?_⟩
    rw [vsOf_len]
    by_cases c3 : 24 < ts.length
    · refine if_t (decide_eq_true (by omega)) ⟨C, mc, _, _, rfl, G.rd, hv24, ?_⟩
      exact er_tail (n := 24) (by decide +kernel) fun d hd => kL _ (due_many (by omega) (by omega) (by rw [psOf_len]; exact c3)) H d (fun _ _ z => z) hd
    refine if_f (decide_eq_false (by omega)) ?_
    have dm := due_mid (n := n) (ps := psOf ts) (by omega) (by omega) (by rw [psOf_len]; omega)
    refine ⟨_, rfl, _, rfl, n, e, ts, rfl, he, ed, by omega, by omega, by omega, fun k hk => ?_, fun hnone H1 s1 => ?_⟩
    · rw [hk] at dm
      exact kG _ dm
    rw [hnone] at dm
    refine ⟨_, rfl, _, rfl, g, C, dx, [], rfl, s1 _ _ hg, G.cl, G.nS, (by show 0 < 1000; decide), ?_⟩
    rw [flds_put1]
    have k2 : KeepB g H (upd H1 g (.ins C dx [("state_count", V.int n)])) := KeepB.trans (.of_same s1) .updb
    have g2 : upd H1 g (.ins C dx [("state_count", V.int n)]) g = some (.ins C dx [("state_count", V.int n)]) := upd_same
    generalize upd H1 g (.ins C dx [("state_count", V.int n)]) = H2 at *
    refine ⟨_, rfl, e, vsOf ts, SqL, rfl, .inl rfl, SqL.of (k2 _ _ ge he), fun J w => fun D hD => ?_⟩
    have nDg : D ≠ g := fun z => by
      rw [z, g2] at hD
      cases hD
    have nD : H D = none := k2.free g2 hD
    refine lc_it w (fun i H' => ∃ us : Es, psOf us = psOf (ts.take i) ∧ KeepB g H H' ∧ H' g = some (.ins C dx [("state_count", V.int n)]) ∧ H' D = some (.lst (vsOf us)) ∧ Ed H' us)
      ⟨[], rfl, k2.new hD, by rw [upd_ne nDg.symm]; exact g2, upd_same, .nil⟩ (fun i H' _ p => by obtain ⟨us, _, k3, _⟩ := p; exact SqL.of (k3 _ _ ge he)) ?_ ?_
    · rintro i x H3 H' hi ⟨us, hus, k3, g3, eD, ed3⟩ ⟨rfl, gx⟩
      obtain ⟨ee, hee, rfl⟩ := vsOf_at gx
      have mem : ee ∈ ts := List.mem_of_getElem? hee
      have eg : ee.1 ≠ g := fun z => by
        have h := ed ee mem
        rw [z, hg] at h
        cases h
      refine ⟨ee.1, _, rfl, SqT.of (k3 _ _ eg (ed ee mem)), rfl, _, _, rfl, _, _, rfl, rfl, rfl, ?_⟩
      refine ⟨_, rfl, _, rfl, (by show 2 ≤ sizeLine; decide), fun t ht => ?_⟩
      have s4 := same_upd (o := .tup [.int ee.2.1, .int ee.2.2]) ht
      have tD : D ≠ t := ne_of_none eD ht
      refine ⟨_, s4 _ _ eD, ?_, us ++ [(t, ee.2)], ?_, ?_, ?_, ?_, ?_⟩
      · have h1 : us.length = (ts.take i).length := by
          have := congrArg List.length hus
          unfold psOf at this
          simpa using this
        rw [vsOf_len, h1, List.length_take]
        exact small1000 (by omega)
      · unfold psOf at hus ⊢
        rw [List.map_append, hus, List.take_add_one, hee, List.map_append]
        rfl
      · exact (k3.new ht).at nD
      · rw [upd_ne nDg.symm]
        exact s4 _ _ g3
      · rw [upd_same]
        unfold vsOf
        rw [List.map_append]
        rfl
      · refine Ed.app (fun x hx => ?_) (.one ?_)
        · have h := s4 _ _ (ed3 x hx)
          rw [upd_ne (fun z => ?_)]
          · exact h
          · rw [z, s4 _ _ eD] at h
            cases h
        · rw [upd_ne (Ne.symm tD), upd_same]
    · rintro H3 ⟨us, hus, k3, g3, eD, ed3⟩
      rw [vsOf_len, List.take_length] at hus
      refine ⟨D, _, rfl, .inl ⟨SqL.of eD, fun t ht => ?_⟩⟩
      have s4 := same_upd (o := .tup (vsOf us)) ht
      have tg : t ≠ g := (ne_of_none g3 ht).symm
      refine ⟨_, rfl, g, C, dx, _, rfl, s4 _ _ g3, G.cl, G.nE, (by show 1 < 1000; decide), ?_⟩
      rw [flds_put2]
      refine q _ dm us _ hus ((k3.trans (.of_same s4)).trans .updb) ⟨⟨dx, t, upd_same, by rw [upd_ne tg]; exact upd_same⟩, fun x hx => ?_⟩
      have h := s4 _ _ (ed3 x hx)
      rw [upd_ne (fun z => ?_)]
      · exact h
      · rw [z, s4 _ _ g3] at h
        cases h
theorem scFull : FnScope ["cls", "count"] ["cls", "count"] (defScope sFull) := ⟨rfl, rfl, rfl, by decide +kernel, rfl, by decide +kernel, by decide +kernel⟩
theorem vs_rep (t : Addr) (c : Nat) : (List.replicate c [V.ref t]).flatten = vsOf (List.replicate c (t, (0 : Int), (0 : Int))) := by
  unfold vsOf
  rw [List.flatten_replicate_singleton, List.map_replicate]
theorem ps_rep (t : Addr) (c : Nat) : psOf (List.replicate c (t, (0 : Int), (0 : Int))) = List.replicate c ((0 : Int), (0 : Int)) := by
  unfold psOf
  rw [List.map_replicate]
set_option maxHeartbeats 4000000 in
theorem ok_full {f C CG CL : Addr} {mc : Value} {fd : FuncData} {k : Nat} (F : Fun K "full" "Graph.full" sFull f fd) (T : Bi mg) (G : GTxt K mg C mc) (RG : ErrIn P w K mg base "InvalidGraph" CG "place" "invalidgraph") (RL : ErrIn P w K mg base "LimitExceeded" CL "limit" "limitexceeded")
    (mG : MakX P w K mg base 5 C (spInitX C CG CL)) : FnOk P w K mg base (L2.CX P w) (k + 7) f fd ["cls", "count"] (spFull C CG CL) := by
  obtain ⟨fI, fdI, psI, M, FI, bI⟩ := mG.ex
  refine F.okX scFull (fun vs H Q E h => ?_) (fun cdv A outer s H vs Q E hr h => ?_)
  · obtain ⟨c, rfl, _⟩ := h
    rfl
  · obtain ⟨c, rfl, kG, kL, q⟩ := h
    obtain ⟨u24, hv24⟩ := G.v24
    refine ⟨_, pss_cons (ps_if (pt_cmpR op_lt (pv 1) pe_int (nomark _)) (pss_one (ps_raiseE rfl (takes_of rfl rfl rfl rfl) RG hr (by omega) (by rfl) (pa_cons pe_int pa_nil))) pss_nil)
      (pss_cons (ps_if (pt_cmpR op_gt (pv 1) (ClX.pe_cval (pv 0)) (nomark _)) (pss_one (ps_raiseE rfl (takes_of rfl rfl rfl rfl) RL hr (by omega) (by rfl) (pa_cons (ClX.pe_cval (pv 0)) pa_nil))) pss_nil)
      (pss_one (ps_ret (pe_makeL (i := 0) (E := E) M FI (hr.mono (by omega)) rfl (.inl rfl) bI (passes_call (takes_of rfl rfl rfl rfl) (fun _ _ _ _ h => h)) (pa_cons pe_int (pa_cons (pe_op op_rep (pe_lst (pa_cons (pe_tup (pa_cons pe_int (pa_cons pe_int pa_nil))) pa_nil)) (pv 1)) pa_nil)))))), ?_⟩
    refine ⟨_, rfl, _, _, rfl, rfl, _, rfl, ?_⟩
    by_cases c1 : c < 1
    · refine if_t (decide_eq_true c1) ?_
      exact er_tail (n := 0) (by decide +kernel) fun d hd => kG c1 H d (fun _ _ z => z) hd
    refine if_f (decide_eq_false c1) ⟨_, rfl, _, rfl, C, mc, _, _, rfl, G.rd, hv24, _, _, rfl, rfl, _, rfl, ?_⟩
    by_cases c2 : 24 < c
    · refine if_t (decide_eq_true c2) ⟨_, rfl, C, mc, _, _, rfl, G.rd, hv24, ?_⟩
      exact er_tail (n := 24) (by decide +kernel) fun d hd => kL c2 H d (fun _ _ z => z) hd
    refine if_f (decide_eq_false c2) ⟨rfl, (by show 2 ≤ sizeLine; decide), fun t ht => ?_⟩
    have s1 := same_upd (o := .tup [.int 0, .int 0]) ht
    have et : upd H t (.tup [.int 0, .int 0]) t = some (.tup [.int 0, .int 0]) := upd_same
    generalize upd H t (.tup [.int 0, .int 0]) = H1 at *
    refine ⟨(by show 1 ≤ sizeLine; decide), fun l hl => ?_⟩
    have s2 := same_upd (o := .lst [.ref t]) hl
    have el : upd H1 l (.lst [.ref t]) l = some (.lst [.ref t]) := upd_same
    have et := s2 _ _ et
    generalize upd H1 l (.lst [.ref t]) = H2 at *
    refine ⟨_, rfl, l, c, _, rfl, rfl, el, by omega, by omega, ?_, fun e he => ?_⟩
    · show 1 * c.toNat ≤ sizeLine
      exact Nat.le_of_lt (small1000 (by omega))
    rw [vs_rep]
    have s3 := same_upd (o := .lst (vsOf (List.replicate c.toNat (t, (0 : Int), (0 : Int))))) he
    have ee : upd H2 e (.lst (vsOf (List.replicate c.toNat (t, (0 : Int), (0 : Int))))) e = some (.lst (vsOf (List.replicate c.toNat (t, (0 : Int), (0 : Int))))) := upd_same
    have et := s3 _ _ et
    generalize upd H2 e (.lst (vsOf (List.replicate c.toNat (t, (0 : Int), (0 : Int))))) = H3 at *
    have s03 := (s1.trans s2).trans s3
    intro g dx hg hdx nex
    have s4 := same_upd (o := .own g) hdx
    have hg2 : upd H3 dx (.own g) g = none := by
      rw [upd_ne (Ne.symm nex)]
      exact hg
    have s5 := s4.trans (same_upd (o := .ins C dx []) hg2)
    have ng : H g = none := s03.free hg
    have ed : Ed (upd (upd H3 dx (.own g)) g (.ins C dx [])) (List.replicate c.toNat (t, (0 : Int), (0 : Int))) := fun x hx => by
      rw [List.eq_of_mem_replicate hx]
      exact s5 _ _ et
    have df := due_full (c := c.toNat) (by omega) (by omega)
    refine ⟨g, dx, e, 1, _, rfl, upd_same, s5 _ _ ee, ed, by rw [List.length_replicate]; omega, fun k hk => ?_, fun k hk => ?_, fun k hk us H' hus kp GA => ⟨rfl, ?_⟩⟩
    · rw [ps_rep, df] at hk
      exact absurd (congrArg Prod.fst hk) ne_ig
    · rw [ps_rep, df] at hk
      exact absurd (congrArg Prod.fst hk) ne_le
    · rw [ps_rep] at hus
      exact q (by omega) (by omega) g us H' (fun a o ea => kp a o (ne_of_none ea ng) (s5 _ _ (s03 _ _ ea))) ng hus GA
end
end Lw
set_option Elab.async false
set_option linter.all false
set_option maxRecDepth 100000
namespace Lw
open PySem L2
abbrev sDue : Stmt := top 18
/-! ### lists of ints as data -/
def dI (ks : List Int) : List PyData := ks.map PyData.int
theorem dI_at {K : PySem.W.Frag} {H : Hp} : ∀ ks : List Int, DpAll K H (ks.map V.int) (dI ks)
  | [] => .nil
  | k :: ks => .cons (.int k) (dI_at ks)
theorem dI_lay : ∀ ks : List Int, PyData.canLayAll0 (dI ks) = true
  | [] => rfl
  | k :: ks => by
    show (true && PyData.canLayAll0 (dI ks)) = true
    rw [dI_lay ks]
    rfl
theorem dI_depth : ∀ ks : List Int, PyData.depthAll (dI ks) ≤ 0
  | [] => Nat.le_refl _
  | k :: ks => by
    show max 0 (PyData.depthAll (dI ks)) ≤ 0
    exact Nat.max_le.mpr ⟨Nat.le_refl _, dI_depth ks⟩
theorem sh_ints (ks : List Int) : SeqAt.shaped (.list (dI ks)) = true := by
  show (PyData.canLayAll0 (dI ks) && decide (PyData.depthAll (dI ks) + 1 ≤ 64)) = true
  rw [dI_lay, decide_eq_true (by have := dI_depth ks; omega)]
  rfl
theorem eqv_nil (ks : List Int) : PyData.eqv (.list (dI ks)) (.list (dI [])) = ks.isEmpty := by
  cases ks <;> rfl
/-! ### the law's own test of an edge -/
theorem bad_law (n : Int) (x y : Int) : (decide ((if y < x then y else x) < 0) || decide (n ≤ if x < y then y else x)) = badB n (x, y) := by
  cases h : badB n (x, y) with
  | false =>
    obtain ⟨a, b, c, d⟩ := good_iff.mp h
    have a : 0 ≤ x := a
    have b : x < n := b
    have c : 0 ≤ y := c
    have d : y < n := d
    rw [decide_eq_false (by split <;> omega), decide_eq_false (by split <;> omega)]
    rfl
  | true =>
    by_cases m : (if y < x then y else x) < 0
    · rw [decide_eq_true m]
      rfl
    · rw [decide_eq_false m]
      by_cases M : n ≤ if x < y then y else x
      · rw [decide_eq_true M]
        rfl
      · refine absurd (good_iff.mpr ?_) (by rw [h]; decide)
        show 0 ≤ x ∧ x < n ∧ 0 ≤ y ∧ y < n
        refine ⟨?_, ?_, ?_, ?_⟩ <;> (split at m <;> split at M <;> omega)
theorem dueC_cons {n : Int} {ps : List (Int × Int)} {k : Int} {r : List Int} (h : sel (badB n) ps ps.length = k :: r) : dueC n ps = some k := by
  unfold dueC
  rw [h]
theorem dueC_nil {n : Int} {ps : List (Int × Int)} (h : sel (badB n) ps ps.length = []) : dueC n ps = if missB n ps = true then some (ps.length : Int) else none := by
  unfold dueC
  rw [h]
def spDue : Sp := fun vs H Q _ => ∃ (n : Int) (e : Addr) (ts : Es), vs = [.int n, .ref e] ∧ H e = some (.lst (vsOf ts)) ∧ Ed H ts ∧ ts.length ≤ 1000 ∧
  ∀ p H', Same H H' → H p = none → H' p = some (.tup [.str (due n (psOf ts)).1, .int (due n (psOf ts)).2]) → Q (.ref p) H'
section
variable {P : Program} {w : World} {K : PySem.W.Frag} {mg : Str → Option Value} {base : Heap}
abbrev ND : List Str := ["_law_size", "_law_pairs", "_law_bad", "_law_k", "_law_source", "_law_target"]
theorem scDue : FnScope ND ["_law_size", "_law_pairs"] (defScope sDue) := ⟨rfl, rfl, rfl, by decide +kernel, rfl, by decide +kernel, by decide +kernel⟩
set_option maxHeartbeats 8000000 in
theorem ok_due {f : Addr} {fd : FuncData} {k : Nat} (F : Fun K "_law_graph_due" "_law_graph_due" sDue f fd) (T : Bi mg) (mmin : mg "min" = none) (mmax : mg "max" = none) (mset : mg "set" = none) : FnOk P w K mg base CX0 (k + 1) f fd ["_law_size", "_law_pairs"] spDue := by
  refine F.ok scDue (fun vs H Q E h => ?_) (fun cdv A outer s H vs Q E hr h => ?_)
  · obtain ⟨n, e, ts, rfl, _⟩ := h
    rfl
  · obtain ⟨n, e, ts, rfl, he, ed, hl, q⟩ := h
    refine ⟨_, pss_cons (ps_if (pt_cmpR op_lt (pv 0) pe_int (nomark _)) (pss_one (ps_ret (pe_tup (pa_cons pe_str (pa_cons (pe_un un_neg pe_int) pa_nil))))) pss_nil)
      (pss_cons (ps_if (PW.pt (pw_or (pt_cmpR op_gt (pv 0) pe_int (nomark _)) (pw_or1 (pt_cmpR op_gt (pe_callB call_len_seq (by rfl) T.len PySem.boot_len (pa_cons (pv 1) pa_nil)) pe_int (nomark _))))) (pss_one (ps_ret (pe_tup (pa_cons pe_str (pa_cons (pe_ifExp (pt_cmpR op_gt (pv 0) pe_int (nomark _)) pe_int pe_int) pa_nil))))) pss_nil)
      (pss_cons (ps_setLc (i := 2) (own := [("_law_k", 3)]) (g := gName 3) (tt := tOr (tTest (tOp (rI0 fun i j => .bl (decide (i < j))) (tCB (rMin2 K) (tCons (tOp (rIxL K) (tVar 1) (tVar 3)) tNil)) (tC (.int 0)))) (tTest (tOp (rI0 fun i j => .bl (decide (j ≤ i))) (tCB (rMax2 K) (tCons (tOp (rIxL K) (tVar 1) (tVar 3)) tNil)) (tVar 0)))) (te := tVar 3) rfl scDue.nd rfl rfl (sw_true rfl rfl rfl (by decide +kernel))
          (pi_range1 (by rfl) T.range (pa_cons (pe_callB call_len_seq (by rfl) T.len PySem.boot_len (pa_cons (pv 1) pa_nil)) pa_nil))
          (blkOk_by (N := ND) (sc := defScope sDue) (by decide +kernel))
          (fun _ _ _ _ _ => by exact pg_name (i := 3) scDue.nd rfl (Or.inl rfl))
          (fun _ _ _ _ _ => by exact pts_one (PW.pt (pw_or (pt_cmpR op_lt (pe_callB (cr_min2 rfl) (by rfl) mmin (by decide +kernel) (pa_cons (pe_ix ix_list (pv 1) (pv 3) (fun _ _ => rfl)) pa_nil)) pe_int (nomark _)) (pw_or1 (pt_cmpR op_ge (pe_callB (cr_max2 rfl) (by rfl) mmax (by decide +kernel) (pa_cons (pe_ix ix_list (pv 1) (pv 3) (fun _ _ => rfl)) pa_nil)) (pv 0) (nomark _))))))
          (fun _ _ _ _ _ => by exact pv 3))
      (C8.pss_cut (ps_if (PW.pt (pw_and (pt_cmpR (op_eqD hr.units) (pv 2) (pe_lst pa_nil) (nomark _)) (pw_and1 (pt_cmpR op_lt (pe_lenSetA (by rfl) T.len (by rfl) mset (pe_lc (own := [("_law_source", 4), ("_law_target", 5)]) (g := gTup K 2 (gCons (gName 4) (gCons (gName 5) gNil))) (tt := tYes) (te := tVar 4) rfl scDue.nd (pi_seqA (pv 1))
            (blkOk_by (N := ND) (sc := defScope sDue) (by decide +kernel))
            (fun _ _ _ _ _ => by exact pg_tup rfl (pgs_cons (pg_name (i := 4) scDue.nd rfl (Or.inl rfl)) (pgs_cons (pg_name (i := 5) scDue.nd rfl (Or.inl rfl)) pgs_nil)))
            (fun _ _ _ _ _ => pts_nil)
            (fun _ _ _ _ _ => by exact pv 4))) (pv 0) (nomark _))))) (pss_one (ps_set (i := 2) scDue.nd rfl (Or.inl rfl) (pe_lst (pa_cons (pe_callB call_len_seq (by rfl) T.len PySem.boot_len (pa_cons (pv 1) pa_nil)) pa_nil)))) pss_nil)
      (pss_one (ps_ret (pe_ifExp (pt_cmpR (op_neD hr.units) (pv 2) (pe_lst pa_nil) (nomark _)) (pe_tup (pa_cons pe_str (pa_cons (pe_ix ix_list (pv 2) pe_int (fun _ _ => rfl)) pa_nil))) (pe_tup (pa_cons pe_str (pa_cons (pe_callB call_len_seq (by rfl) T.len PySem.boot_len (pa_cons (pv 1) pa_nil)) pa_nil))))))))), ?_⟩
    have two' : 2 ≤ sizeLine := by decide
    have fin : ∀ {H' : Hp} {wd : Str} {v : Int}, Same H H' → due n (psOf ts) = (wd, v) → ∀ p, H' p = none → Q (.ref p) (upd H' p (.tup [.str wd, .int v])) := fun {H' wd v} sm ev p hp => by
      refine q p _ (sm.trans (same_upd hp)) (sm.free hp) ?_
      rw [ev]
      exact upd_same
    refine ⟨_, rfl, _, _, rfl, rfl, _, rfl, ?_⟩
    by_cases c1 : n < 1
    · refine if_t (decide_eq_true c1) ⟨1, rfl, two', fun p hp => ?_⟩
      exact fin (fun _ _ z => z) (due_low c1) p hp
    refine if_f (decide_eq_false c1) ⟨_, rfl, _, _, rfl, rfl, _, rfl, ?_⟩
    by_cases c2 : 8 < n
    · refine if_t (decide_eq_true c2) (if_t rfl ⟨_, rfl, _, _, rfl, rfl, _, rfl, if_t (decide_eq_true c2) ⟨two', fun p hp => ?_⟩⟩)
      exact fin (fun _ _ z => z) (due_high c2) p hp
    refine if_f (decide_eq_false c2) ⟨_, rfl, e, _, rfl, .inl (SqL.of he), _, _, rfl, rfl, _, rfl, ?_⟩
    rw [vsOf_len]
    by_cases c3 : 24 < ts.length
    · refine if_t (decide_eq_true (by omega)) ⟨_, rfl, _, _, rfl, rfl, _, rfl, if_f (decide_eq_false c2) ⟨two', fun p hp => ?_⟩⟩
      exact fin (fun _ _ z => z) (due_many (by omega) (by omega) (by rw [psOf_len]; exact c3)) p hp
    refine if_f (decide_eq_false (by omega)) ?_
    have dm := due_mid (n := n) (ps := psOf ts) (by omega) (by omega) (by rw [psOf_len]; omega)
    -- bad
    refine ⟨_, rfl, e, _, rfl, .inl (SqL.of he), _, rfl, by rw [vsOf_len]; omega, by rw [vsOf_len]; omega, fun D hD => ?_⟩
    refine lc_it (walk_range (lo := 0) (n := ((vsOf ts).length : Int).toNat)) (fun i H' => Same H H' ∧ H' D = some (.lst ((sel (badB n) (psOf ts) i).map V.int))) ⟨same_upd hD, upd_same⟩ (fun _ _ _ _ => True.intro) ?_ ?_
    · rintro j x H1 H' hj ⟨sm, eD⟩ ⟨rfl, rfl⟩
      have hj' : j < ts.length := by
        rw [Int.toNat_natCast, vsOf_len] at hj
        exact hj
      have hee := List.getElem?_eq_getElem hj'
      generalize ts[j] = ee at hee
      have hv : (vsOf ts)[j]? = some (.ref ee.1) := by
        unfold vsOf
        rw [List.getElem?_map, hee]
        rfl
      have et := sm _ _ (ed ee (List.mem_of_getElem? hee))
      have step : (∃ acc, H' D = some (.lst acc) ∧ acc.length < sizeLine ∧ (Same H (upd H' D (.lst (acc ++ [V.int (0 + (j : Int))]))) ∧ upd H' D (.lst (acc ++ [V.int (0 + (j : Int))])) D = some (.lst ((sel (badB n) (psOf ts) j ++ [(j : Int)]).map V.int)))) := by
        refine ⟨_, eD, ?_, ?_, ?_⟩
        · rw [List.length_map]
          exact small1000 (Nat.le_trans (sel_len _ _ _) (by omega))
        · intro c o ec
          rw [upd_ne (ne_of_none ec hD)]
          exact sm _ _ ec
        · rw [upd_same, List.map_append, Int.zero_add]
          rfl
      have law := bad_law n ee.2.1 ee.2.2
      refine ⟨rfl, ?_⟩
      refine ⟨_, rfl, _, rfl, e, _, _, .ref ee.1, rfl, rfl, SqL.of (sm _ _ he), by rw [Int.zero_add]; exact atI_nat hv, ee.1, _, _, rfl, SqT.of et, _, _, rfl, rfl, _, rfl, ?_⟩
      rw [sel_succ (psOf_at hee)]
      by_cases m : (if ee.2.2 < ee.2.1 then ee.2.2 else ee.2.1) < 0
      · rw [decide_eq_true m] at law
        have bad : badB n ee.2 = true := law.symm
        refine if_t (decide_eq_true m) (if_t rfl ⟨_, rfl, ?_⟩)
        rw [if_pos bad]
        exact step
      · refine if_f (decide_eq_false m) ⟨_, rfl, _, rfl, e, _, _, .ref ee.1, rfl, rfl, SqL.of (sm _ _ he), by rw [Int.zero_add]; exact atI_nat hv, ee.1, _, _, rfl, SqT.of et, _, rfl, _, _, rfl, rfl, _, rfl, ?_⟩
        rw [decide_eq_false m] at law
        by_cases M : n ≤ if ee.2.1 < ee.2.2 then ee.2.2 else ee.2.1
        · rw [decide_eq_true M] at law
          have bad : badB n ee.2 = true := law.symm
          refine if_t (decide_eq_true M) ⟨_, rfl, ?_⟩
          rw [if_pos bad]
          exact step
        · rw [decide_eq_false M] at law
          have good : badB n ee.2 = false := law.symm
          refine if_f (decide_eq_false M) ?_
          rw [if_neg (by rw [good]; exact Bool.false_ne_true)]
          exact ⟨sm, eD⟩
    · rintro H1 ⟨sm, eD⟩
      rw [Int.toNat_natCast, vsOf_len, ← psOf_len ts] at eD
      obtain ⟨bs, hbs⟩ : ∃ bs, sel (badB n) (psOf ts) (psOf ts).length = bs := ⟨_, rfl⟩
      rw [hbs] at eD
      refine ⟨fun σ H' => ∃ (v3 v4 v5 : Option V) (B : Addr) (ks : List Int), σ = [some (.int n), some (.ref e), some (.ref B), v3, v4, v5] ∧ Same H H' ∧ H' B = some (.lst (ks.map V.int)) ∧ dueC n (psOf ts) = ks.head?, ?_, ?_⟩
      · refine ⟨_, rfl, (by show 0 ≤ sizeLine; exact Nat.zero_le _), fun l hl' => ?_⟩
        have s2 := same_upd (o := .lst []) hl'
        refine ⟨_, _, .lst (SqL.of (s2 _ _ eD)) (dI_at bs), .lst (SqL.of upd_same) (dI_at []), sh_ints _, sh_ints _, _, rfl, ?_⟩
        rw [eqv_nil]
        cases bs with
        | cons b bs => exact if_f rfl (if_f rfl ⟨_, _, _, D, b :: bs, rfl, sm.trans s2, s2 _ _ eD, dueC_cons hbs⟩)
        | nil =>
          refine if_t rfl ?_
          have eD := s2 _ _ eD
          have sm := sm.trans s2
          generalize upd H1 l (.lst []) = H2 at *
          refine ⟨_, rfl, e, vsOf ts, SqL, rfl, .inl rfl, SqL.of (sm _ _ he), fun J w => fun D2 hD2 => ?_⟩
          refine lc_it w (fun i H' => Same H2 H' ∧ H' D2 = some (.lst ((ts.take i).map fun e => V.int e.2.1))) ⟨same_upd hD2, upd_same⟩ (fun i H' _ p => SqL.of (p.1 _ _ (sm _ _ he))) ?_ ?_
          · rintro i x H3 H' hi ⟨sm2, eD2⟩ ⟨rfl, gx⟩
            obtain ⟨ee, hee, rfl⟩ := vsOf_at gx
            refine ⟨ee.1, _, rfl, SqT.of (sm2 _ _ (sm _ _ (ed ee (List.mem_of_getElem? hee)))), rfl, _, _, rfl, _, _, rfl, rfl, rfl, ?_⟩
            refine ⟨_, rfl, _, eD2, ?_, ?_, ?_⟩
            · rw [List.length_map, List.length_take]
              exact small1000 (by omega)
            · intro c o ec
              rw [upd_ne (ne_of_none ec hD2)]
              exact sm2 _ _ ec
            · rw [upd_same, List.take_add_one, hee, List.map_append]
              rfl
          · rintro H3 ⟨sm2, eD2⟩
            rw [vsOf_len, List.take_length] at eD2
            have e1 : (ts.map fun e => V.int e.2.1) = ((psOf ts).map (·.1)).map V.int := by
              unfold psOf
              rw [List.map_map, List.map_map]
              rfl
            rw [e1] at eD2
            refine ⟨D2, _, rfl, SqL.of eD2, by rw [List.length_map, psOf_len]; omega, fun ds nd mem => ?_⟩
            have good : ∀ p ∈ psOf ts, 0 ≤ p.1 ∧ p.1 < n := fun p hp => by
              obtain ⟨j, hj, ej⟩ := List.getElem_of_mem hp
              have hg : badB n p = false := by
                rw [← Bool.not_eq_true]
                intro hb
                have hm : ((j : Nat) : Int) ∈ sel (badB n) (psOf ts) (psOf ts).length := by
                  unfold sel
                  refine List.mem_map.mpr ⟨j, List.mem_filter.mpr ⟨List.mem_range.mpr hj, ?_⟩, rfl⟩
                  rw [List.getElem?_eq_getElem hj, ej]
                  exact hb
                rw [hbs] at hm
                cases hm
              exact ⟨(good_iff.mp hg).1, (good_iff.mp hg).2.1⟩
            have mi := miss_iff good nd mem
            refine ⟨_, rfl, _, _, rfl, rfl, _, rfl, ?_⟩
            rw [mi]
            have dc := dueC_nil hbs
            cases hm : missB n (psOf ts) with
            | true =>
              rw [hm] at dc
              refine if_t rfl ⟨_, rfl, e, _, rfl, .inl (SqL.of (sm2 _ _ (sm _ _ he))), (by show 1 ≤ sizeLine; decide), fun B hB => ?_⟩
              rw [vsOf_len, ← psOf_len ts]
              exact ⟨_, _, _, B, [((psOf ts).length : Int)], rfl, (sm.trans sm2).trans (same_upd hB), upd_same, dc⟩
            | false =>
              rw [hm] at dc
              exact if_f rfl ⟨_, _, _, D, [], rfl, sm.trans sm2, sm2 _ _ eD, dc⟩
      · rintro σ H2 ⟨v3, v4, v5, B, ks, rfl, sm2, eB, dk⟩
        refine ⟨_, rfl, (by show 0 ≤ sizeLine; exact Nat.zero_le _), fun l hl' => ?_⟩
        have s3 := same_upd (o := .lst []) hl'
        refine ⟨_, _, .lst (SqL.of (s3 _ _ eB)) (dI_at ks), .lst (SqL.of upd_same) (dI_at []), sh_ints _, sh_ints _, _, rfl, ?_⟩
        rw [eqv_nil]
        have sm3 := sm2.trans s3
        have eB := s3 _ _ eB
        generalize upd H2 l (.lst []) = H3 at *
        rw [dk] at dm
        cases ks with
        | cons b ks =>
          refine if_t rfl ⟨_, rfl, B, _, _, _, rfl, rfl, SqL.of eB, at0, two', fun p hp => ?_⟩
          exact fin sm3 dm p hp
        | nil =>
          refine if_f rfl ⟨_, rfl, e, _, rfl, .inl (SqL.of (sm3 _ _ he)), two', fun p hp => ?_⟩
          rw [psOf_len] at dm
          rw [vsOf_len]
          exact fin sm3 dm p hp
end
end Lw
set_option Elab.async false
set_option linter.all false
set_option maxRecDepth 100000
namespace Lw
open PySem L2
theorem OutG.to {CG : Addr} {H : Hp} {k : Int} {E : XK} (h : ∀ H1 d, Same H H1 → H1 d = none → E (.ref CG) (some d) (upd H1 d (.xd (erF "place" "invalidgraph" k)))) : OutG CG H k E := h
/-- a new instance -/
theorem make_same {H : Hp} {C g dx : Addr} (hg : H g = none) (hdx : H dx = none) (ne : dx ≠ g) : Same H (upd (upd H dx (.own g)) g (.ins C dx [])) := by
  have hg2 : upd H dx (.own g) g = none := by
    rw [upd_ne (Ne.symm ne)]
    exact hg
  exact (same_upd hdx).trans (same_upd hg2)
theorem two_ok : 2 ≤ sizeLine := by decide
theorem due_split (n : Int) (ps : List (Int × Int)) : (∃ k, due n ps = (("invalidgraph" : Str), k)) ∨ (∃ k, due n ps = (("limitexceeded" : Str), k)) ∨ due n ps = (("" : Str), (ps.length : Int)) := by
  by_cases c1 : n < 1
  · exact .inl ⟨_, due_low c1⟩
  by_cases c2 : 8 < n
  · exact .inr (.inl ⟨_, due_high c2⟩)
  by_cases c3 : 24 < ps.length
  · exact .inr (.inl ⟨_, due_many (by omega) (by omega) c3⟩)
  have dm := due_mid (n := n) (ps := ps) (by omega) (by omega) (by omega)
  cases h : dueC n ps with
  | some k =>
    rw [h] at dm
    exact .inl ⟨k, dm⟩
  | none =>
    rw [h] at dm
    exact .inr (.inr dm)
section
variable {Er : Addr → Str → Str → Prop} {C CG CL : Addr} {σ : L2.St} {H : Hp} {Q : VK}
/-- what Tried asks where an error is raised -/
theorem told {CE : Addr} {fld wd : Str} {k : Int} {H1 : Hp} {d : Addr} (ok : Er CE fld wd) (s1 : Same H H1) (hd : H1 d = none) (rest : ∀ p H2, Same H H2 → H2 p = some (.tup [.str wd, .int k]) → Q (.ref p) H2) :
    ∃ (C dd : Addr) (fld' wd' : Str) (n : Int), Er C fld' wd' ∧ (Value.ref CE) = .ref C ∧ (some d) = some dd ∧ upd H1 d (.xd (erF fld wd k)) dd = some (.xd (erF fld' wd' n)) ∧ ∀ H2 p, Same (upd H1 d (.xd (erF fld wd k))) H2 → upd H1 d (.xd (erF fld wd k)) p = none → H2 p = some (.tup [.str wd', .int n]) → Q (.ref p) H2 :=
  ⟨CE, d, fld, wd, k, ok, rfl, rfl, upd_same, fun H2 p s2 _ e2 => rest p H2 ((s1.trans (same_upd hd)).trans s2) e2⟩
theorem tried_graph {i j : Nat} {sz : Int} {qa : Addr} {ts : Es} (okG : Er CG "place" "invalidgraph") (okL : Er CL "limit" "limitexceeded") (hi : σ[i]? = some (some (.int sz))) (hj : σ[j]? = some (some (.ref qa))) (ls : H qa = some (.lst (vsOf ts))) (ed : Ed H ts) (hl : ts.length ≤ 1000)
    (rest : ∀ p H2, Same H H2 → H2 p = some (.tup [.str (due sz (psOf ts)).1, .int (due sz (psOf ts)).2]) → Q (.ref p) H2) :
    Tried Er (fun E H' Q' => tCB (rLenO C (spLen C) E0) (tCons (tMake C (spInitX C CG CL) [] E (tCons (tVar i) (tCons (tVar j) tNil))) tNil) σ H' Q') H Q := by
  refine ⟨_, hi, _, hj, fun g dx hg hdx ne => ?_⟩
  have s1 := make_same (C := C) hg hdx ne
  refine ⟨g, dx, qa, sz, ts, rfl, upd_same, s1 _ _ ls, ed.same s1, hl, fun k hk => ?_, fun k hk => ?_, fun k hk us H' hus kp GA => ⟨rfl, ?_⟩⟩
  · rw [hk] at rest
    exact fun H1 d s2 hd => told okG (s1.trans s2) hd rest
  · rw [hk] at rest
    exact fun H1 d s2 hd => told okL (s1.trans s2) hd rest
  · obtain ⟨dx', t, h1, h2⟩ := GA.ob
    have hlen : us.length = ts.length := by
      have := congrArg List.length hus
      rw [psOf_len, psOf_len] at this
      exact this
    refine ⟨g, dx', _, rfl, h1, g, sz, us, rfl, GA, _, rfl, ⟨by omega, by omega⟩, two_ok, fun p hp => ?_⟩
    have ek : k = (us.length : Int) := by
      rcases due_split sz (psOf ts) with ⟨k', e⟩ | ⟨k', e⟩ | e
      · rw [e] at hk
        exact absurd (congrArg Prod.fst hk).symm ne_ig
      · rw [e] at hk
        exact absurd (congrArg Prod.fst hk).symm ne_le
      · rw [e, psOf_len] at hk
        rw [hlen]
        exact (congrArg Prod.snd hk).symm
    refine rest p _ (fun a o ea => same_upd hp _ _ (kp a o (ne_of_none ea hg) (s1 _ _ ea))) ?_
    rw [hk, ek]
    exact upd_same
/-- what Graph.full(c) gives, and the law's own word for it -/
theorem due_fullc (c : Int) : due 1 (List.replicate (if 25 < (if 0 > c then 0 else c) then 25 else (if 0 > c then 0 else c)).toNat ((0 : Int), (0 : Int))) = if c < 1 then (("invalidgraph" : Str), 0) else if 24 < c then (("limitexceeded" : Str), 24) else (("" : Str), c) := by
  by_cases c1 : c < 1
  · have e : (if 25 < (if 0 > c then 0 else c) then 25 else (if 0 > c then 0 else c)).toNat = 0 := by
      split <;> split at * <;> omega
    rw [e, if_pos c1, due_mid (by decide) (by decide) (by decide), dueC_miss (fun j q hq => by cases hq) 0 (by decide) (fun p hp => by cases hp)]
    rfl
  · rw [if_neg c1]
    by_cases c2 : 24 < c
    · have e : (if 25 < (if 0 > c then 0 else c) then 25 else (if 0 > c then 0 else c)).toNat = 25 := by
        split <;> split at * <;> omega
      rw [e, if_pos c2, due_many (by decide) (by decide) (by decide)]
    · have e : (if 25 < (if 0 > c then 0 else c) then 25 else (if 0 > c then 0 else c)).toNat = c.toNat := by
        split <;> split at * <;> omega
      rw [e, if_neg c2, due_full (by omega) (by omega), Int.toNat_of_nonneg (by omega)]
theorem tried_full {i : Nat} {c : Int} (okG : Er CG "place" "invalidgraph") (okL : Er CL "limit" "limitexceeded") (hi : σ[i]? = some (some (.int c)))
    (rest : ∀ p H2, Same H H2 → H2 p = some (.tup [.str (if c < 1 then (("invalidgraph" : Str), (0 : Int)) else if 24 < c then (("limitexceeded" : Str), 24) else (("" : Str), c)).1, .int (if c < 1 then (("invalidgraph" : Str), (0 : Int)) else if 24 < c then (("limitexceeded" : Str), 24) else (("" : Str), c)).2]) → Q (.ref p) H2) :
    Tried Er (fun E H' Q' => tCB (rLenO C (spLen C) E0) (tCons (ClX.tCMeth C (spFull C CG CL) E (tC (.ref C)) (tCons (tVar i) tNil)) tNil) σ H' Q') H Q := by
  refine ⟨rfl, _, hi, c, rfl, fun c1 => ?_, fun c2 => ?_, fun c1 c2 g us H' s1 ng hus GA => ?_⟩
  · rw [if_pos c1] at rest
    exact fun H1 d s2 hd => told okG s2 hd rest
  · rw [if_neg (by omega), if_pos c2] at rest
    exact fun H1 d s2 hd => told okL s2 hd rest
  · rw [if_neg (by omega), if_neg (by omega)] at rest
    obtain ⟨dx', t, h1, h2⟩ := GA.ob
    have hlen : (us.length : Int) = c := by
      have := congrArg List.length hus
      rw [psOf_len, List.length_replicate] at this
      omega
    refine ⟨g, dx', _, rfl, h1, g, 1, us, rfl, GA, _, rfl, ⟨by omega, by omega⟩, two_ok, fun p hp => ?_⟩
    refine rest p _ (s1.trans (same_upd hp)) ?_
    rw [hlen]
    exact upd_same
theorem lk_word {p q : Addr} {wd : Str} {v : Int} {k : Nat} (h1 : H p = some (.tup [.str wd, .int v])) (h2 : H q = some (.tup [.str wd, .int v])) : Lk H (k + 2) (.ref p) (.ref q) := by
  refine .inr (.inr ⟨p, q, _, _, rfl, rfl, h1, h2, rfl, (by show 2 ≤ 1000; decide), fun i u v hu hv => ?_⟩)
  rw [hu] at hv
  have e := Option.some.inj hv
  subst e
  refine .inl ⟨rfl, ?_⟩
  have := List.mem_of_getElem? hu
  simp only [List.mem_cons, List.not_mem_nil, or_false] at this
  rcases this with rfl | rfl <;> rfl
end
end Lw
set_option Elab.async false
set_option linter.all false
set_option maxRecDepth 100000
namespace Lw
open PySem L2
theorem same_at {H H' : Hp} {p : Addr} {o : HO} (s : Same H H') (n : H p = none) : Same H (upd H' p o) := fun c o' e => by
  rw [upd_ne (ne_of_none e n)]
  exact s c o' e
/-! ### tables of code objects -/
def Tq (Pt : Addr) (qn : Str) : List (Addr × Str) := [(Pt, qn)]
theorem tabs_keep {T : List (Addr × Str)} {H H' : Hp} {b l : Addr} {ns : List Int} (t : LamX.Tabs T H) (B : BagAt H b l ns) (k : KeepB b H H') : LamX.Tabs T H' := fun p hp => by
  obtain ⟨ps, h1, h2, h3⟩ := t p hp
  obtain ⟨ys, hb⟩ := B.at_b
  refine ⟨ps, k _ _ (fun e => by rw [e, hb] at h1; cases h1) h1, h2, fun pos cv hc => ?_⟩
  obtain ⟨c, e1, e2⟩ := h3 pos cv hc
  exact ⟨c, e1, k _ _ (fun e => by rw [e, hb] at e2; cases e2) e2⟩
theorem BagAt.extN {H H' : Hp} {b l : Addr} {ns : List Int} (B : BagAt H b l ns) (e : LamX.ExtN H H') : BagAt H' b l ns := by
  obtain ⟨o, ho, hB⟩ := B.ob
  obtain ⟨i, r, s, rfl, h2⟩ := id hB
  exact ⟨⟨_, e _ _ ho (fun ps z => by cases z), hB⟩, e _ _ B.sc (fun ps z => by cases z), B.ln⟩
theorem Ed.extN {H H' : Hp} {ts : Es} (h : Ed H ts) (e : LamX.ExtN H H') : Ed H' ts := fun x hx => e _ _ (h x hx) (fun ps z => by cases z)
theorem PlanAt.extN {H H' : Hp} {p q : Addr} {n : Int} {ts : Es} (h : PlanAt H p q n ts) (e : LamX.ExtN H H') : PlanAt H' p q n ts := ⟨e _ _ h.tp (fun ps z => by cases z), e _ _ h.ls (fun ps z => by cases z), h.ed.extN e, h.va, h.n1⟩
theorem GraphAt.extN {C : Addr} {H H' : Hp} {g : Addr} {n : Int} {us : Es} (h : GraphAt C H g n us) (e : LamX.ExtN H H') : GraphAt C H' g n us := by
  obtain ⟨⟨dx, t, h1, h2⟩, ed⟩ := h
  exact ⟨⟨dx, t, e _ _ h1 (fun ps z => by cases z), e _ _ h2 (fun ps z => by cases z)⟩, ed.extN e⟩
theorem GraphAt.keep {C : Addr} {H H' : Hp} {g b l : Addr} {ns : List Int} {n : Int} {us : Es} (h : GraphAt C H g n us) (B : BagAt H b l ns) (k : KeepB b H H') : GraphAt C H' g n us := by
  obtain ⟨⟨dx, t, h1, h2⟩, ed⟩ := h
  exact ⟨⟨dx, t, k _ _ (B.ne_ins h1) h1, k _ _ (B.ne_tup h2) h2⟩, ed.keep B k⟩
theorem PlanAt.keep {H H' : Hp} {p q b l : Addr} {ns : List Int} {n : Int} {ts : Es} (h : PlanAt H p q n ts) (B : BagAt H b l ns) (k : KeepB b H H') : PlanAt H' p q n ts := ⟨k _ _ (B.ne_tup h.tp) h.tp, k _ _ (B.ne_vs h.ls) h.ls, h.ed.keep B k, h.va, h.n1⟩
end Lw
set_option Elab.async false
set_option linter.all false
set_option maxRecDepth 100000
namespace Lw
open PySem L2
abbrev sLaw : Stmt := top 19
abbrev NL : List Str := ["_law_script", "_law_bag_here", "_law_turn", "_law_size", "_law_pairs", "_law_step", "_law_way", "_law_at", "_law_odd", "_law_many", "_law_due", "_law_source", "_law_target"]
theorem scLaw : FnScope NL ["_law_script"] (defScope sLaw) := ⟨rfl, rfl, rfl, by decide +kernel, rfl, by decide +kernel, by decide +kernel⟩
theorem passN {X : Cx} : Passes (L2.CX X.prog X.w) X E0 := fun pins σ H s e s' I c => passes_call LamX.takes0 (fun _ _ _ _ h => h) pins σ H s e s' I c
/-- the defs and the class that the law calls -/
structure Lib (P : Program) (w : World) (K : PySem.W.Frag) (mg : Str → Option Value) (base : Heap) (C CG CL : Addr) (mc : Value) : Prop where
  T : Bi mg
  G : GTxt K mg C mc
  mmin : mg "min" = none
  mmax : mg "max" = none
  bag : C8.Cal P w K mg base 1 "_law_bag" (spBag K) []
  pull : C8.Cal P w K mg base 1 "_law_pull" spPull []
  of : C8.Cal P w K mg base 2 "_law_of" (spOf K) []
  plan : C8.Cal P w K mg base 2 "_law_plan" spPlan []
  like : C8.Cal P w K mg base 6 "_law_like" (spLike 5) []
  due : C8.Cal P w K mg base 1 "_law_graph_due" spDue []
  mkg : MakX P w K mg base 5 C (spInitX C CG CL)
  full : ∃ p g, ClX.CMet K C mc "full" p g ∧ FnR P w K mg base (L2.CX P w) 7 g (spFull C CG CL)
  len : ∃ f fd, PySem.W.findIn K (.ref C) "__len__" = some (some (.ref f)) ∧ PySem.W.isFn K (.ref f) = true ∧ FnOk P w K mg base CX0 1 f fd ["self"] (spLen C) ∧ Binds K fd ["self"] []
  eq : ∃ f fd, PySem.W.findIn K (.ref C) "__eq__" = some (some (.ref f)) ∧ PySem.W.isFn K (.ref f) = true ∧ FnOk P w K mg base CX0 1 f fd ["self", "other"] (spGEq K C) ∧ Binds K fd ["self", "other"] []
  tried : ∃ (g : Addr) (oc : Value) (od : Option Addr) (dV kV doc pm : Value) (an : Option Addr) (cdv ct : Value) (osl : Array (Option Value)), mg "_law_tried" = some (.ref g) ∧ PySem.W.keepIn K (.ref g) = true ∧
    K.lookup g = some ⟨oc, od, .func (PySem.W.fnOf "_law_tried" "_law_tried" (defArgs sTried) (defBody sTried) (defScope sTried) dV kV doc pm an cdv ct), osl⟩ ∧ PySem.W.codeIn K cdv "_law_tried" = true ∧ Binds K (PySem.W.fnOf "_law_tried" "_law_tried" (defArgs sTried) (defBody sTried) (defScope sTried) dV kV doc pm an cdv ct) ["_law_ask"] []
  err : ∃ (CW fF : Addr) (fdF : FuncData), mg "WindowError" = some (.ref CW) ∧ mg "_law_field" = some (.ref fF) ∧ PySem.W.keepIn K (.ref fF) = true ∧ Binds K fdF ["_law_e"] [] ∧ ErOk P w K mg base CW fF fdF CG "place" "invalidgraph" ∧ ErOk P w K mg base CW fF fdF CL "limit" "limitexceeded"
def spLaw (K : PySem.W.Frag) (Pt : Addr) : Sp := fun vs H Q _ => ∃ (a : Addr) (ns : List Int), vs = [.ref a] ∧ SqL K H a (ns.map V.int) ∧ ns.length ≤ 63 ∧ H Pt = some (.tbl #[]) ∧ ∀ H', Q (.bl true) H'
/-- a turn's things: the bag, the tables, the list of pairs -/
structure Pr (b l Pt : Addr) (qn : Str) (ns : List Int) (sz : Int) (qa : Addr) (ts : Es) (m : Nat) (H : Hp) : Prop where
  bag : BagAt H b l ns
  tab : LamX.Tabs (Tq Pt qn) H
  ls : H qa = some (.lst (vsOf ts))
  ed : Ed H ts
  s0 : -1 ≤ sz
  s1 : sz ≤ 9
  len : ts.length ≤ 26 + m
section
variable {b l Pt qa : Addr} {qn : Str} {ns : List Int} {sz : Int} {ts : Es} {m : Nat} {H H' : Hp}
theorem Pr.same (h : Pr b l Pt qn ns sz qa ts m H) (s : Same H H') : Pr b l Pt qn ns sz qa ts m H' := ⟨h.bag.same s, h.tab.ext s, s _ _ h.ls, h.ed.same s, h.s0, h.s1, h.len⟩
theorem Pr.keep (h : Pr b l Pt qn ns sz qa ts m H) (k : KeepB b H H') (B : BagAt H' b l ns) : Pr b l Pt qn ns sz qa ts m H' := ⟨B, tabs_keep h.tab h.bag k, k _ _ (h.bag.ne_vs h.ls) h.ls, h.ed.keep h.bag k, h.s0, h.s1, h.len⟩
theorem Pr.pull {o : HO} (h : Pr b l Pt qn ns sz qa ts m H) (BO : BagO l ns o) : Pr b l Pt qn ns sz qa ts m (upd H b o) := h.keep .updb (h.bag.upd BO)
theorem Pr.extN (h : Pr b l Pt qn ns sz qa ts m H) (e : LamX.ExtN H H') (t : LamX.Tabs (Tq Pt qn) H') : Pr b l Pt qn ns sz qa ts m H' := ⟨h.bag.extN e, t, e _ _ h.ls (fun ps z => by cases z), h.ed.extN e, h.s0, h.s1, h.len⟩
theorem Pr.more {m' : Nat} (h : Pr b l Pt qn ns sz qa ts m H) (le : m ≤ m') : Pr b l Pt qn ns sz qa ts m' H := ⟨h.bag, h.tab, h.ls, h.ed, h.s0, h.s1, by have := h.len; omega⟩
theorem Pr.lists {qb : Addr} {us : Es} {m' : Nat} (h : Pr b l Pt qn ns sz qa ts m H) (e : H qb = some (.lst (vsOf us))) (ed : Ed H us) (le : us.length ≤ 26 + m') : Pr b l Pt qn ns sz qb us m' H := ⟨h.bag, h.tab, e, ed, h.s0, h.s1, le⟩
theorem Pr.size {z : Int} (h : Pr b l Pt qn ns sz qa ts m H) (h0 : -1 ≤ z) (h1 : z ≤ 9) : Pr b l Pt qn ns z qa ts m H := ⟨h.bag, h.tab, h.ls, h.ed, h0, h1, h.len⟩
end
theorem cutL (xs : List V) (k : Nat) : cutV xs none (some (k : Int)) = xs.take k := by
  unfold cutV
  rw [HT.sIx_none, HT.sIx_nat]
  simp only [Nat.sub_zero, List.drop_zero]
  by_cases h : k ≤ xs.length
  · rw [Nat.min_eq_left h]
  · rw [Nat.min_eq_right (by omega), List.take_length, List.take_of_length_le (by omega)]
theorem cutR (xs : List V) (k : Nat) : cutV xs (some (k : Int)) none = xs.drop k := by
  unfold cutV
  rw [HT.sIx_none, HT.sIx_nat]
  by_cases h : k ≤ xs.length
  · rw [Nat.min_eq_left h, List.take_of_length_le (by rw [List.length_drop]; omega)]
  · rw [Nat.min_eq_right (by omega), Nat.sub_self, List.take_zero, List.drop_of_length_le (by omega)]
theorem vs_take (ts : Es) (k : Nat) : (vsOf ts).take k = vsOf (ts.take k) := by
  unfold vsOf
  rw [List.map_take]
theorem vs_drop (ts : Es) (k : Nat) : (vsOf ts).drop k = vsOf (ts.drop k) := by
  unfold vsOf
  rw [List.map_drop]
theorem vs_app (ts us : Es) : vsOf ts ++ vsOf us = vsOf (ts ++ us) := by
  unfold vsOf
  rw [List.map_append]
theorem vs_flat (ts : Es) (k : Nat) : (List.replicate k (vsOf ts)).flatten = vsOf (List.replicate k ts).flatten := by
  unfold vsOf
  rw [List.map_flatten, List.map_replicate]
theorem Ed.take {H : Hp} {ts : Es} (h : Ed H ts) (k : Nat) : Ed H (ts.take k) := fun e he => h e (List.mem_of_mem_take he)
theorem Ed.drop {H : Hp} {ts : Es} (h : Ed H ts) (k : Nat) : Ed H (ts.drop k) := fun e he => h e (List.mem_of_mem_drop he)
theorem Ed.flat {H : Hp} {ts : Es} (h : Ed H ts) (k : Nat) : Ed H (List.replicate k ts).flatten := fun e he => by
  obtain ⟨x, hx, hm⟩ := List.mem_flatten.mp he
  rw [List.eq_of_mem_replicate hx] at hm
  exact h e hm
section
variable {P : Program} {w : World} {K : PySem.W.Frag} {mg : Str → Option Value} {base : Heap}
set_option maxHeartbeats 16000000 in
theorem ok_law {f C CG CL c Pt : Addr} {mc : Value} {oc dV kV doc pm ct : Value} {od an : Option Addr} {osl : Array (Option Value)} (lk : K.lookup f = some ⟨oc, od, .func (PySem.W.fnOf "law" "law" (defArgs sLaw) (defBody sLaw) (defScope sLaw) dV kV doc pm an (.ref c) ct), osl⟩) (hcd : PySem.W.codeIn K (.ref c) "law" = true)
    (TB : LamX.TabB base mg c Pt) (L : Lib P w K mg base C CG CL mc) : FnOk P w K mg base CX0 12 f (PySem.W.fnOf "law" "law" (defArgs sLaw) (defBody sLaw) (defScope sLaw) dV kV doc pm an (.ref c) ct) ["_law_script"] (spLaw K Pt) := by
  refine fn_of lk hcd scLaw (fun vs H Q E h => ?_) (fun A outer s H vs Q E hr h => ?_)
  · obtain ⟨a, ns, rfl, _⟩ := h
    rfl
  · obtain ⟨a, ns, rfl, hS, hln, htb, q⟩ := h
    have T := L.T
    obtain ⟨gT, ocT, odT, dVT, kVT, docT, pmT, anT, cdvT, ctT, oslT, mT, kT, lkT, hcT, bT⟩ := L.tried
    obtain ⟨CW, fF, fdF, gW, gF, kF, bF, EG, EL⟩ := L.err
    obtain ⟨fL, fdL, hL1, hL2, FL, bL⟩ := L.len
    obtain ⟨fE, fdE, hE1, hE2, FE, bE⟩ := L.eq
    obtain ⟨fG, fdG, psG, MkG, FG, bG⟩ := L.mkg.ex
    obtain ⟨pF, gFu, cmF, FnF⟩ := L.full
    suffices hh : ∃ t, PSs (cxOf CX0 P w K mg base NL "law" (defScope sLaw) f (.ref c) A outer s H E).nox (defBody sLaw) t ∧ t { nx := fun _ H' => Q .non H', rt := Q } (start NL [.ref a]) H by
      obtain ⟨t, h1, h2⟩ := hh
      exact ⟨t, h1.nox, h2⟩
    obtain ⟨qn, hqn⟩ : ∃ q, (cxOf CX0 P w K mg base NL "law" (defScope sLaw) f (.ref c) A outer s H E).nox.env.qual ++ "<lambda>" = q := ⟨_, rfl⟩
    refine ⟨_, pss_cons (ps_set (i := 1) scLaw.nd rfl (by first | exact Or.inl rfl | exact Or.inr rfl) (C8.pe_c L.bag hr (by decide) (by rfl) (pa_cons (pv 0) pa_nil))) (pss_cons (ps_for PassesOwn.never rfl (pi_range1 (by rfl) T.range (pa_cons pe_int pa_nil)) (pg_name (i := 2) scLaw.nd rfl (by first | exact Or.inl rfl | exact Or.inr rfl)) (C8.pss_cut (ps_asg (C8.pe_c L.plan hr (by decide) (by rfl) (pa_cons (pv 1) (pa_cons pe_int (pa_cons (C8.pe_c L.of hr (by decide) (by rfl) (pa_cons (pv 1) (pa_cons (pe_lst (pa_cons pe_int (pa_cons pe_int pa_nil))) pa_nil))) pa_nil)))) (pg_tup rfl (pgs_cons (pg_name (i := 3) scLaw.nd rfl (by first | exact Or.inl rfl | exact Or.inr rfl)) (pgs_cons (pg_name (i := 4) scLaw.nd rfl (by first | exact Or.inl rfl | exact Or.inr rfl)) pgs_nil)))) (C8.pss_cut (ps_for PassesOwn.never rfl (pi_range1 (by rfl) T.range (pa_cons (C8.pe_c L.pull hr (by decide) (by rfl) (pa_cons (pv 1) (pa_cons pe_int pa_nil))) pa_nil)) (pg_name (i := 5) scLaw.nd rfl (by first | exact Or.inl rfl | exact Or.inr rfl)) (C8.pss_cut (ps_asg (pe_tup (pa_cons (C8.pe_c L.pull hr (by decide) (by rfl) (pa_cons (pv 1) (pa_cons pe_int pa_nil))) (pa_cons (C8.pe_c L.pull hr (by decide) (by rfl) (pa_cons (pv 1) (pa_cons (pe_op op_add (pe_callB call_len_seq (by rfl) T.len PySem.boot_len (pa_cons (pv 4) pa_nil)) pe_int) pa_nil))) pa_nil))) (pg_tup rfl (pgs_cons (pg_name (i := 6) scLaw.nd rfl (by first | exact Or.inl rfl | exact Or.inr rfl)) (pgs_cons (pg_name (i := 7) scLaw.nd rfl (by first | exact Or.inl rfl | exact Or.inr rfl)) pgs_nil)))) (C8.pss_cut (ps_if (pt_cmpR op_eq (pv 6) pe_int (nomark _)) (pss_one (ps_set (i := 3) scLaw.nd rfl (by first | exact Or.inl rfl | exact Or.inr rfl) (pe_op op_sub (C8.pe_c L.pull hr (by decide) (by rfl) (pa_cons (pv 1) (pa_cons pe_int pa_nil))) pe_int))) pss_nil) (C8.pss_cut (ps_if (pt_cmpR op_eq (pv 6) pe_int (nomark _)) (pss_one (ps_set (i := 4) scLaw.nd rfl (by first | exact Or.inl rfl | exact Or.inr rfl) (pe_op op_cat (pe_slice sl_list (pv 4) po_none (po_some (pv 7))) (pe_slice sl_list (pv 4) (po_some (pe_op op_add (pv 7) pe_int)) po_none)))) pss_nil) (C8.pss_cut (ps_if (pt_cmpR op_eq (pv 6) pe_int (nomark _)) (pss_cons (ps_set (i := 8) scLaw.nd rfl (by first | exact Or.inl rfl | exact Or.inr rfl) (C8.pe_c L.of hr (by decide) (by rfl) (pa_cons (pv 1) (pa_cons (pe_lst (pa_cons (pe_un un_neg pe_int) (pa_cons (pv 3) (pa_cons (pe_op op_pow pe_int pe_int) pa_nil)))) pa_nil)))) (pss_one (ps_set (i := 4) scLaw.nd rfl (by first | exact Or.inl rfl | exact Or.inr rfl) (pe_op op_cat (pe_op op_cat (pe_slice sl_list (pv 4) po_none (po_some (pv 7))) (pe_lst (pa_cons (C8.pe_c L.of hr (by decide) (by rfl) (pa_cons (pv 1) (pa_cons (pe_lst (pa_cons (pe_tup (pa_cons (pv 8) (pa_cons pe_int pa_nil))) (pa_cons (pe_tup (pa_cons pe_int (pa_cons (pv 8) pa_nil))) pa_nil))) pa_nil))) pa_nil))) (pe_slice sl_list (pv 4) (po_some (pv 7)) po_none))))) pss_nil) (C8.pss_cut (ps_if (pt_cmpR op_eq (pv 6) pe_int (nomark _)) (pss_one (ps_set (i := 4) scLaw.nd rfl (by first | exact Or.inl rfl | exact Or.inr rfl) (pe_slice sl_list (pe_op op_rep (pv 4) pe_int) po_none (po_some (pe_op op_add pe_int (C8.pe_c L.pull hr (by decide) (by rfl) (pa_cons (pv 1) (pa_cons pe_int pa_nil)))))))) pss_nil) (pss_one (ps_if (pt_cmpR op_eq (pv 6) pe_int (nomark _)) (pss_one (ps_set (i := 4) scLaw.nd rfl (by first | exact Or.inl rfl | exact Or.inr rfl) (pe_lc (own := [("_law_source", 11), ("_law_target", 12)]) (g := gTup K 2 (gCons (gName 11) (gCons (gName 12) gNil))) (tt := tTest (tOp rNe (tVar 11) (tOp (rI (fun _ j => 0 < j) fun i j => .int (i % j)) (tVar 7) (tC (.int 3))))) (te := tTup (tCons (tVar 11) (tCons (tVar 12) tNil))) rfl scLaw.nd (pi_seqA (pv 4)) (blkOk_by (N := NL) (sc := defScope sLaw) (by decide +kernel)) (fun _ _ _ _ _ => by exact pg_tup rfl (pgs_cons (pg_name (i := 11) scLaw.nd rfl (by first | exact Or.inl rfl | exact Or.inr rfl)) (pgs_cons (pg_name (i := 12) scLaw.nd rfl (by first | exact Or.inl rfl | exact Or.inr rfl)) pgs_nil))) (fun _ _ _ _ _ => by exact pts_one (pt_cmpR op_ne (pv 11) (pe_op op_mod (pv 7) pe_int) (nomark _))) (fun _ _ _ _ _ => by exact (pe_tup (pa_cons (pv 11) (pa_cons (pv 12) pa_nil))))))) pss_nil)))))))) (pss_one (ps_if (pt_not (pt_val (C8.pe_c L.like hr (by decide) (by rfl) (pa_cons (LamX.pe_lamcall (T := Tq Pt qn) (t := fun E => tCB (rLenO C (spLen C) E0) (tCons (tMake C (spInitX C CG CL) [] E (tCons (tVar 3) (tCons (tVar 4) tNil))) tNil)) (k := 6) (by rfl) mT kT lkT hcT bT scTried rfl (.inl rfl) (tried_gives (hr.mono (by decide)) gW gF kF bF) TB rfl (by rw [hqn]; exact List.mem_singleton.mpr rfl) (fun p hp _ => by rw [List.mem_singleton.mp hp]; exact hqn.symm) (hr.mono (by decide)) (LamX.lamS_by (sc := defScope sLaw) (by decide +kernel)) rfl (fun _ _ _ _ _ => rfl) (fun A2 o2 s2 H2 E2 f2 c2 hr2 => by exact (pe_callB (call_lenO FL hL1 hL2 bL pass0 (hr2.mono (by omega))) (by rfl) T.len PySem.boot_len (pa_cons (pe_make (E := E2) MkG FG (hr2.mono (by omega)) (by rfl) L.G.mgG bG .nil (passes_call (takes_of rfl rfl rfl rfl) (fun _ _ _ _ h => h)) (pa_cons (pv 3) (pa_cons (pv 4) pa_nil))) pa_nil)))) (pa_cons (C8.pe_c L.due hr (by decide) (by rfl) (pa_cons (pv 3) (pa_cons (pv 4) pa_nil))) pa_nil))))) (pss_one (ps_ret pe_bl)) pss_nil))))) (pss_cons (ps_for PassesOwn.never rfl (pi_list (pe_lst (pa_cons (pe_un un_neg pe_int) (pa_cons pe_int (pa_cons pe_int (pa_cons pe_int (pa_cons pe_int (pa_cons (C8.pe_c L.pull hr (by decide) (by rfl) (pa_cons (pv 1) (pa_cons pe_int pa_nil))) (pa_cons (pe_op op_pow pe_int pe_int) pa_nil))))))))) (pg_name (i := 9) scLaw.nd rfl (by first | exact Or.inl rfl | exact Or.inr rfl)) (pss_cons (ps_set (i := 10) scLaw.nd rfl (by first | exact Or.inl rfl | exact Or.inr rfl) (C8.pe_c L.due hr (by decide) (by rfl) (pa_cons pe_int (pa_cons (pe_op op_rep (pe_lst (pa_cons (pe_tup (pa_cons pe_int (pa_cons pe_int pa_nil))) pa_nil)) (pe_callB (call_min2 rfl) (by rfl) L.mmin (by decide +kernel) (pa_cons (pe_callB (call_max2 rfl) (by rfl) L.mmax (by decide +kernel) (pa_cons (pv 9) (pa_cons pe_int pa_nil))) (pa_cons pe_int pa_nil)))) pa_nil)))) (pss_one (ps_if (pt_not (pt_val (C8.pe_c L.like hr (by decide) (by rfl) (pa_cons (LamX.pe_lamcall (T := Tq Pt qn) (t := fun E => tCB (rLenO C (spLen C) E0) (tCons (ClX.tCMeth C (spFull C CG CL) E (tC (.ref C)) (tCons (tVar 9) tNil)) tNil)) (k := 7) (by rfl) mT kT lkT hcT bT scTried rfl (.inl rfl) (tried_gives (hr.mono (by decide)) gW gF kF bF) TB rfl (by rw [hqn]; exact List.mem_singleton.mpr rfl) (fun p hp _ => by rw [List.mem_singleton.mp hp]; exact hqn.symm) (hr.mono (by decide)) (LamX.lamS_by (sc := defScope sLaw) (by decide +kernel)) rfl (fun _ _ _ _ _ => rfl) (fun A2 o2 s2 H2 E2 f2 c2 hr2 => by exact (pe_callB (call_lenO FL hL1 hL2 bL pass0 (hr2.mono (by omega))) (by rfl) T.len PySem.boot_len (pa_cons (ClX.pe_cmeth (E := E2) (pe_glob (v := .ref C) (by rfl) L.G.mgG rfl) L.G.rd cmF FnF (hr2.mono (by omega)) (passes_call (takes_of rfl rfl rfl rfl) (fun _ _ _ _ h => h)) (pa_cons (pv 9) pa_nil)) pa_nil)))) (pa_cons (pv 10) pa_nil))))) (pss_one (ps_ret pe_bl)) pss_nil)))) (pss_one (ps_ret (pe_cmpR (op_eqO FE hE1 hE2 bE pass0 (hr.mono (by decide))) (ClX.pe_cmeth (E := E0) (pe_glob (v := .ref C) (by rfl) L.G.mgG rfl) L.G.rd cmF FnF (hr.mono (by decide)) passN (pa_cons pe_int pa_nil)) (pe_make (E := E0) MkG FG (hr.mono (by decide)) (by rfl) L.G.mgG bG .nil passN (pa_cons pe_int (pa_cons (pe_op op_rep (pe_lst (pa_cons (pe_tup (pa_cons pe_int (pa_cons pe_int pa_nil))) pa_nil)) pe_int) pa_nil))) (nomark _)))))), ?_⟩
    have four : ∀ m : Nat, m ≤ 1000 → m ≤ sizeLine := fun m h => Nat.le_of_lt (small1000 h)
    refine ⟨_, rfl, a, ns, rfl, hS, hln, fun b l H1 s1 nb nl B => ?_⟩
    have tb1 : LamX.Tabs (Tq Pt qn) H1 := LamX.Tabs.ext (fun p hp => by rw [List.mem_singleton.mp hp]; exact LamX.TabS.nil htb) s1
    refine ⟨6, rfl, by decide, by decide, ?_⟩
    refine for_it (walk_range (lo := 0) (n := (6 : Int).toNat)) (fun i σ H' => ∃ v2 v3 v4 v5 v6 v7 v8 v9 v10 v11 v12 : Option V, σ = [some (.ref a), some (.ref b), v2, v3, v4, v5, v6, v7, v8, v9, v10, v11, v12] ∧ BagAt H' b l ns ∧ LamX.Tabs (Tq Pt qn) H')
      ⟨_, _, _, _, _, _, _, _, _, _, _, rfl, B, tb1⟩ (fun _ _ _ _ _ => True.intro) ?_ ?_
    · rintro i x σ H2 H' hi ⟨v2, v3, v4, v5, v6, v7, v8, v9, v10, v11, v12, rfl, B2, tb2⟩ ⟨rfl, rfl⟩
      -- the plan
      refine ⟨fun σ H' => ∃ v2 v5 v6 v7 v8 v9 v10 v11 v12 : Option V, ∃ (sz : Int) (qa : Addr) (ts : Es), σ = [some (.ref a), some (.ref b), v2, some (.int sz), some (.ref qa), v5, v6, v7, v8, v9, v10, v11, v12] ∧ Pr b l Pt qn ns sz qa ts 0 H', ?_, ?_⟩
      · refine ⟨_, rfl, _, rfl, four 2 (by decide), fun tl htl => ?_⟩
        have s3 := same_upd (o := .lst [.int 6, .int 24]) htl
        refine ⟨b, l, tl, ns, _, rfl, B2.same s3, SqL.of upd_same, B2.ne_new htl, by simp, (by show 2 ≤ 1000; decide), fun j v o hj BO => ?_⟩
        obtain ⟨mm, rfl, m1, m2⟩ : ∃ mm : Int, v = .int mm ∧ 6 ≤ mm ∧ mm ≤ 24 := by
          have hm := List.mem_of_getElem? hj
          simp only [List.mem_cons, List.not_mem_nil, or_false] at hm
          rcases hm with rfl | rfl
          · exact ⟨6, rfl, by decide, by decide⟩
          · exact ⟨24, rfl, by decide, by decide⟩
        have B4 := (B2.same s3).upd BO
        have tb4 := tabs_keep (tb2.ext s3) (B2.same s3) (.updb (o := o))
        generalize upd (upd H' tl (.lst [.int 6, .int 24])) b o = H4 at *
        refine ⟨b, l, ns, 4, mm, rfl, B4, by decide, by omega, by omega, fun p q0 n ts H5 kp5 B5 np nq PA hn hl => ?_⟩
        refine ⟨p, _, rfl, SqT.of PA.tp, rfl, _, _, rfl, _, _, rfl, rfl, ?_⟩
        have n1 := PA.n1
        exact ⟨_, _, _, _, _, _, _, _, _, n, q0, ts, rfl, B5, tabs_keep tb4 B4 kp5, PA.ls, PA.ed, by omega, by omega, by omega⟩
      · rintro σ H3 ⟨v2, v5, v6, v7, v8, v9, v10, v11, v12, sz, qa, ts, rfl, R⟩
        -- the steps
        refine ⟨fun σ H' => ∃ v2 v5 v6 v7 v8 v9 v10 v11 v12 : Option V, ∃ (sz : Int) (qa : Addr) (ts : Es), σ = [some (.ref a), some (.ref b), v2, some (.int sz), some (.ref qa), v5, v6, v7, v8, v9, v10, v11, v12] ∧ Pr b l Pt qn ns sz qa ts 15 H', ?_, ?_⟩
        · refine ⟨_, rfl, b, l, ns, 3, rfl, R.bag, by decide, by decide, fun v o v0 v1 BO => ?_⟩
          have R := R.pull BO
          generalize upd H3 b o = H4 at *
          refine ⟨v, rfl, by omega, by omega, ?_⟩
          refine for_it (walk_range (lo := 0) (n := v.toNat)) (fun i σ H' => ∃ v2 v5 v6 v7 v8 v9 v10 v11 v12 : Option V, ∃ (sz : Int) (qa : Addr) (ts : Es), σ = [some (.ref a), some (.ref b), v2, some (.int sz), some (.ref qa), v5, v6, v7, v8, v9, v10, v11, v12] ∧ Pr b l Pt qn ns sz qa ts (5 * i) H')
            ⟨_, _, _, _, _, _, _, _, _, sz, qa, ts, rfl, R⟩ (fun _ _ _ _ _ => True.intro) ?_ ?_
          · clear R
            rintro si x σ H5 H' hsi ⟨v2, v5, v6, v7, v8, v9, v10, v11, v12, sz, qa, ts, rfl, R⟩ ⟨rfl, rfl⟩
            have hsi' : si ≤ 2 := by omega
            -- way, at
            refine ⟨fun σ H' => ∃ v2 v5 v8 v9 v10 v11 v12 : Option V, ∃ (sz : Int) (qa : Addr) (ts : Es) (wy ak : Int), σ = [some (.ref a), some (.ref b), v2, some (.int sz), some (.ref qa), v5, some (.int wy), some (.int ak), v8, v9, v10, v11, v12] ∧ 0 ≤ ak ∧ Pr b l Pt qn ns sz qa ts (5 * si) H', ?_, ?_⟩
            · refine ⟨_, rfl, b, l, ns, 5, rfl, R.bag, by decide, by decide, fun wy o1 w0 w1 BO1 => ?_⟩
              have R := R.pull BO1
              generalize upd H' b o1 = H6 at *
              have hl := R.len
              refine ⟨_, rfl, _, rfl, qa, _, rfl, .inl (SqL.of R.ls), _, _, rfl, rfl, b, l, ns, _, rfl, R.bag, ?_, ?_, fun ak o2 a0 a1 BO2 => ?_⟩
              · show (0 : Int) < ((vsOf ts).length : Int) + 1
                omega
              · show ((vsOf ts).length : Int) + 1 < 2 ^ 100
                rw [vsOf_len]
                omega
              have R := R.pull BO2
              generalize upd H6 b o2 = H7 at *
              refine ⟨four 2 (by decide), fun tp htp => ?_⟩
              have s8 := same_upd (o := .tup [.int wy, .int ak]) htp
              refine ⟨tp, _, rfl, SqT.of upd_same, rfl, _, _, rfl, _, _, rfl, rfl, ?_⟩
              exact ⟨_, _, _, _, _, _, _, sz, qa, ts, wy, ak, rfl, a0, R.same s8⟩
            · clear R
              rintro σ H6 ⟨v2, v5, v8, v9, v10, v11, v12, sz, qa, ts, wy, ak, rfl, a0, R⟩
              -- way 0
              refine ⟨fun σ H' => ∃ v2 v5 v8 v9 v10 v11 v12 : Option V, ∃ (sz : Int) (qa : Addr) (ts : Es) (wy ak : Int), σ = [some (.ref a), some (.ref b), v2, some (.int sz), some (.ref qa), v5, some (.int wy), some (.int ak), v8, v9, v10, v11, v12] ∧ 0 ≤ ak ∧ Pr b l Pt qn ns sz qa ts (5 * si + 1) H', ?_, ?_⟩
              · refine ⟨_, rfl, rfl, _, rfl, ite2 (fun _ => ?_) (fun _ => ?_)⟩
                · refine ⟨_, rfl, b, l, ns, 11, rfl, R.bag, by decide, by decide, fun z o z0 z1 BO => ⟨_, _, rfl, rfl, ?_⟩⟩
                  exact ⟨_, _, _, _, _, _, _, z - 1, qa, ts, wy, ak, rfl, a0, ((R.pull BO).size (by omega) (by omega)).more (by omega)⟩
                · exact ⟨_, _, _, _, _, _, _, sz, qa, ts, wy, ak, rfl, a0, R.more (by omega)⟩
              · clear R
                rintro σ H6 ⟨v2, v5, v8, v9, v10, v11, v12, sz, qa, ts, wy, ak, rfl, a0, R⟩
                have hak : ((ak.toNat : Nat) : Int) = ak := Int.toNat_of_nonneg a0
                -- way 1
                refine ⟨fun σ H' => ∃ v2 v5 v8 v9 v10 v11 v12 : Option V, ∃ (sz : Int) (qa : Addr) (ts : Es) (wy ak : Int), σ = [some (.ref a), some (.ref b), v2, some (.int sz), some (.ref qa), v5, some (.int wy), some (.int ak), v8, v9, v10, v11, v12] ∧ 0 ≤ ak ∧ Pr b l Pt qn ns sz qa ts (5 * si + 2) H', ?_, ?_⟩
                · refine ⟨_, rfl, rfl, _, rfl, ite2 (fun _ => ?_) (fun _ => ?_)⟩
                  · have hl := R.len
                    refine ⟨_, rfl, _, rfl, ak, rfl, qa, _, rfl, SqL.of R.ls, fun p1 hp1 => ?_⟩
                    rw [show cutV (vsOf ts) none (some ak) = vsOf (ts.take ak.toNat) by rw [← hak, cutL, vs_take, Int.toNat_natCast]]
                    have s7 := same_upd (o := .lst (vsOf (ts.take ak.toNat))) hp1
                    have e7 : upd H6 p1 (.lst (vsOf (ts.take ak.toNat))) p1 = some (.lst (vsOf (ts.take ak.toNat))) := upd_same
                    have R := R.same s7
                    generalize upd H6 p1 (.lst (vsOf (ts.take ak.toNat))) = H7 at *
                    refine ⟨_, rfl, _, rfl, _, _, rfl, rfl, ak + 1, rfl, qa, _, rfl, SqL.of R.ls, fun p2 hp2 => ?_⟩
                    rw [show cutV (vsOf ts) (some (ak + 1)) none = vsOf (ts.drop (ak.toNat + 1)) by rw [show ak + 1 = ((ak.toNat + 1 : Nat) : Int) by omega, cutR, vs_drop]]
                    have s8 := same_upd (o := .lst (vsOf (ts.drop (ak.toNat + 1)))) hp2
                    have e8 : upd H7 p2 (.lst (vsOf (ts.drop (ak.toNat + 1)))) p2 = some (.lst (vsOf (ts.drop (ak.toNat + 1)))) := upd_same
                    have R := R.same s8
                    have e7 := s8 _ _ e7
                    generalize upd H7 p2 (.lst (vsOf (ts.drop (ak.toNat + 1)))) = H8 at *
                    refine ⟨p1, p2, _, _, rfl, rfl, e7, e8, ?_, fun p3 hp3 => ?_⟩
                    · rw [vsOf_len, vsOf_len, List.length_take, List.length_drop]
                      exact four _ (by omega)
                    rw [vs_app]
                    refine ⟨_, _, _, _, _, _, _, sz, p3, ts.take ak.toNat ++ ts.drop (ak.toNat + 1), wy, ak, rfl, a0, ((R.same (same_upd hp3)).lists upd_same ?_ ?_)⟩
                    · exact ((R.ed.take _).app (R.ed.drop _)).same (same_upd hp3)
                    · rw [List.length_append, List.length_take, List.length_drop]
                      omega
                  · exact ⟨_, _, _, _, _, _, _, sz, qa, ts, wy, ak, rfl, a0, R.more (by omega)⟩
                · clear R
                  clear hak a0
                  rintro σ H6 ⟨v2, v5, v8, v9, v10, v11, v12, sz, qa, ts, wy, ak, rfl, a0, R⟩
                  have hak : ((ak.toNat : Nat) : Int) = ak := Int.toNat_of_nonneg a0
                  -- way 2
                  refine ⟨fun σ H' => ∃ v2 v5 v8 v9 v10 v11 v12 : Option V, ∃ (sz : Int) (qa : Addr) (ts : Es) (wy ak : Int), σ = [some (.ref a), some (.ref b), v2, some (.int sz), some (.ref qa), v5, some (.int wy), some (.int ak), v8, v9, v10, v11, v12] ∧ 0 ≤ ak ∧ Pr b l Pt qn ns sz qa ts (5 * si + 3) H', ?_, ?_⟩
                  · refine ⟨_, rfl, rfl, _, rfl, ite2 (fun _ => ?_) (fun _ => ?_)⟩
                    · have hl := R.len
                      -- odd
                      refine ⟨_, rfl, 1, rfl, _, rfl, _, _, rfl, rfl, ⟨by decide, by decide, by decide⟩, four 3 (by decide), fun t1 ht1 => ?_⟩
                      have s7 := same_upd (o := .lst [.int (-1), .int sz, .int ((10 : Int) ^ (20 : Int).toNat)]) ht1
                      have e7 : upd H6 t1 (.lst [.int (-1), .int sz, .int ((10 : Int) ^ (20 : Int).toNat)]) t1 = some (.lst [.int (-1), .int sz, .int ((10 : Int) ^ (20 : Int).toNat)]) := upd_same
                      have t1b := R.bag.ne_new ht1
                      have R := R.same s7
                      generalize upd H6 t1 (.lst [.int (-1), .int sz, .int ((10 : Int) ^ (20 : Int).toNat)]) = H7 at *
                      refine ⟨b, l, t1, ns, _, rfl, R.bag, SqL.of e7, t1b, by simp, (by show 3 ≤ 1000; decide), fun j1 v1 o1 hj1 BO1 => ?_⟩
                      obtain ⟨odd, rfl⟩ : ∃ odd : Int, v1 = .int odd := by
                        have hm := List.mem_of_getElem? hj1
                        simp only [List.mem_cons, List.not_mem_nil, or_false] at hm
                        rcases hm with rfl | rfl | rfl
                        · exact ⟨_, rfl⟩
                        · exact ⟨_, rfl⟩
                        · exact ⟨_, rfl⟩
                      have R := R.pull BO1
                      generalize upd H7 b o1 = H8 at *
                      -- pairs[:at]
                      refine ⟨_, rfl, _, rfl, ak, rfl, qa, _, rfl, SqL.of R.ls, fun p1 hp1 => ?_⟩
                      rw [show cutV (vsOf ts) none (some ak) = vsOf (ts.take ak.toNat) by rw [← hak, cutL, vs_take, Int.toNat_natCast]]
                      have s9 := same_upd (o := .lst (vsOf (ts.take ak.toNat))) hp1
                      have e9 : upd H8 p1 (.lst (vsOf (ts.take ak.toNat))) p1 = some (.lst (vsOf (ts.take ak.toNat))) := upd_same
                      have p1b := R.bag.ne_new hp1
                      have R := R.same s9
                      generalize upd H8 p1 (.lst (vsOf (ts.take ak.toNat))) = H9 at *
                      -- the two pairs
                      refine ⟨_, rfl, _, rfl, four 2 (by decide), fun u1 hu1 => ?_⟩
                      have s10 := same_upd (o := .tup [.int odd, .int 0]) hu1
                      have f1 : upd H9 u1 (.tup [.int odd, .int 0]) u1 = some (.tup [.int odd, .int 0]) := upd_same
                      have R := R.same s10
                      have e9 := s10 _ _ e9
                      generalize upd H9 u1 (.tup [.int odd, .int 0]) = H10 at *
                      refine ⟨_, rfl, four 2 (by decide), fun u2 hu2 => ?_⟩
                      have s11 := same_upd (o := .tup [.int 0, .int odd]) hu2
                      have f2 : upd H10 u2 (.tup [.int 0, .int odd]) u2 = some (.tup [.int 0, .int odd]) := upd_same
                      have R := R.same s11
                      have e9 := s11 _ _ e9
                      have f1 := s11 _ _ f1
                      generalize upd H10 u2 (.tup [.int 0, .int odd]) = H11 at *
                      refine ⟨four 2 (by decide), fun t2 ht2 => ?_⟩
                      have s12 := same_upd (o := .lst [.ref u1, .ref u2]) ht2
                      have e12 : upd H11 t2 (.lst [.ref u1, .ref u2]) t2 = some (.lst [.ref u1, .ref u2]) := upd_same
                      have t2b := R.bag.ne_new ht2
                      have R := R.same s12
                      have e9 := s12 _ _ e9
                      have f1 := s12 _ _ f1
                      have f2 := s12 _ _ f2
                      generalize upd H11 t2 (.lst [.ref u1, .ref u2]) = H12 at *
                      refine ⟨b, l, t2, ns, _, rfl, R.bag, SqL.of e12, t2b, by simp, (by show 2 ≤ 1000; decide), fun j2 v2 o2 hj2 BO2 => ?_⟩
                      obtain ⟨ne, rfl, hne⟩ : ∃ ne : Addr × Int × Int, v2 = .ref ne.1 ∧ H12 ne.1 = some (.tup [.int ne.2.1, .int ne.2.2]) := by
                        have hm := List.mem_of_getElem? hj2
                        simp only [List.mem_cons, List.not_mem_nil, or_false] at hm
                        rcases hm with rfl | rfl
                        · exact ⟨(u1, odd, 0), rfl, f1⟩
                        · exact ⟨(u2, 0, odd), rfl, f2⟩
                      have e9 : upd H12 b o2 p1 = some (.lst (vsOf (ts.take ak.toNat))) := by
                        rw [upd_ne p1b]
                        exact e9
                      have hne : upd H12 b o2 ne.1 = some (.tup [.int ne.2.1, .int ne.2.2]) := by
                        rw [upd_ne (R.bag.ne_tup hne)]
                        exact hne
                      have R := R.pull BO2
                      generalize upd H12 b o2 = H13 at *
                      refine ⟨four 1 (by decide), fun l2 hl2 => ?_⟩
                      have s14 := same_upd (o := .lst [.ref ne.1]) hl2
                      have e14 : upd H13 l2 (.lst [.ref ne.1]) l2 = some (.lst (vsOf [ne])) := upd_same
                      have R := R.same s14
                      have e9 := s14 _ _ e9
                      have hne := s14 _ _ hne
                      generalize upd H13 l2 (.lst [.ref ne.1]) = H14 at *
                      refine ⟨p1, l2, _, vsOf [ne], rfl, rfl, e9, e14, ?_, fun p3 hp3 => ?_⟩
                      · rw [vsOf_len, vsOf_len, List.length_take]
                        exact four _ (by simp; omega)
                      rw [vs_app]
                      have s15 := same_upd (o := .lst (vsOf (ts.take ak.toNat ++ [ne]))) hp3
                      have e15 : upd H14 p3 (.lst (vsOf (ts.take ak.toNat ++ [ne]))) p3 = some (.lst (vsOf (ts.take ak.toNat ++ [ne]))) := upd_same
                      have R := R.same s15
                      have hne := s15 _ _ hne
                      generalize upd H14 p3 (.lst (vsOf (ts.take ak.toNat ++ [ne]))) = H15 at *
                      refine ⟨_, rfl, _, rfl, ak, rfl, qa, _, rfl, SqL.of R.ls, fun p4 hp4 => ?_⟩
                      rw [show cutV (vsOf ts) (some ak) none = vsOf (ts.drop ak.toNat) by rw [← hak, cutR, vs_drop, Int.toNat_natCast]]
                      have s16 := same_upd (o := .lst (vsOf (ts.drop ak.toNat))) hp4
                      have e16 : upd H15 p4 (.lst (vsOf (ts.drop ak.toNat))) p4 = some (.lst (vsOf (ts.drop ak.toNat))) := upd_same
                      have R := R.same s16
                      have hne := s16 _ _ hne
                      have e15 := s16 _ _ e15
                      generalize upd H15 p4 (.lst (vsOf (ts.drop ak.toNat))) = H16 at *
                      refine ⟨p3, p4, _, _, rfl, rfl, e15, e16, ?_, fun p5 hp5 => ?_⟩
                      · rw [vsOf_len, vsOf_len, List.length_append, List.length_take, List.length_drop]
                        exact four _ (by simp; omega)
                      rw [vs_app]
                      refine ⟨_, _, _, _, _, _, _, sz, p5, ts.take ak.toNat ++ [ne] ++ ts.drop ak.toNat, wy, ak, rfl, a0, ((R.same (same_upd hp5)).lists upd_same ?_ ?_)⟩
                      · exact (((R.ed.take _).app (.one hne)).app (R.ed.drop _)).same (same_upd hp5)
                      · rw [List.length_append, List.length_append, List.length_take, List.length_drop]
                        simp
                        omega
                    · exact ⟨_, _, _, _, _, _, _, sz, qa, ts, wy, ak, rfl, a0, R.more (by omega)⟩
                  · clear R
                    clear hak a0
                    rintro σ H6 ⟨v2, v5, v8, v9, v10, v11, v12, sz, qa, ts, wy, ak, rfl, a0, R⟩
                    -- way 3
                    refine ⟨fun σ H' => ∃ v2 v5 v8 v9 v10 v11 v12 : Option V, ∃ (sz : Int) (qa : Addr) (ts : Es) (wy ak : Int), σ = [some (.ref a), some (.ref b), v2, some (.int sz), some (.ref qa), v5, some (.int wy), some (.int ak), v8, v9, v10, v11, v12] ∧ 0 ≤ ak ∧ Pr b l Pt qn ns sz qa ts (5 * si + 4) H', ?_, ?_⟩
                    · refine ⟨_, rfl, rfl, _, rfl, ite2 (fun _ => ?_) (fun _ => ?_)⟩
                      · have hl := R.len
                        refine ⟨_, rfl, qa, 24, _, rfl, rfl, R.ls, by decide, by decide, ?_, fun p1 hp1 => ?_⟩
                        · rw [vsOf_len]
                          exact four _ (by show ts.length * 24 ≤ 1000; omega)
                        rw [vs_flat]
                        have s7 := same_upd (o := .lst (vsOf (List.replicate (24 : Int).toNat ts).flatten)) hp1
                        have e7 : upd H6 p1 (.lst (vsOf (List.replicate (24 : Int).toNat ts).flatten)) p1 = some (.lst (vsOf (List.replicate (24 : Int).toNat ts).flatten)) := upd_same
                        have p1b := R.bag.ne_new hp1
                        have R := R.same s7
                        generalize upd H6 p1 (.lst (vsOf (List.replicate (24 : Int).toNat ts).flatten)) = H7 at *
                        refine ⟨_, rfl, b, l, ns, 4, rfl, R.bag, by decide, by decide, fun v o v0 v1 BO => ⟨_, _, rfl, rfl, 23 + v, rfl, ?_⟩⟩
                        have e7 : upd H7 b o p1 = some (.lst (vsOf (List.replicate (24 : Int).toNat ts).flatten)) := by
                          rw [upd_ne p1b]
                          exact e7
                        have R := R.pull BO
                        generalize upd H7 b o = H8 at *
                        refine ⟨p1, _, rfl, SqL.of e7, fun p2 hp2 => ?_⟩
                        rw [show cutV (vsOf (List.replicate (24 : Int).toNat ts).flatten) none (some (23 + v)) = vsOf ((List.replicate (24 : Int).toNat ts).flatten.take (23 + v).toNat) by rw [show (23 + v) = (((23 + v).toNat : Nat) : Int) by omega, cutL, vs_take, Int.toNat_natCast]]
                        refine ⟨_, _, _, _, _, _, _, sz, p2, (List.replicate (24 : Int).toNat ts).flatten.take (23 + v).toNat, wy, ak, rfl, a0, ((R.same (same_upd hp2)).lists upd_same ?_ ?_)⟩
                        · exact ((R.ed.flat _).take _).same (same_upd hp2)
                        · rw [List.length_take]
                          omega
                      · exact ⟨_, _, _, _, _, _, _, sz, qa, ts, wy, ak, rfl, a0, R.more (by omega)⟩
                    · clear R
                      clear a0
                      rintro σ H6 ⟨v2, v5, v8, v9, v10, v11, v12, sz, qa, ts, wy, ak, rfl, a0, R⟩
                      -- way 4
                      have hl := R.len
                      refine ⟨_, rfl, rfl, _, rfl, ite2 (fun _ => ?_) (fun _ => ?_)⟩
                      · refine ⟨_, rfl, qa, vsOf ts, SqL, rfl, .inl rfl, SqL.of R.ls, fun J w D hD => ?_⟩
                        refine lc_it w (fun i H' => ∃ us : Es, us.length ≤ i ∧ Same H6 H' ∧ H' D = some (.lst (vsOf us)) ∧ Ed H' us) ⟨[], Nat.le_refl _, same_upd hD, upd_same, .nil⟩ (fun i H' _ p => by obtain ⟨us, _, s, _⟩ := p; exact SqL.of (s _ _ R.ls)) ?_ ?_
                        · rintro t x H7 H' ht ⟨us, hus, sm, eD, ed⟩ ⟨rfl, gx⟩
                          obtain ⟨ee, hee, rfl⟩ := vsOf_at gx
                          refine ⟨ee.1, _, rfl, SqT.of (sm _ _ (R.ed ee (List.mem_of_getElem? hee))), rfl, _, _, rfl, _, _, rfl, rfl, rfl, ?_⟩
                          refine ⟨_, rfl, _, rfl, _, _, rfl, rfl, (by show (0 : Int) < 3; decide), rfl, _, rfl, ite2 (fun _ => ?_) (fun _ => ?_)⟩
                          · refine ⟨_, rfl, _, rfl, four 2 (by decide), fun tt htt => ?_⟩
                            have s8 := same_upd (o := .tup [.int ee.2.1, .int ee.2.2]) htt
                            have tD : D ≠ tt := ne_of_none eD htt
                            rw [vsOf_len] at ht
                            refine ⟨_, s8 _ _ eD, ?_, us ++ [(tt, ee.2)], ?_, ?_, ?_, ?_⟩
                            · rw [vsOf_len]
                              exact small1000 (by omega)
                            · rw [List.length_append]
                              simp
                              omega
                            · exact same_at (sm.trans s8) hD
                            · rw [upd_same]
                              unfold vsOf
                              rw [List.map_append]
                              rfl
                            · refine Ed.app (fun x hx => ?_) (.one ?_)
                              · have h := s8 _ _ (ed x hx)
                                rw [upd_ne (fun z => ?_)]
                                · exact h
                                · rw [z, s8 _ _ eD] at h
                                  cases h
                              · rw [upd_ne (Ne.symm tD), upd_same]
                          · exact ⟨us, by omega, sm, eD, ed⟩
                        · rintro H7 ⟨us, hus, sm, eD, ed⟩
                          rw [vsOf_len] at hus
                          exact ⟨_, _, _, _, _, _, _, _, _, sz, D, us, rfl, ((R.same sm).lists eD ed (by omega))⟩
                      · exact ⟨_, _, _, _, _, _, _, _, _, sz, qa, ts, rfl, R.more (by omega)⟩
          · clear R
            rintro σ H5 ⟨v2, v5, v6, v7, v8, v9, v10, v11, v12, sz, qa, ts, rfl, R⟩
            exact ⟨_, _, _, _, _, _, _, _, _, sz, qa, ts, rfl, R.more (by omega)⟩
        · clear R
          rintro σ H4 ⟨v2, v5, v6, v7, v8, v9, v10, v11, v12, sz, qa, ts, rfl, R⟩
          -- the word, and the law's own
          refine ⟨R.tab, fun H5 eN T5 => ?_⟩
          have R := R.extN eN T5
          have hl := R.len
          refine tried_graph EG EL rfl rfl R.ls R.ed (by omega) fun p H6 s6 e6 => ?_
          have R := R.same s6
          refine ⟨_, rfl, _, rfl, sz, qa, ts, rfl, R.ls, R.ed, by omega, fun p2 H7 s7 np2 e7 => ?_⟩
          refine ⟨_, _, rfl, lk_word (k := 3) (s7 _ _ e6) e7, fun Hc sc => ⟨true, rfl, if_f rfl ?_⟩⟩
          have R := (R.same s7).same sc
          exact ⟨_, _, _, _, _, _, _, _, _, _, _, rfl, R.bag, R.tab⟩
    · rintro σ H2 ⟨v2, v3, v4, v5, v6, v7, v8, v9, v10, v11, v12, rfl, B2, tb2⟩
      -- full
      have big : (10 : Int) ^ (25 : Int).toNat = 10000000000000000000000000 := by decide +kernel
      refine ⟨1, rfl, _, rfl, b, l, ns, 30, rfl, B2, by decide, by decide, fun v o v0 v1 BO => ?_⟩
      have B3 := B2.upd BO
      have tb3 := tabs_keep tb2 B2 (.updb (o := o))
      generalize upd H2 b o = H3 at *
      refine ⟨_, _, rfl, rfl, ⟨by decide, by decide, by decide⟩, four 7 (by decide), fun ml hml => ?_⟩
      have s4 := same_upd (o := .lst [(fun i : Int => V.int (-i)) 1, .int 0, .int 1, .int 24, .int 25, .int v, (fun i j : Int => V.int (i ^ j.toNat)) 10 25]) hml
      have e4 : upd H3 ml (.lst [(fun i : Int => V.int (-i)) 1, .int 0, .int 1, .int 24, .int 25, .int v, (fun i j : Int => V.int (i ^ j.toNat)) 10 25]) ml = some (.lst ([-1, 0, 1, 24, 25, v, (10 : Int) ^ (25 : Int).toNat].map V.int)) := upd_same
      have B4 := B3.same s4
      have tb4 := tb3.ext s4
      have mlb : ml ≠ b := B3.ne_new hml
      generalize upd H3 ml (.lst [(fun i : Int => V.int (-i)) 1, .int 0, .int 1, .int 24, .int 25, .int v, (fun i j : Int => V.int (i ^ j.toNat)) 10 25]) = H4 at *
      generalize [-1, 0, 1, 24, 25, v, (10 : Int) ^ (25 : Int).toNat] = ms at *
      refine ⟨ml, rfl, ⟨_, SqL.of e4⟩, ?_⟩
      refine for_it (walk_list (xs := ms.map V.int)) (fun i σ H' => ∃ v2 v3 v4 v5 v6 v7 v8 v9 v10 v11 v12 : Option V, σ = [some (.ref a), some (.ref b), v2, v3, v4, v5, v6, v7, v8, v9, v10, v11, v12] ∧ BagAt H' b l ns ∧ LamX.Tabs (Tq Pt qn) H' ∧ H' ml = some (.lst (ms.map V.int)))
        ⟨_, _, _, _, _, _, _, _, _, _, _, rfl, B4, tb4, e4⟩ (fun i σ H' _ p => by obtain ⟨v2, v3, v4, v5, v6, v7, v8, v9, v10, v11, v12, _, _, _, e⟩ := p; exact SqL.of e) ?_ ?_
      · clear B4 tb4 e4 s4 mlb
        rintro i x σ H5 H' hi ⟨v2, v3, v4, v5, v6, v7, v8, v9, v10, v11, v12, rfl, B5, tb5, e5⟩ ⟨rfl, hx⟩
        rw [List.getElem?_map] at hx
        obtain ⟨cc, _, rfl⟩ := Option.map_eq_some_iff.mp hx
        -- due
        refine ⟨four 2 (by decide), fun t ht => ?_⟩
        have s6 := same_upd (o := .tup [.int 0, .int 0]) ht
        have f6 : upd H' t (.tup [.int 0, .int 0]) t = some (.tup [.int 0, .int 0]) := upd_same
        have B6 := B5.same s6
        have tb6 := tb5.ext s6
        have e6 := s6 _ _ e5
        generalize upd H' t (.tup [.int 0, .int 0]) = H6 at *
        refine ⟨four 1 (by decide), fun l1 hl1 => ?_⟩
        have s7 := same_upd (o := .lst [.ref t]) hl1
        have g7 : upd H6 l1 (.lst [.ref t]) l1 = some (.lst [.ref t]) := upd_same
        have B7 := B6.same s7
        have tb7 := tb6.ext s7
        have e7 := s7 _ _ e6
        have f7 := s7 _ _ f6
        generalize upd H6 l1 (.lst [.ref t]) = H7 at *
        have gg := due_fullc cc
        refine ⟨_, rfl, cc, 0, rfl, _, 25, rfl, ?_⟩
        obtain ⟨mm, hmm⟩ : ∃ mm : Int, (if 25 < (if 0 > cc then 0 else cc) then 25 else (if 0 > cc then 0 else cc)) = mm := ⟨_, rfl⟩
        have mr : 0 ≤ mm ∧ mm ≤ 25 := by
          rw [← hmm]
          constructor <;> (split <;> split at * <;> omega)
        rw [hmm] at gg
        rw [hmm]
        clear hmm
        refine ⟨l1, mm, _, rfl, rfl, g7, by omega, by omega, ?_, fun e he => ?_⟩
        · show 1 * mm.toNat ≤ sizeLine
          exact four _ (by omega)
        rw [vs_rep]
        have s8 := same_upd (o := .lst (vsOf (List.replicate mm.toNat (t, (0 : Int), (0 : Int))))) he
        have ee : upd H7 e (.lst (vsOf (List.replicate mm.toNat (t, (0 : Int), (0 : Int))))) e = some (.lst (vsOf (List.replicate mm.toNat (t, (0 : Int), (0 : Int))))) := upd_same
        have et := s8 _ _ f7
        have B8 := B7.same s8
        have tb8 := tb7.ext s8
        have e8 := s8 _ _ e7
        generalize upd H7 e (.lst (vsOf (List.replicate mm.toNat (t, (0 : Int), (0 : Int))))) = H8 at *
        refine ⟨1, e, _, rfl, ee, fun x hx => ?_, ?_, fun p H9 s9 np e9 => ?_⟩
        · rw [List.eq_of_mem_replicate hx]
          exact et
        · rw [List.length_replicate]
          omega
        rw [ps_rep, gg] at e9
        have B9 := B8.same s9
        have tb9 := tb8.ext s9
        have e10 := s9 _ _ e8
        refine ⟨tb9, fun Ha eN T5 => ?_⟩
        have Ba := B9.extN eN
        have ea := eN _ _ e10 (fun ps z => by cases z)
        have ep := eN _ _ e9 (fun ps z => by cases z)
        refine tried_full EG EL rfl fun p2 Hb sb eb => ?_
        refine ⟨_, rfl, _, _, rfl, lk_word (k := 3) eb (sb _ _ ep), fun Hc sc => ⟨true, rfl, if_f rfl ?_⟩⟩
        exact ⟨_, _, _, _, _, _, _, _, _, _, _, rfl, (Ba.same sb).same sc, (T5.ext sb).ext sc, sc _ _ (sb _ _ ea)⟩
      · rintro σ H5 ⟨v2, v3, v4, v5, v6, v7, v8, v9, v10, v11, v12, rfl, B5, tb5, e5⟩
        clear B5 tb5 e5
        -- the two graphs
        refine ⟨rfl, 3, rfl, fun z => absurd z (by decide), fun z => absurd z (by decide), fun _ _ g us H6 s6 ng hus GA => ?_⟩
        refine ⟨four 2 (by decide), fun t ht => ?_⟩
        have s7 := same_upd (o := .tup [.int 0, .int 0]) ht
        have et : upd H6 t (.tup [.int 0, .int 0]) t = some (.tup [.int 0, .int 0]) := upd_same
        have GA := GA.same s7
        generalize upd H6 t (.tup [.int 0, .int 0]) = H7 at *
        refine ⟨four 1 (by decide), fun l1 hl1 => ?_⟩
        have s8 := same_upd (o := .lst [.ref t]) hl1
        have g8 : upd H7 l1 (.lst [.ref t]) l1 = some (.lst [.ref t]) := upd_same
        have et := s8 _ _ et
        have GA := GA.same s8
        generalize upd H7 l1 (.lst [.ref t]) = H8 at *
        refine ⟨l1, 3, _, rfl, rfl, g8, by decide, by decide, four 3 (by decide), fun e he => ?_⟩
        rw [vs_rep]
        have s9 := same_upd (o := .lst (vsOf (List.replicate (3 : Int).toNat (t, (0 : Int), (0 : Int))))) he
        have ee : upd H8 e (.lst (vsOf (List.replicate (3 : Int).toNat (t, (0 : Int), (0 : Int))))) e = some (.lst (vsOf (List.replicate (3 : Int).toNat (t, (0 : Int), (0 : Int))))) := upd_same
        have et := s9 _ _ et
        have GA := GA.same s9
        generalize upd H8 e (.lst (vsOf (List.replicate (3 : Int).toNat (t, (0 : Int), (0 : Int))))) = H9 at *
        intro g2 dx hg hdx nex
        have s10 := make_same (C := C) hg hdx nex
        have ed : Ed (upd (upd H9 dx (.own g2)) g2 (.ins C dx [])) (List.replicate (3 : Int).toNat (t, (0 : Int), (0 : Int))) := fun x hx => by
          rw [List.eq_of_mem_replicate hx]
          exact s10 _ _ et
        have df := due_full (c := (3 : Int).toNat) (by decide) (by decide)
        refine ⟨g2, dx, e, 1, _, rfl, upd_same, s10 _ _ ee, ed, by rw [List.length_replicate]; decide, fun k hk => ?_, fun k hk => ?_, fun k hk us2 Hf hus2 kp GB => ⟨rfl, ?_⟩⟩
        · rw [ps_rep, df] at hk
          exact absurd (congrArg Prod.fst hk) ne_ig
        · rw [ps_rep, df] at hk
          exact absurd (congrArg Prod.fst hk) ne_le
        · rw [ps_rep] at hus2
          have GA := GA.same (fun a o ea => kp a o (ne_of_none ea hg) (s10 _ _ ea))
          obtain ⟨dxa, ta, ha, _⟩ := GA.ob
          obtain ⟨dxb, tb, hb, _⟩ := GB.ob
          refine ⟨g, g2, dxa, dxb, _, _, rfl, rfl, ha, hb, g, 1, us, _, rfl, GA, .inl ⟨g2, 1, us2, rfl, GB, _, rfl, ?_⟩⟩
          rw [hus, hus2, decide_eq_true rfl, decide_eq_true rfl]
          exact q _
end
end Lw
set_option Elab.async false
set_option linter.all false
set_option maxRecDepth 100000
namespace Lw
open PySem L2
theorem exm_own {K : PySem.W.Frag} {C S : Addr} (h1 : PySem.W.subIn K (.ref S) (.type "BaseException") = some true) (h2 : PySem.W.isClsIn K S = true) (h3 : PySem.W.typeIn K (.ref S) = some (.type "type")) (h4 : PySem.W.subIn K (.ref C) (.ref S) = some true) :
    PySem.W.exmOne K (.ref C) (.ref S) = some true := by
  have e1 : (PySem.W.subIn K (.ref S) (.type "BaseException") == some true) = true := by rw [h1] <;> rfl
  have e2 : ((PySem.W.clsIn K S).isSome && PySem.W.typeIn K (.ref S) == some (.type "type")) = true := by
    have h2' : (PySem.W.clsIn K S).isSome = true := h2
    rw [h2', h3] <;> rfl
  show (if (PySem.W.subIn K (.ref S) (.type "BaseException") == some true) = true then (if ((PySem.W.clsIn K S).isSome && PySem.W.typeIn K (.ref S) == some (.type "type")) = true then PySem.W.subIn K (.ref C) (.ref S) else none) else none) = some true
  rw [if_pos e1, if_pos e2]
  exact h4
theorem hd_at {K : PySem.W.Frag} {c P : Addr} (e : PySem.W.codeHdIn K c P = true) : ∃ (e : Value) (dd : Option Addr) (vs : Array Value) (sl : Array (Option Value)), K.lookup c = some ⟨e, dd, .fields vs, sl⟩ ∧ vs[11]? = some (.ref P) := by
  unfold PySem.W.codeHdIn at e
  split at e
  · rename_i vs _ hk
    simp only [Bool.and_eq_true] at e
    obtain ⟨⟨⟨⟨⟨e1, _⟩, _⟩, _⟩, _⟩, _⟩ := e
    split at e1
    · rename_i P' h11
      have hP : P' = P := beq_iff_eq.mp e1
      subst hP
      exact ⟨_, _, _, _, hk, h11⟩
    · cases e1
  · cases e
theorem kit_no {K : PySem.W.Frag} {C : Addr} {T : String} (h1 : PySem.W.isClsIn K C = true) (h2 : PySem.W.typeIn K (.ref C) = some (.type "type")) (h3 : PySem.W.subIn K (.type T) (.ref C) = some false) : PySem.W.kitOne K (.type T) (.ref C) = some false := by
  have e1 : ((PySem.W.clsIn K C).isSome && PySem.W.typeIn K (.ref C) == some (.type "type")) = true := by
    have h1' : (PySem.W.clsIn K C).isSome = true := h1
    rw [h1', h2]
    rfl
  show (if (Value.type T == Value.ref C) = true then some true else if ((PySem.W.clsIn K C).isSome && PySem.W.typeIn K (.ref C) == some (.type "type")) = true then PySem.W.subIn K (.type T) (.ref C) else none) = some false
  rw [if_neg (show ¬ ((Value.type T == Value.ref C) = true) from Bool.false_ne_true), if_pos e1]
  exact h3
theorem kit_me {K : PySem.W.Frag} {C : Addr} : PySem.W.kitOne K (.ref C) (.ref C) = some true := by
  unfold PySem.W.kitOne
  simp
set_option maxHeartbeats 4000000 in
theorem all_mk {l : PySem.W.OpenLaw} {w : World} {K : PySem.W.Frag} {h : Heap} {mg : Str → Option Value} {fa C f_bag f_pull f_of f_plan f_like f_field f_tried CW TJ f_win CInvalidGraph f_InvalidGraph CLimitExceeded f_LimitExceeded f_check f_init p_full f_full f_len f_eq f_due f_law cW Pt : Addr} (X : K.In h) (G : h.Ns mainGlobals mg) (hfa : mg "law" = some (.ref fa)) (own : LamX.OwnTab K fa h)
    {t8 t24 : Tok}
    {od_bag an_bag : Option Addr} {sl_bag : Array (Option Value)} {oc_bag kV_bag dc_bag pm_bag cd_bag ct_bag : Value}
    {od_pull an_pull : Option Addr} {sl_pull : Array (Option Value)} {oc_pull kV_pull dc_pull pm_pull cd_pull ct_pull : Value}
    {od_of an_of : Option Addr} {sl_of : Array (Option Value)} {oc_of kV_of dc_of pm_of cd_of ct_of : Value}
    {od_plan an_plan : Option Addr} {sl_plan : Array (Option Value)} {oc_plan kV_plan dc_plan pm_plan cd_plan ct_plan : Value}
    {od_like an_like : Option Addr} {sl_like : Array (Option Value)} {oc_like kV_like dc_like pm_like cd_like ct_like : Value}
    {od_field an_field : Option Addr} {sl_field : Array (Option Value)} {oc_field kV_field dc_field pm_field cd_field ct_field : Value}
    {od_tried an_tried : Option Addr} {sl_tried : Array (Option Value)} {oc_tried kV_tried dc_tried pm_tried cd_tried ct_tried : Value}
    {od_TJ : Option Addr} {sl_TJ : Array (Option Value)} {oc_TJ : Value} {n_TJ : Nat} {tj1 tj2 : Tok}
    {od_win an_win : Option Addr} {sl_win : Array (Option Value)} {oc_win kV_win dc_win pm_win cd_win ct_win : Value}
    {nm_InvalidGraph qc_InvalidGraph : Str} {N_InvalidGraph : Addr} {bs_InvalidGraph bm_InvalidGraph : List Value} {sn_InvalidGraph : List Str} {su_InvalidGraph : List Value} {ab_InvalidGraph : Bool} {co_InvalidGraph : Option Bool} {dd_InvalidGraph : Option Addr} {m0_InvalidGraph m1_InvalidGraph m2_InvalidGraph m3_InvalidGraph m5_InvalidGraph : Option Value}
    {od_InvalidGraph an_InvalidGraph : Option Addr} {sl_InvalidGraph : Array (Option Value)} {oc_InvalidGraph kV_InvalidGraph dc_InvalidGraph pm_InvalidGraph cd_InvalidGraph ct_InvalidGraph : Value}
    {nm_LimitExceeded qc_LimitExceeded : Str} {N_LimitExceeded : Addr} {bs_LimitExceeded bm_LimitExceeded : List Value} {sn_LimitExceeded : List Str} {su_LimitExceeded : List Value} {ab_LimitExceeded : Bool} {co_LimitExceeded : Option Bool} {dd_LimitExceeded : Option Addr} {m0_LimitExceeded m1_LimitExceeded m2_LimitExceeded m3_LimitExceeded m5_LimitExceeded : Option Value}
    {od_LimitExceeded an_LimitExceeded : Option Addr} {sl_LimitExceeded : Array (Option Value)} {oc_LimitExceeded kV_LimitExceeded dc_LimitExceeded pm_LimitExceeded cd_LimitExceeded ct_LimitExceeded : Value}
    {od_check an_check : Option Addr} {sl_check : Array (Option Value)} {oc_check kV_check dc_check pm_check cd_check ct_check : Value}
    {od_init an_init : Option Addr} {sl_init : Array (Option Value)} {oc_init kV_init dc_init pm_init cd_init ct_init : Value}
    {re_full : List Value}
    {od_full an_full : Option Addr} {sl_full : Array (Option Value)} {oc_full kV_full dc_full pm_full cd_full ct_full : Value}
    {od_len an_len : Option Addr} {sl_len : Array (Option Value)} {oc_len kV_len dc_len pm_len cd_len ct_len : Value}
    {od_eq an_eq : Option Addr} {sl_eq : Array (Option Value)} {oc_eq kV_eq dc_eq pm_eq cd_eq ct_eq : Value}
    {od_due an_due : Option Addr} {sl_due : Array (Option Value)} {oc_due kV_due dc_due pm_due cd_due ct_due : Value}
    {od_law an_law : Option Addr} {sl_law : Array (Option Value)} {oc_law kV_law dc_law pm_law  ct_law : Value}
    (z_len : PySem.W.nsIn K mainGlobals "len" = some none)
    (z_list : PySem.W.nsIn K mainGlobals "list" = some none)
    (z_tuple : PySem.W.nsIn K mainGlobals "tuple" = some none)
    (z_bool : PySem.W.nsIn K mainGlobals "bool" = some none)
    (z_int : PySem.W.nsIn K mainGlobals "int" = some none)
    (z_str : PySem.W.nsIn K mainGlobals "str" = some none)
    (z_isinstance : PySem.W.nsIn K mainGlobals "isinstance" = some none)
    (z_all : PySem.W.nsIn K mainGlobals "all" = some none)
    (z_zip : PySem.W.nsIn K mainGlobals "zip" = some none)
    (z_range : PySem.W.nsIn K mainGlobals "range" = some none)
    (z_ValueError : PySem.W.nsIn K mainGlobals "ValueError" = some none)
    (z_enumerate : PySem.W.nsIn K mainGlobals "enumerate" = some none)
    (z_min : PySem.W.nsIn K mainGlobals "min" = some none)
    (z_max : PySem.W.nsIn K mainGlobals "max" = some none)
    (z_set : PySem.W.nsIn K mainGlobals "set" = some none)
    (aC : PySem.W.nsIn K mainGlobals "Graph" = some (some (.ref C)))
    (gpg : PySem.W.plainGet K C Str.empty = true)
    (ghd : PySem.W.hasDictIn K C = true)
    (gpo : PySem.W.plainOver K C = true)
    (gsa : PySem.W.findIn K (.ref C) "__setattr__" = some (some (.builtin "object.__setattr__")))
    (gmk : PySem.W.makesIn K C = true)
    (gkc : PySem.W.keepIn K (.ref C) = true)
    (gnS : PySem.W.findIn K (.ref C) "state_count" = some none)
    (gnE : PySem.W.findIn K (.ref C) "edge_pairs" = some none)
    (grd : PySem.W.readsIn K C (.type "type") = true)
    (gga : PySem.W.specialIn K (.ref C) "__getattribute__" = some (some (.builtin "type.__getattribute__")))
    (gv8 : PySem.W.findCls K (.ref C) (.type "type") "MAX_STATES" = some (.val (.int 8 t8)))
    (gv24 : PySem.W.findCls K (.ref C) (.type "type") "MAX_EDGES" = some (.val (.int 24 t24)))
    (iha : PySem.W.findIn K (.ref C) "__class__" = some (some (.builtin "object.__class__")))
    (ihn : PySem.W.specialIn K (.builtin "object.__class__") "__get__" = some (some (.builtin "getset_descriptor.__get__")))
    (ihtk : PySem.W.takesIn K (.builtin "object.__class__") = some true)
    (ihm : PySem.W.mroIn K C (.type "object") = some true)
    (iCl : PySem.W.isClsIn K C = true)
    (tyC : PySem.W.typeIn K (.ref C) = some (.type "type"))
    (qn : PySem.W.subIn K (.type "NoneType") (.ref C) = some false)
    (qi : PySem.W.subIn K (.type "int") (.ref C) = some false)
    (ql : PySem.W.subIn K (.type "list") (.ref C) = some false)
    (qt : PySem.W.subIn K (.type "tuple") (.ref C) = some false)
    (a_bag : PySem.W.nsIn K mainGlobals "_law_bag" = some (some (.ref f_bag)))
    (l_bag : K.lookup f_bag = some ⟨oc_bag, od_bag, .func (PySem.W.fnOf "_law_bag" "_law_bag" (defArgs sBag) (defBody sBag) (defScope sBag) .none kV_bag dc_bag pm_bag an_bag cd_bag ct_bag), sl_bag⟩)
    (c_bag : PySem.W.codeIn K cd_bag "_law_bag" = true)
    (k_bag : PySem.W.keepIn K (.ref f_bag) = true)
    (a_pull : PySem.W.nsIn K mainGlobals "_law_pull" = some (some (.ref f_pull)))
    (l_pull : K.lookup f_pull = some ⟨oc_pull, od_pull, .func (PySem.W.fnOf "_law_pull" "_law_pull" (defArgs sPull) (defBody sPull) (defScope sPull) .none kV_pull dc_pull pm_pull an_pull cd_pull ct_pull), sl_pull⟩)
    (c_pull : PySem.W.codeIn K cd_pull "_law_pull" = true)
    (k_pull : PySem.W.keepIn K (.ref f_pull) = true)
    (a_of : PySem.W.nsIn K mainGlobals "_law_of" = some (some (.ref f_of)))
    (l_of : K.lookup f_of = some ⟨oc_of, od_of, .func (PySem.W.fnOf "_law_of" "_law_of" (defArgs sOf) (defBody sOf) (defScope sOf) .none kV_of dc_of pm_of an_of cd_of ct_of), sl_of⟩)
    (c_of : PySem.W.codeIn K cd_of "_law_of" = true)
    (k_of : PySem.W.keepIn K (.ref f_of) = true)
    (a_plan : PySem.W.nsIn K mainGlobals "_law_plan" = some (some (.ref f_plan)))
    (l_plan : K.lookup f_plan = some ⟨oc_plan, od_plan, .func (PySem.W.fnOf "_law_plan" "_law_plan" (defArgs sPlan) (defBody sPlan) (defScope sPlan) .none kV_plan dc_plan pm_plan an_plan cd_plan ct_plan), sl_plan⟩)
    (c_plan : PySem.W.codeIn K cd_plan "_law_plan" = true)
    (k_plan : PySem.W.keepIn K (.ref f_plan) = true)
    (a_like : PySem.W.nsIn K mainGlobals "_law_like" = some (some (.ref f_like)))
    (l_like : K.lookup f_like = some ⟨oc_like, od_like, .func (PySem.W.fnOf "_law_like" "_law_like" (defArgs sLike) (defBody sLike) (defScope sLike) .none kV_like dc_like pm_like an_like cd_like ct_like), sl_like⟩)
    (c_like : PySem.W.codeIn K cd_like "_law_like" = true)
    (k_like : PySem.W.keepIn K (.ref f_like) = true)
    (a_field : PySem.W.nsIn K mainGlobals "_law_field" = some (some (.ref f_field)))
    (l_field : K.lookup f_field = some ⟨oc_field, od_field, .func (PySem.W.fnOf "_law_field" "_law_field" (defArgs sField) (defBody sField) (defScope sField) .none kV_field dc_field pm_field an_field cd_field ct_field), sl_field⟩)
    (c_field : PySem.W.codeIn K cd_field "_law_field" = true)
    (k_field : PySem.W.keepIn K (.ref f_field) = true)
    (a_tried : PySem.W.nsIn K mainGlobals "_law_tried" = some (some (.ref f_tried)))
    (l_tried : K.lookup f_tried = some ⟨oc_tried, od_tried, .func (PySem.W.fnOf "_law_tried" "_law_tried" (defArgs sTried) (defBody sTried) (defScope sTried) .none kV_tried dc_tried pm_tried an_tried cd_tried ct_tried), sl_tried⟩)
    (c_tried : PySem.W.codeIn K cd_tried "_law_tried" = true)
    (k_tried : PySem.W.keepIn K (.ref f_tried) = true)
    (aX : PySem.W.nsIn K mainGlobals "WindowError" = some (some (.ref CW)))
    (eX : PySem.W.subIn K (.ref CW) (.type "BaseException") = some true)
    (tX : PySem.W.typeIn K (.ref CW) = some (.type "type"))
    (iX : PySem.W.isClsIn K CW = true)
    (a_win : PySem.W.findCls K (.ref CW) (.type "type") "__init__" = some (.val (.ref f_win)))
    (l_win : K.lookup f_win = some ⟨oc_win, od_win, .func (PySem.W.fnOf "__init__" "WindowError.__init__" (defArgs sWin) (defBody sWin) (defScope sWin) (.ref TJ) kV_win dc_win pm_win an_win cd_win ct_win), sl_win⟩)
    (c_win : PySem.W.codeIn K cd_win "WindowError.__init__" = true)
    (k_win : PySem.W.keepIn K (.ref f_win) = true)
    (lTJ : K.lookup TJ = some ⟨oc_TJ, od_TJ, .seq #[.str "windowerror" tj1, .str "" tj2] n_TJ, sl_TJ⟩)
    (rdX : PySem.W.readsIn K CW (.type "type") = true)
    (gtX : PySem.W.specialIn K (.ref CW) "__getattribute__" = some (some (.builtin "type.__getattribute__")))
    (vV : PySem.W.findCls K (.type "ValueError") (.type "type") "__init__" = some (.val (.builtin "ValueError.__init__")))
    (aCInvalidGraph : PySem.W.nsIn K mainGlobals "InvalidGraph" = some (some (.ref CInvalidGraph)))
    (xLInvalidGraph : K.lookup CInvalidGraph = some (excClassObj nm_InvalidGraph qc_InvalidGraph CInvalidGraph N_InvalidGraph bs_InvalidGraph bm_InvalidGraph true sn_InvalidGraph su_InvalidGraph ab_InvalidGraph co_InvalidGraph dd_InvalidGraph m0_InvalidGraph m1_InvalidGraph m2_InvalidGraph m3_InvalidGraph m5_InvalidGraph "ValueError.__new__"))
    (rVInvalidGraph : PySem.HandSPX.refsVE bm_InvalidGraph = true)
    (saInvalidGraph : PySem.W.findIn K (.ref CInvalidGraph) "__setattr__" = some (some (.builtin "object.__setattr__")))
    (gaInvalidGraph : PySem.W.findIn K (.ref CInvalidGraph) "__getattribute__" = some (some (.builtin "BaseException.__getattribute__")))
    (ggInvalidGraph : PySem.W.findIn K (.ref CInvalidGraph) "__getattr__" = some none)
    (nwInvalidGraph : PySem.W.findIn K (.ref CInvalidGraph) "word" = some none)
    (nnInvalidGraph : PySem.W.findIn K (.ref CInvalidGraph) "place" = some none)
    (kCInvalidGraph : PySem.W.keepIn K (.ref CInvalidGraph) = true)
    (eCInvalidGraph : PySem.W.subIn K (.ref CInvalidGraph) (.type "BaseException") = some true)
    (tCInvalidGraph : PySem.W.typeIn K (.ref CInvalidGraph) = some (.type "type"))
    (hCInvalidGraph : PySem.W.hasDictIn K CInvalidGraph = true)
    (sXInvalidGraph : PySem.W.subIn K (.ref CInvalidGraph) (.ref CW) = some true)
    (a_InvalidGraph : PySem.W.findIn K (.ref CInvalidGraph) "__init__" = some (some (.ref f_InvalidGraph)))
    (tIInvalidGraph : PySem.W.typeIn K (.ref f_InvalidGraph) = some (.type "function"))
    (l_InvalidGraph : K.lookup f_InvalidGraph = some ⟨oc_InvalidGraph, od_InvalidGraph, .func (PySem.W.fnOf "__init__" "InvalidGraph.__init__" (defArgs sInvalidGraph) (defBody sInvalidGraph) (defScope sInvalidGraph) .none kV_InvalidGraph dc_InvalidGraph pm_InvalidGraph an_InvalidGraph cd_InvalidGraph ct_InvalidGraph), sl_InvalidGraph⟩)
    (c_InvalidGraph : PySem.W.codeIn K cd_InvalidGraph "InvalidGraph.__init__" = true)
    (k_InvalidGraph : PySem.W.keepIn K (.ref f_InvalidGraph) = true)
    (aCLimitExceeded : PySem.W.nsIn K mainGlobals "LimitExceeded" = some (some (.ref CLimitExceeded)))
    (xLLimitExceeded : K.lookup CLimitExceeded = some (excClassObj nm_LimitExceeded qc_LimitExceeded CLimitExceeded N_LimitExceeded bs_LimitExceeded bm_LimitExceeded true sn_LimitExceeded su_LimitExceeded ab_LimitExceeded co_LimitExceeded dd_LimitExceeded m0_LimitExceeded m1_LimitExceeded m2_LimitExceeded m3_LimitExceeded m5_LimitExceeded "ValueError.__new__"))
    (rVLimitExceeded : PySem.HandSPX.refsVE bm_LimitExceeded = true)
    (saLimitExceeded : PySem.W.findIn K (.ref CLimitExceeded) "__setattr__" = some (some (.builtin "object.__setattr__")))
    (gaLimitExceeded : PySem.W.findIn K (.ref CLimitExceeded) "__getattribute__" = some (some (.builtin "BaseException.__getattribute__")))
    (ggLimitExceeded : PySem.W.findIn K (.ref CLimitExceeded) "__getattr__" = some none)
    (nwLimitExceeded : PySem.W.findIn K (.ref CLimitExceeded) "word" = some none)
    (nnLimitExceeded : PySem.W.findIn K (.ref CLimitExceeded) "limit" = some none)
    (kCLimitExceeded : PySem.W.keepIn K (.ref CLimitExceeded) = true)
    (eCLimitExceeded : PySem.W.subIn K (.ref CLimitExceeded) (.type "BaseException") = some true)
    (tCLimitExceeded : PySem.W.typeIn K (.ref CLimitExceeded) = some (.type "type"))
    (hCLimitExceeded : PySem.W.hasDictIn K CLimitExceeded = true)
    (sXLimitExceeded : PySem.W.subIn K (.ref CLimitExceeded) (.ref CW) = some true)
    (a_LimitExceeded : PySem.W.findIn K (.ref CLimitExceeded) "__init__" = some (some (.ref f_LimitExceeded)))
    (tILimitExceeded : PySem.W.typeIn K (.ref f_LimitExceeded) = some (.type "function"))
    (l_LimitExceeded : K.lookup f_LimitExceeded = some ⟨oc_LimitExceeded, od_LimitExceeded, .func (PySem.W.fnOf "__init__" "LimitExceeded.__init__" (defArgs sLimitExceeded) (defBody sLimitExceeded) (defScope sLimitExceeded) .none kV_LimitExceeded dc_LimitExceeded pm_LimitExceeded an_LimitExceeded cd_LimitExceeded ct_LimitExceeded), sl_LimitExceeded⟩)
    (c_LimitExceeded : PySem.W.codeIn K cd_LimitExceeded "LimitExceeded.__init__" = true)
    (k_LimitExceeded : PySem.W.keepIn K (.ref f_LimitExceeded) = true)
    (a_check : PySem.W.nsIn K mainGlobals "check_edges" = some (some (.ref f_check)))
    (l_check : K.lookup f_check = some ⟨oc_check, od_check, .func (PySem.W.fnOf "check_edges" "check_edges" (defArgs sCheck) (defBody sCheck) (defScope sCheck) .none kV_check dc_check pm_check an_check cd_check ct_check), sl_check⟩)
    (c_check : PySem.W.codeIn K cd_check "check_edges" = true)
    (k_check : PySem.W.keepIn K (.ref f_check) = true)
    (a_init : PySem.W.findIn K (.ref C) "__init__" = some (some (.ref f_init)))
    (i_init : PySem.W.isFn K (.ref f_init) = true)
    (l_init : K.lookup f_init = some ⟨oc_init, od_init, .func (PySem.W.fnOf "__init__" "Graph.__init__" (defArgs sInit) (defBody sInit) (defScope sInit) .none kV_init dc_init pm_init an_init cd_init ct_init), sl_init⟩)
    (c_init : PySem.W.codeIn K cd_init "Graph.__init__" = true)
    (k_init : PySem.W.keepIn K (.ref f_init) = true)
    (a_full : PySem.W.findCls K (.ref C) (.type "type") "full" = some (.get (.builtin "classmethod.__get__") (.ref p_full) .none (.ref C)))
    (r_full : PySem.W.recIn K p_full "classmethod" = some (.ref f_full :: re_full))
    (i_full : PySem.W.fnIn K f_full = true)
    (l_full : K.lookup f_full = some ⟨oc_full, od_full, .func (PySem.W.fnOf "full" "Graph.full" (defArgs sFull) (defBody sFull) (defScope sFull) .none kV_full dc_full pm_full an_full cd_full ct_full), sl_full⟩)
    (c_full : PySem.W.codeIn K cd_full "Graph.full" = true)
    (k_full : PySem.W.keepIn K (.ref f_full) = true)
    (a_len : PySem.W.findIn K (.ref C) "__len__" = some (some (.ref f_len)))
    (i_len : PySem.W.isFn K (.ref f_len) = true)
    (l_len : K.lookup f_len = some ⟨oc_len, od_len, .func (PySem.W.fnOf "__len__" "Graph.__len__" (defArgs sLen) (defBody sLen) (defScope sLen) .none kV_len dc_len pm_len an_len cd_len ct_len), sl_len⟩)
    (c_len : PySem.W.codeIn K cd_len "Graph.__len__" = true)
    (k_len : PySem.W.keepIn K (.ref f_len) = true)
    (a_eq : PySem.W.findIn K (.ref C) "__eq__" = some (some (.ref f_eq)))
    (i_eq : PySem.W.isFn K (.ref f_eq) = true)
    (l_eq : K.lookup f_eq = some ⟨oc_eq, od_eq, .func (PySem.W.fnOf "__eq__" "Graph.__eq__" (defArgs sEq) (defBody sEq) (defScope sEq) .none kV_eq dc_eq pm_eq an_eq cd_eq ct_eq), sl_eq⟩)
    (c_eq : PySem.W.codeIn K cd_eq "Graph.__eq__" = true)
    (k_eq : PySem.W.keepIn K (.ref f_eq) = true)
    (a_due : PySem.W.nsIn K mainGlobals "_law_graph_due" = some (some (.ref f_due)))
    (l_due : K.lookup f_due = some ⟨oc_due, od_due, .func (PySem.W.fnOf "_law_graph_due" "_law_graph_due" (defArgs sDue) (defBody sDue) (defScope sDue) .none kV_due dc_due pm_due an_due cd_due ct_due), sl_due⟩)
    (c_due : PySem.W.codeIn K cd_due "_law_graph_due" = true)
    (k_due : PySem.W.keepIn K (.ref f_due) = true)
    (a_law : PySem.W.nsIn K mainGlobals "law" = some (some (.ref f_law)))
    (l_law : K.lookup f_law = some ⟨oc_law, od_law, .func (PySem.W.fnOf "law" "law" (defArgs sLaw) (defBody sLaw) (defScope sLaw) .none kV_law dc_law pm_law an_law (.ref cW) ct_law), sl_law⟩)
    (c_law : PySem.W.codeIn K (.ref cW) "law" = true)
    (k_law : PySem.W.keepIn K (.ref f_law) = true)
    (tW : PySem.W.tabIn K "law" = some (cW, Pt))
    (hW : PySem.W.codeHdIn K cW Pt = true)
    (nP : K.lookup Pt = none) :
    LamX.LawAtS l w K CX0 12 63 "_law_script" mg fa h := by
  have e := hfa.symm.trans (PySem.W.mg_of X G a_law)
  cases e
  have T : Bi mg := ⟨PySem.W.mg_none_of X G z_len, PySem.W.mg_none_of X G z_list, PySem.W.mg_none_of X G z_tuple, PySem.W.mg_none_of X G z_bool, PySem.W.mg_none_of X G z_int, PySem.W.mg_none_of X G z_str, PySem.W.mg_none_of X G z_isinstance, PySem.W.mg_none_of X G z_all, PySem.W.mg_none_of X G z_zip, PySem.W.mg_none_of X G z_range⟩
  have cl : Cls K C := ⟨gpg, ghd, gpo, gsa⟩
  have GT : GTxt K mg C (.type "type") := ⟨cl, gnS, gnE, PySem.W.mg_of X G aC, ⟨grd, gga⟩, ⟨_, gv8, ⟨_, rfl⟩⟩, ⟨_, gv24, ⟨_, rfl⟩⟩, PySem.W.mg_none_of X G z_enumerate⟩
  have GI : C8.InsC K C := ⟨cl, iha, ihn, ihtk, ihm, kit_me⟩
  have GS : GIs K C := ⟨GI, kit_no iCl tyC qn, kit_no iCl tyC qi, kit_no iCl tyC ql, kit_no iCl tyC qt⟩
  have F_bag := fun_mk (st := sBag) l_bag c_bag k_bag
  have b_bag := F_bag.binds (ps := ["_law_script"]) fun _ _ _ _ _ _ us hl => match us, hl with | [_], _ => rfl
  have F_pull := fun_mk (st := sPull) l_pull c_pull k_pull
  have b_pull := F_pull.binds (ps := ["_law_bag_here", "_law_many"]) fun _ _ _ _ _ _ us hl => match us, hl with | [_, _], _ => rfl
  have F_of := fun_mk (st := sOf) l_of c_of k_of
  have b_of := F_of.binds (ps := ["_law_bag_here", "_law_things"]) fun _ _ _ _ _ _ us hl => match us, hl with | [_, _], _ => rfl
  have F_plan := fun_mk (st := sPlan) l_plan c_plan k_plan
  have b_plan := F_plan.binds (ps := ["_law_bag_here", "_law_most", "_law_many"]) fun _ _ _ _ _ _ us hl => match us, hl with | [_, _, _], _ => rfl
  have F_like := fun_mk (st := sLike) l_like c_like k_like
  have b_like := F_like.binds (ps := ["_law_found", "_law_due"]) fun _ _ _ _ _ _ us hl => match us, hl with | [_, _], _ => rfl
  have F_field := fun_mk (st := sField) l_field c_field k_field
  have b_field := F_field.binds (ps := ["_law_e"]) fun _ _ _ _ _ _ us hl => match us, hl with | [_], _ => rfl
  have F_tried := fun_mk (st := sTried) l_tried c_tried k_tried
  have b_tried := F_tried.binds (ps := ["_law_ask"]) fun _ _ _ _ _ _ us hl => match us, hl with | [_], _ => rfl
  have F_win : FunD K "__init__" "WindowError.__init__" (defArgs sWin) (defBody sWin) (defScope sWin) [.str "windowerror", .str ""] [] f_win (PySem.W.fnOf "__init__" "WindowError.__init__" (defArgs sWin) (defBody sWin) (defScope sWin) (.ref TJ) kV_win dc_win pm_win an_win cd_win ct_win) :=
    ⟨⟨_, _, _, _, _, _, _, _, _, _, rfl, l_win, c_win, .inr ⟨by simp, TJ, _, [.str "windowerror" tj1, .str "" tj2], _, rfl, lTJ, rfl, .cons ⟨_, rfl⟩ (.cons ⟨_, rfl⟩ .nil)⟩, .inl rfl⟩, k_win⟩
  have b_win : Binds K (PySem.W.fnOf "__init__" "WindowError.__init__" (defArgs sWin) (defBody sWin) (defScope sWin) (.ref TJ) kV_win dc_win pm_win an_win cd_win ct_win) ["self", "word", "told"] [] := by
    obtain ⟨ds, hv, hb⟩ := F_win.binds1 (ps := ["self", "word", "told"]) 3 2 (by simp) rfl (fun _ _ _ _ _ _ _ us its hu hi => match us, its, hu, hi with | [_, _, _], [_, _], _, _ => ⟨_, rfl, rfl⟩)
    cases hv
    exact hb
  have F_InvalidGraph := fun_mk (st := sInvalidGraph) l_InvalidGraph c_InvalidGraph k_InvalidGraph
  have b_InvalidGraph := F_InvalidGraph.binds (ps := ["self", "place"]) fun _ _ _ _ _ _ us hl => match us, hl with | [_, _], _ => rfl
  have TOInvalidGraph : OexC K CInvalidGraph := ⟨⟨nm_InvalidGraph, qc_InvalidGraph, N_InvalidGraph, bs_InvalidGraph, bm_InvalidGraph, sn_InvalidGraph, su_InvalidGraph, ab_InvalidGraph, co_InvalidGraph, dd_InvalidGraph, m0_InvalidGraph, m1_InvalidGraph, m2_InvalidGraph, m3_InvalidGraph, m5_InvalidGraph, xLInvalidGraph, rVInvalidGraph⟩, saInvalidGraph, eCInvalidGraph, tCInvalidGraph, kCInvalidGraph⟩
  have xfInvalidGraph : XfC K CInvalidGraph := ⟨gaInvalidGraph, ggInvalidGraph, eCInvalidGraph, hCInvalidGraph⟩
  have F_LimitExceeded := fun_mk (st := sLimitExceeded) l_LimitExceeded c_LimitExceeded k_LimitExceeded
  have b_LimitExceeded := F_LimitExceeded.binds (ps := ["self", "limit"]) fun _ _ _ _ _ _ us hl => match us, hl with | [_, _], _ => rfl
  have TOLimitExceeded : OexC K CLimitExceeded := ⟨⟨nm_LimitExceeded, qc_LimitExceeded, N_LimitExceeded, bs_LimitExceeded, bm_LimitExceeded, sn_LimitExceeded, su_LimitExceeded, ab_LimitExceeded, co_LimitExceeded, dd_LimitExceeded, m0_LimitExceeded, m1_LimitExceeded, m2_LimitExceeded, m3_LimitExceeded, m5_LimitExceeded, xLLimitExceeded, rVLimitExceeded⟩, saLimitExceeded, eCLimitExceeded, tCLimitExceeded, kCLimitExceeded⟩
  have xfLimitExceeded : XfC K CLimitExceeded := ⟨gaLimitExceeded, ggLimitExceeded, eCLimitExceeded, hCLimitExceeded⟩
  have F_check := fun_mk (st := sCheck) l_check c_check k_check
  have b_check := F_check.binds (ps := ["states", "edges"]) fun _ _ _ _ _ _ us hl => match us, hl with | [_, _], _ => rfl
  have F_init := fun_mk (st := sInit) l_init c_init k_init
  have b_init := F_init.binds (ps := ["self", "states", "edges"]) fun _ _ _ _ _ _ us hl => match us, hl with | [_, _, _], _ => rfl
  have F_full := fun_mk (st := sFull) l_full c_full k_full
  have b_full := F_full.binds (ps := ["cls", "count"]) fun _ _ _ _ _ _ us hl => match us, hl with | [_, _], _ => rfl
  have F_len := fun_mk (st := sLen) l_len c_len k_len
  have b_len := F_len.binds (ps := ["self"]) fun _ _ _ _ _ _ us hl => match us, hl with | [_], _ => rfl
  have F_eq := fun_mk (st := sEq) l_eq c_eq k_eq
  have b_eq := F_eq.binds (ps := ["self", "other"]) fun _ _ _ _ _ _ us hl => match us, hl with | [_, _], _ => rfl
  have F_due := fun_mk (st := sDue) l_due c_due k_due
  have b_due := F_due.binds (ps := ["_law_size", "_law_pairs"]) fun _ _ _ _ _ _ us hl => match us, hl with | [_, _], _ => rfl
  obtain ⟨ev, dv, vsv, slv, e1, e2⟩ := hd_at hW
  have hP := own cW Pt _ _ _ _ _ _ l_law rfl rfl e1 e2
  refine ⟨PySem.W.fnOf "law" "law" (defArgs sLaw) (defBody sLaw) (defScope sLaw) .none kV_law dc_law pm_law an_law (.ref cW) ct_law, [(cW, Pt)], spLaw K Pt, fun p hp => by rw [List.mem_singleton.mp hp]; exact hP, fun p hp => by rw [List.mem_singleton.mp hp]; exact nP, fun p hp => by rw [List.mem_singleton.mp hp]; exact PySem.W.codeHd_of_K X hW, fun s v => .of_eq rfl, fun H a ns hl _ hH hS => ⟨a, ns, rfl, hS, hl, hH _ (List.mem_singleton.mpr rfl), fun _ => rfl⟩, fun base _ _ TB => ?_⟩
  have cal_bag : C8.Cal l.prog w K mg base 1 "_law_bag" (spBag K) [] := ⟨f_bag, _, _, [], ok_bag (k := 0) F_bag T, PySem.W.mg_of X G a_bag, k_bag, b_bag, .nil⟩
  have cal_pull : C8.Cal l.prog w K mg base 1 "_law_pull" spPull [] := ⟨f_pull, _, _, [], ok_pull (k := 0) F_pull T.len, PySem.W.mg_of X G a_pull, k_pull, b_pull, .nil⟩
  have cal_of : C8.Cal l.prog w K mg base 2 "_law_of" (spOf K) [] := ⟨f_of, _, _, [], ok_of (k := 0) F_of T cal_pull, PySem.W.mg_of X G a_of, k_of, b_of, .nil⟩
  have cal_plan : C8.Cal l.prog w K mg base 2 "_law_plan" spPlan [] := ⟨f_plan, _, _, [], ok_plan (k := 0) F_plan T cal_pull, PySem.W.mg_of X G a_plan, k_plan, b_plan, .nil⟩
  have cal_like : C8.Cal l.prog w K mg base 1 "_law_like" (spLike 0) [] := ⟨f_like, _, _, [], like0 (k := 0) F_like, PySem.W.mg_of X G a_like, k_like, b_like, .nil⟩
  have cal_like : C8.Cal l.prog w K mg base 2 "_law_like" (spLike 1) [] := ⟨f_like, _, _, [], ok_like (n := 1) (k := 0) F_like T (fun _ => cal_like), PySem.W.mg_of X G a_like, k_like, b_like, .nil⟩
  have cal_like : C8.Cal l.prog w K mg base 3 "_law_like" (spLike 2) [] := ⟨f_like, _, _, [], ok_like (n := 2) (k := 1) F_like T (fun _ => cal_like), PySem.W.mg_of X G a_like, k_like, b_like, .nil⟩
  have cal_like : C8.Cal l.prog w K mg base 4 "_law_like" (spLike 3) [] := ⟨f_like, _, _, [], ok_like (n := 3) (k := 2) F_like T (fun _ => cal_like), PySem.W.mg_of X G a_like, k_like, b_like, .nil⟩
  have cal_like : C8.Cal l.prog w K mg base 5 "_law_like" (spLike 4) [] := ⟨f_like, _, _, [], ok_like (n := 4) (k := 3) F_like T (fun _ => cal_like), PySem.W.mg_of X G a_like, k_like, b_like, .nil⟩
  have cal_like : C8.Cal l.prog w K mg base 6 "_law_like" (spLike 5) [] := ⟨f_like, _, _, [], ok_like (n := 5) (k := 4) F_like T (fun _ => cal_like), PySem.W.mg_of X G a_like, k_like, b_like, .nil⟩
  have o_win := ok_win (P := l.prog) (w := w) (mg := mg) (base := base) (k := 0) F_win (PySem.W.mg_none_of X G z_ValueError) vV
  have o_InvalidGraph := ok_invalidgraph (P := l.prog) (w := w) (mg := mg) (base := base) (k := 0) F_InvalidGraph TOInvalidGraph nwInvalidGraph nnInvalidGraph (PySem.W.mg_of X G aX) ⟨rdX, gtX⟩ ⟨a_win, rfl⟩ k_win o_win b_win
  have R_InvalidGraph : ErrIn l.prog w K mg base "InvalidGraph" CInvalidGraph "place" "invalidgraph" := ⟨TOInvalidGraph, PySem.W.mg_of X G aCInvalidGraph, f_InvalidGraph, _, a_InvalidGraph, tIInvalidGraph, o_InvalidGraph, b_InvalidGraph⟩
  have EO_InvalidGraph : ErOk l.prog w K mg base CW f_field _ CInvalidGraph "place" "invalidgraph" := ⟨exm_own eX iX tX sXInvalidGraph, xfInvalidGraph, nwInvalidGraph, by decide +kernel, fun a dd => ok_field_invalidgraph (k := 0) F_field xfInvalidGraph nwInvalidGraph nnInvalidGraph⟩
  have o_LimitExceeded := ok_limitexceeded (P := l.prog) (w := w) (mg := mg) (base := base) (k := 0) F_LimitExceeded TOLimitExceeded nwLimitExceeded nnLimitExceeded (PySem.W.mg_of X G aX) ⟨rdX, gtX⟩ ⟨a_win, rfl⟩ k_win o_win b_win
  have R_LimitExceeded : ErrIn l.prog w K mg base "LimitExceeded" CLimitExceeded "limit" "limitexceeded" := ⟨TOLimitExceeded, PySem.W.mg_of X G aCLimitExceeded, f_LimitExceeded, _, a_LimitExceeded, tILimitExceeded, o_LimitExceeded, b_LimitExceeded⟩
  have EO_LimitExceeded : ErOk l.prog w K mg base CW f_field _ CLimitExceeded "limit" "limitexceeded" := ⟨exm_own eX iX tX sXLimitExceeded, xfLimitExceeded, nwLimitExceeded, by decide +kernel, fun a dd => ok_field_limitexceeded (k := 0) F_field xfLimitExceeded nwLimitExceeded nnLimitExceeded⟩
  have xC : CalX l.prog w K mg base 4 "check_edges" (spCheckX CInvalidGraph) := ⟨f_check, _, _, ok_checkX (k := 0) F_check T GT R_InvalidGraph, PySem.W.mg_of X G a_check, k_check, b_check⟩
  have mX : MakX l.prog w K mg base 5 C (spInitX C CInvalidGraph CLimitExceeded) := ⟨f_init, _, _, ⟨gmk, a_init, i_init, gkc⟩, ok_initX (k := 0) F_init T GT R_InvalidGraph R_LimitExceeded xC, b_init⟩
  have mF : ∃ p g, ClX.CMet K C (.type "type") "full" p g ∧ FnR l.prog w K mg base (L2.CX l.prog w) 7 g (spFull C CInvalidGraph CLimitExceeded) := ⟨p_full, f_full, ⟨a_full, ⟨_, r_full⟩, i_full⟩, ((ok_full (k := 0) F_full T GT R_InvalidGraph R_LimitExceeded mX).raw b_full .nil).imp fun vs H Q E h => by rw [List.append_nil]; exact h⟩
  have cal_due : C8.Cal l.prog w K mg base 1 "_law_graph_due" spDue [] := ⟨f_due, _, _, [], ok_due (k := 0) F_due T (PySem.W.mg_none_of X G z_min) (PySem.W.mg_none_of X G z_max) (PySem.W.mg_none_of X G z_set), PySem.W.mg_of X G a_due, k_due, b_due, .nil⟩
  exact ok_law l_law c_law (TB _ (List.mem_singleton.mpr rfl)) (C := C) (CG := CInvalidGraph) (CL := CLimitExceeded) (mc := .type "type") ⟨T, GT, PySem.W.mg_none_of X G z_min, PySem.W.mg_none_of X G z_max, cal_bag, cal_pull, cal_of, cal_plan, cal_like, cal_due, mX, mF, ⟨f_len, _, a_len, i_len, ok_len (k := 0) F_len T GT, b_len⟩, ⟨f_eq, _, a_eq, i_eq, ok_eq (k := 0) F_eq T GT GS, b_eq⟩, ⟨f_tried, _, _, _, _, _, _, _, _, _, _, PySem.W.mg_of X G a_tried, k_tried, l_tried, c_tried, b_tried⟩, ⟨CW, f_field, _, PySem.W.mg_of X G aX, PySem.W.mg_of X G a_field, k_field, b_field, EO_InvalidGraph, EO_LimitExceeded⟩⟩
theorem walk {l : PySem.W.OpenLaw} {q : Program} {loose : List Str} {XP : (Str → Option Value) → Heap → Prop} {YP : World → Heap → Prop} {d : DefRec} {K : Params → PySem.W.Frag} (hn : l.most = some 63) (hdf : d.params.defaults = []) (hrec : ((PyProof.Rows.recsOf q).any fun e => e.name == d.name) = true)
    (hY : ∀ (w : World) (h : Heap), YP w h → (K w.params).In h)
    (F : ∀ (w : World) (mg : Str → Option Value) (fa : Addr) (h : Heap), YP w h → (K w.params).In h → h.Ns mainGlobals mg → mg d.name = some (.ref fa) → LamX.OwnTab (K w.params) fa h → LamX.LawAtS l w (K w.params) CX0 12 63 "_law_script" mg fa h) :
    PySem.W.WalkO q loose XP YP l.row.toRowW d [] (fun f vs => PySem.call f vs) :=
  LamX.walk_ofOwn (n := 63) (k := 12) (x := "_law_script") (CX := fun _ => CX0) hn (by decide) hdf ⟨rfl, by decide, by decide⟩ hrec hY F fun _ _ _ _ _ z => z
end Lw
open PySem PySem.W PyProof.Rows
set_option Elab.async false
set_option maxRecDepth 100000 in
set_option maxHeartbeats 0 in
theorem PySem.Challenge.cw_windowkin_k02_invalid_graphs_holds : PySem.Challenge.rw_windowkin_k02_invalid_graphs.Holds := by
  w_on; o_law; k_head; (case hw => w_witness2)
  k_fill
  refine Lw.walk (l := PySem.Challenge.rw_windowkin_k02_invalid_graphs) rfl rfl ?R (fun w h Y => PySem.W.km_in_of Y) ?F
  (case R => first | rfl | decide +kernel)
  case F =>
    intro w mg fa h Y KX G hmg own
    refine' Lw.all_mk KX G hmg own ?z_len ?z_list ?z_tuple ?z_bool ?z_int ?z_str ?z_isinstance ?z_all ?z_zip ?z_range ?z_ValueError ?z_enumerate ?z_min ?z_max ?z_set ?aC ?gpg ?ghd ?gpo ?gsa ?gmk ?gkc ?gnS ?gnE ?grd ?gga ?gv8 ?gv24 ?iha ?ihn ?ihtk ?ihm ?iCl ?tyC ?qn ?qi ?ql ?qt ?a_bag ?l_bag ?c_bag ?k_bag ?a_pull ?l_pull ?c_pull ?k_pull ?a_of ?l_of ?c_of ?k_of ?a_plan ?l_plan ?c_plan ?k_plan ?a_like ?l_like ?c_like ?k_like ?a_field ?l_field ?c_field ?k_field ?a_tried ?l_tried ?c_tried ?k_tried ?aX ?eX ?tX ?iX ?a_win ?l_win ?c_win ?k_win ?lTJ ?rdX ?gtX ?vV ?aCInvalidGraph ?xLInvalidGraph ?rVInvalidGraph ?saInvalidGraph ?gaInvalidGraph ?ggInvalidGraph ?nwInvalidGraph ?nnInvalidGraph ?kCInvalidGraph ?eCInvalidGraph ?tCInvalidGraph ?hCInvalidGraph ?sXInvalidGraph ?a_InvalidGraph ?tIInvalidGraph ?l_InvalidGraph ?c_InvalidGraph ?k_InvalidGraph ?aCLimitExceeded ?xLLimitExceeded ?rVLimitExceeded ?saLimitExceeded ?gaLimitExceeded ?ggLimitExceeded ?nwLimitExceeded ?nnLimitExceeded ?kCLimitExceeded ?eCLimitExceeded ?tCLimitExceeded ?hCLimitExceeded ?sXLimitExceeded ?a_LimitExceeded ?tILimitExceeded ?l_LimitExceeded ?c_LimitExceeded ?k_LimitExceeded ?a_check ?l_check ?c_check ?k_check ?a_init ?i_init ?l_init ?c_init ?k_init ?a_full ?r_full ?i_full ?l_full ?c_full ?k_full ?a_len ?i_len ?l_len ?c_len ?k_len ?a_eq ?i_eq ?l_eq ?c_eq ?k_eq ?a_due ?l_due ?c_due ?k_due ?a_law ?l_law ?c_law ?k_law ?tW ?hW ?nP
    (case z_len => k_is)
    (case z_list => k_is)
    (case z_tuple => k_is)
    (case z_bool => k_is)
    (case z_int => k_is)
    (case z_str => k_is)
    (case z_isinstance => k_is)
    (case z_all => k_is)
    (case z_zip => k_is)
    (case z_range => k_is)
    (case z_ValueError => k_is)
    (case z_enumerate => k_is)
    (case z_min => k_is)
    (case z_max => k_is)
    (case z_set => k_is)
    (case aC => k_is)
    (case gpg => k_is)
    (case ghd => k_is)
    (case gpo => k_is)
    (case gsa => k_is)
    (case gmk => k_is)
    (case gkc => k_is)
    (case gnS => k_is)
    (case gnE => k_is)
    (case grd => k_is)
    (case gga => k_is)
    (case gv8 => k_is)
    (case gv24 => k_is)
    (case iha => k_is)
    (case ihn => k_is)
    (case ihtk => k_is)
    (case ihm => k_is)
    (case iCl => k_is)
    (case tyC => k_is)
    (case qn => k_is)
    (case qi => k_is)
    (case ql => k_is)
    (case qt => k_is)
    (case a_bag => k_is)
    (case l_bag => k_is)
    (case c_bag => k_is)
    (case k_bag => k_is)
    (case a_pull => k_is)
    (case l_pull => k_is)
    (case c_pull => k_is)
    (case k_pull => k_is)
    (case a_of => k_is)
    (case l_of => k_is)
    (case c_of => k_is)
    (case k_of => k_is)
    (case a_plan => k_is)
    (case l_plan => k_is)
    (case c_plan => k_is)
    (case k_plan => k_is)
    (case a_like => k_is)
    (case l_like => k_is)
    (case c_like => k_is)
    (case k_like => k_is)
    (case a_field => k_is)
    (case l_field => k_is)
    (case c_field => k_is)
    (case k_field => k_is)
    (case a_tried => k_is)
    (case l_tried => k_is)
    (case c_tried => k_is)
    (case k_tried => k_is)
    (case aX => k_is)
    (case eX => first | k_is | rfl | decide +kernel)
    (case tX => k_is)
    (case iX => k_is)
    (case a_win => k_is)
    (case l_win => k_is)
    (case c_win => k_is)
    (case k_win => k_is)
    (case lTJ => k_is)
    (case rdX => k_is)
    (case gtX => k_is)
    (case vV => k_is)
    (case aCInvalidGraph => k_is)
    (case xLInvalidGraph => k_is)
    (case rVInvalidGraph => first | rfl | decide +kernel | k_is)
    (case saInvalidGraph => k_is)
    (case gaInvalidGraph => k_is)
    (case ggInvalidGraph => k_is)
    (case nwInvalidGraph => k_is)
    (case nnInvalidGraph => k_is)
    (case kCInvalidGraph => k_is)
    (case eCInvalidGraph => k_is)
    (case tCInvalidGraph => k_is)
    (case hCInvalidGraph => k_is)
    (case sXInvalidGraph => first | k_is | rfl | decide +kernel)
    (case a_InvalidGraph => k_is)
    (case tIInvalidGraph => k_is)
    (case l_InvalidGraph => k_is)
    (case c_InvalidGraph => k_is)
    (case k_InvalidGraph => k_is)
    (case aCLimitExceeded => k_is)
    (case xLLimitExceeded => k_is)
    (case rVLimitExceeded => first | rfl | decide +kernel | k_is)
    (case saLimitExceeded => k_is)
    (case gaLimitExceeded => k_is)
    (case ggLimitExceeded => k_is)
    (case nwLimitExceeded => k_is)
    (case nnLimitExceeded => k_is)
    (case kCLimitExceeded => k_is)
    (case eCLimitExceeded => k_is)
    (case tCLimitExceeded => k_is)
    (case hCLimitExceeded => k_is)
    (case sXLimitExceeded => first | k_is | rfl | decide +kernel)
    (case a_LimitExceeded => k_is)
    (case tILimitExceeded => k_is)
    (case l_LimitExceeded => k_is)
    (case c_LimitExceeded => k_is)
    (case k_LimitExceeded => k_is)
    (case a_check => k_is)
    (case l_check => k_is)
    (case c_check => k_is)
    (case k_check => k_is)
    (case a_init => k_is)
    (case i_init => k_is)
    (case l_init => k_is)
    (case c_init => k_is)
    (case k_init => k_is)
    (case a_full => k_is)
    (case r_full => k_is)
    (case i_full => k_is)
    (case l_full => k_is)
    (case c_full => k_is)
    (case k_full => k_is)
    (case a_len => k_is)
    (case i_len => k_is)
    (case l_len => k_is)
    (case c_len => k_is)
    (case k_len => k_is)
    (case a_eq => k_is)
    (case i_eq => k_is)
    (case l_eq => k_is)
    (case c_eq => k_is)
    (case k_eq => k_is)
    (case a_due => k_is)
    (case l_due => k_is)
    (case c_due => k_is)
    (case k_due => k_is)
    (case a_law => k_is)
    (case l_law => k_is)
    (case c_law => k_is)
    (case k_law => k_is)
    (case tW => first | k_is | rfl | decide +kernel)
    (case hW => first | k_is | rfl | decide +kernel)
    (case nP => first | k_is | rfl | decide +kernel)
