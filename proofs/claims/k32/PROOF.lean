import PyProof.Rows.All
import Wide.All
import OpenK.AllK
import Wide.FinOn
import HandS.ForMost
import HandS.Wide
import HandS.Codes
import PySem.Challenge.RW_windowkin_k32_texts_and_equality_of_step
import HandS.IsInst
import HandS.Walk
import HandS.Zip
import KE.GoesMore
import PyProof.EqAt
import PyProof.EqKinds
import HandS.OwnEq
import HandS.Set
import HandS.SetFor
import HandS.Strs
import HandS.TupAny
import HandS.TupMul
import HandS.FStr
import HandS.Text
import HandS.TryOnly
import HandS.More
import HandS.Deep
import HandS.Style
import HandS.EndOwn
import KE.KNestM
set_option Elab.async false
set_option linter.all false
set_option maxRecDepth 100000
namespace Lw
open PySem L2
def top (i : Nat) : Stmt := PySem.Challenge.pw_windowkin_k32_texts_and_equality_of_step.main.body.getD i (.Pass ⟨0, 0, 0, 0⟩)
abbrev sBag : Stmt := top 17
abbrev sPull : Stmt := top 18
abbrev sOf : Stmt := top 19
/-! ### heaps -/
theorem same_upd {H : Hp} {p : Addr} {o : HO} (h : H p = none) : Same H (upd H p o) := fun b x e => by
  rw [upd_ne (ne_of_none e h)]
  exact e
theorem upd_upd {H : Hp} {p : Addr} {o o' : HO} : upd (upd H p o) p o' = upd H p o' := by
  funext c
  by_cases e : c = p
  · subst e
    rw [upd_same, upd_same]
  · rw [upd_ne e, upd_ne e, upd_ne e]
theorem upd_self {H : Hp} {p : Addr} {o : HO} (h : H p = some o) : upd H p o = H := by
  funext c
  by_cases e : c = p
  · subst e
    rw [upd_same, h]
  · rw [upd_ne e]
/-! ### the bag: the script's own list at l, a place, a rest, a salt -/
def BagO (l : Addr) (ns : List Int) (o : HO) : Prop := ∃ (i : Nat) (r s : Int), o = .lst [.ref l, .int (i : Int), .int r, .int s] ∧ i ≤ ns.length ∧ 0 ≤ r ∧ 0 ≤ s ∧ s < 2147483563
structure BagAt (H : Hp) (b l : Addr) (ns : List Int) : Prop where
  ob : ∃ o, H b = some o ∧ BagO l ns o
  sc : H l = some (.lst (ns.map V.int))
  ln : ns.length ≤ 63
theorem BagAt.ne {H : Hp} {b l : Addr} {ns : List Int} (h : BagAt H b l ns) : l ≠ b := fun e => by
  obtain ⟨o, ho, i, r, s, rfl, _⟩ := h.ob
  have h2 := h.sc
  rw [e, ho] at h2
  cases ns with
  | nil => cases h2
  | cons x r => cases h2
theorem BagAt.upd {H : Hp} {b l : Addr} {ns : List Int} {o : HO} (h : BagAt H b l ns) (ho : BagO l ns o) : BagAt (upd H b o) b l ns :=
  ⟨⟨o, upd_same, ho⟩, by rw [upd_ne h.ne]; exact h.sc, h.ln⟩
/-- the bag where all that was tracked stands -/
theorem BagAt.same {H H' : Hp} {b l : Addr} {ns : List Int} (h : BagAt H b l ns) (e : Same H H') : BagAt H' b l ns :=
  ⟨h.ob.imp fun _ z => ⟨e _ _ z.1, z.2⟩, e _ _ h.sc, h.ln⟩
def spPull : Sp := fun vs H Q _ => ∃ (b l : Addr) (ns : List Int) (m : Int), vs = [.ref b, .int m] ∧ BagAt H b l ns ∧ 0 < m ∧ m < 2 ^ 100 ∧
  ∀ (v : Int) (o : HO), 0 ≤ v → v < m → BagO l ns o → Q (.int v) (upd H b o)
def spBag (K : PySem.W.Frag) : Sp := fun vs H Q _ => ∃ (a : Addr) (ns : List Int), vs = [.ref a] ∧ SqL K H a (ns.map V.int) ∧ ns.length ≤ 63 ∧
  ∀ (b l : Addr) (H' : Hp), Same H H' → H b = none → H l = none → BagAt H' b l ns → Q (.ref b) H'
section
variable {P : Program} {w : World} {K : PySem.W.Frag} {mg : Str → Option Value} {base : Heap}
/-! ### _law_pull -/
theorem scPull : FnScope ["_law_bag_here", "_law_many", "_law_cell", "_law_got", "_law_seed"] ["_law_bag_here", "_law_many"] (defScope sPull) := ⟨rfl, rfl, rfl, by decide +kernel, rfl, by decide +kernel, by decide +kernel⟩
theorem at0 {x : V} {r : List V} : atI (x :: r) 0 = some x := by
  have h := atI_nat (xs := x :: r) (j := 0) (v := x) rfl
  exact h
theorem at1 {x y : V} {r : List V} : atI (x :: y :: r) 1 = some y := by
  have h := atI_nat (xs := x :: y :: r) (j := 1) (v := y) rfl
  exact h
theorem at2 {x y z : V} {r : List V} : atI (x :: y :: z :: r) 2 = some z := by
  have h := atI_nat (xs := x :: y :: z :: r) (j := 2) (v := z) rfl
  exact h
theorem at3 {x y z u : V} {r : List V} : atI (x :: y :: z :: u :: r) 3 = some u := by
  have h := atI_nat (xs := x :: y :: z :: u :: r) (j := 3) (v := u) rfl
  exact h
set_option maxHeartbeats 4000000 in
theorem ok_pull {f : Addr} {fd : FuncData} {k : Nat} (F : Fun K "_law_pull" "_law_pull" sPull f fd) (mlen : mg "len" = none) : FnOk P w K mg base CX0 (k + 1) f fd ["_law_bag_here", "_law_many"] spPull := by
  refine F.ok scPull (fun vs H Q E h => ?_) (fun cdv A outer s H vs Q E hr h => ?_)
  · obtain ⟨b, l, ns, m, rfl, _⟩ := h
    rfl
  · obtain ⟨b, l, ns, m, rfl, B, hm, hm2, q⟩ := h
    refine ⟨_, C8.pss_cut (ps_if (PW.pt (pw_and (pt_cmpR op_eq (pe_ix ix_list (pv 0) pe_int (fun _ _ => rfl)) pe_int (nomark _))
        (pw_and1 (pt_cmpR op_lt (pe_ix ix_list (pv 0) pe_int (fun _ _ => rfl)) (pe_callB call_len_seq (by rfl) mlen PySem.boot_len (pa_cons (pe_ix ix_list (pv 0) pe_int (fun _ _ => rfl)) pa_nil)) (nomark _)))))
        (pss_cons (ps_set (i := 2) scPull.nd rfl (Or.inl rfl) (pe_ix ix_list (pe_ix ix_list (pv 0) pe_int (fun _ _ => rfl)) (pe_ix ix_list (pv 0) pe_int (fun _ _ => rfl)) (fun _ _ => rfl)))
        (pss_cons (ps_asg (pe_op op_add (pe_ix ix_list (pv 0) pe_int (fun _ _ => rfl)) pe_int) (pg_sub (pv 0) pe_int set_list))
        (pss_one (ps_if (pt_cmpR op_ge (pv 2) (pe_op op_pow pe_int pe_int) (nomark _))
          (pss_one (ps_asg (pe_op op_sub (pv 2) (pe_op op_pow pe_int pe_int)) (pg_sub (pv 0) pe_int set_list)))
          (pss_one (ps_asg (pe_op op_mod (pe_op op_add (pe_op op_add (pe_op op_mul (pe_ix ix_list (pv 0) pe_int (fun _ _ => rfl)) pe_int) (pe_op op_mul (pe_op op_mod (pv 2) pe_int) pe_int)) pe_int) pe_int) (pg_sub (pv 0) pe_int set_list)))))))
        pss_nil)
      (pss_cons (ps_if (pt_cmpR op_gt (pe_ix ix_list (pv 0) pe_int (fun _ _ => rfl)) pe_int (nomark _))
        (pss_cons (ps_set (i := 3) scPull.nd rfl (Or.inl rfl) (pe_op op_mod (pe_ix ix_list (pv 0) pe_int (fun _ _ => rfl)) (pv 1)))
        (pss_cons (ps_asg (pe_op op_fdivW (pe_ix ix_list (pv 0) pe_int (fun _ _ => rfl)) (pv 1)) (pg_sub (pv 0) pe_int set_list))
        (pss_one (ps_ret (pv 3))))) pss_nil)
      (pss_cons (ps_set (i := 4) scPull.nd rfl (Or.inl rfl) (pe_ix ix_list (pv 0) pe_int (fun _ _ => rfl)))
      (pss_cons (ps_asg (pe_op op_mod (pe_op op_add (pe_op op_add (pe_op op_mul (pe_op op_mul (pv 4) (pv 4)) pe_int) (pe_op op_mul (pv 4) pe_int)) pe_int) pe_int) (pg_sub (pv 0) pe_int set_list))
      (pss_one (ps_ret (pe_op op_mod (pe_op op_add (pe_op op_fdiv (pe_ix ix_list (pv 0) pe_int (fun _ _ => rfl)) pe_int) (pe_op op_mul (pe_op op_mod (pe_ix ix_list (pv 0) pe_int (fun _ _ => rfl)) pe_int) pe_int)) (pv 1))))))), ?_⟩
    obtain ⟨o, ho, i, r, sa, rfl, hi, hr0, hs0, hs1⟩ := B.ob
    refine ⟨fun σ H' => ∃ (v2 : Option V) (o : HO), σ = [some (.ref b), some (.int m), v2, none, none] ∧ H' = upd H b o ∧ BagO l ns o, ?_, ?_⟩
    · refine ⟨_, rfl, b, _, _, _, rfl, rfl, SqL.of ho, at2, rfl, _, rfl, ?_⟩
      have stay : H = upd H b (.lst [.ref l, .int (i : Int), .int r, .int sa]) := (upd_self ho).symm
      refine ite2 (fun c => ?_) (fun c => ?_)
      · have c0 : r = 0 := by
          have c1 := of_decide_eq_true c
          injection c1
        subst c0
        refine ⟨_, rfl, b, _, _, _, rfl, rfl, SqL.of ho, at1, _, rfl, b, _, _, _, rfl, rfl, SqL.of ho, at0, l, _, rfl, .inl (SqL.of B.sc), _, _, rfl, rfl, _, rfl, ?_⟩
        rw [List.length_map]
        refine ite2 (fun c => ?_) (fun c => ?_)
        · have c1 : (i : Int) < (ns.length : Int) := of_decide_eq_true c
          have c2 : i < ns.length := by omega
          have g1 : (ns.map V.int)[i]? = some (.int ns[i]) := by
            rw [List.getElem?_map, List.getElem?_eq_getElem c2]
            rfl
          refine ⟨_, rfl, b, _, _, _, rfl, rfl, SqL.of ho, at0, _, rfl, b, _, _, _, rfl, rfl, SqL.of ho, at1, l, _, _, _, rfl, rfl, SqL.of B.sc, atI_nat g1, ?_⟩
          refine ⟨_, rfl, b, _, _, _, rfl, rfl, SqL.of ho, at1, _, _, rfl, rfl, _, rfl, b, _, _, 1, rfl, rfl, ho, rfl, ?_⟩
          refine ⟨_, rfl, _, _, rfl, rfl, ⟨by decide, by decide, by decide⟩, _, _, rfl, rfl, _, rfl, ?_⟩
          refine ite2 (fun c => ?_) (fun c => ?_)
          · have c3 : (10 : Int) ^ (18 : Int).toNat ≤ ns[i] := of_decide_eq_true c
            refine ⟨_, rfl, _, _, rfl, rfl, ⟨by decide, by decide, by decide⟩, _, _, rfl, rfl, _, rfl, b, _, _, 2, rfl, rfl, upd_same, rfl, ?_⟩
            refine ⟨_, _, rfl, upd_upd, i + 1, ns[i] - 10 ^ (18 : Int).toNat, sa, by rfl, by omega, by omega, hs0, hs1⟩
          · refine ⟨_, rfl, b, _, _, _, rfl, rfl, SqL.of upd_same, at3, _, _, rfl, rfl, .inl ⟨by omega, by omega⟩, _, rfl, _, _, rfl, rfl, (by show (0 : Int) < 2147483563; decide), _, _, rfl, rfl, .inl ⟨by omega, by omega⟩, _, _, rfl, rfl, _, _, rfl, rfl, _, _, rfl, rfl, (by show (0 : Int) < 2147483563; decide), _, rfl, b, _, _, 3, rfl, rfl, upd_same, rfl, ?_⟩
            refine ⟨_, _, rfl, upd_upd, i + 1, 0, _, by rfl, by omega, by omega, ?_, ?_⟩
            · exact Int.emod_nonneg _ (by decide)
            · exact Int.emod_lt_of_pos _ (by decide)
        · refine ⟨none, _, rfl, stay, i, 0, sa, rfl, hi, by omega, hs0, hs1⟩
      · refine iteF ?_
        exact ⟨none, _, rfl, stay, i, r, sa, rfl, hi, hr0, hs0, hs1⟩
    · rintro σ H' ⟨v2, o, rfl, rfl, i, r, sa, rfl, hi, hr0, hs0, hs1⟩
      refine ⟨_, rfl, b, _, _, _, rfl, rfl, SqL.of upd_same, at2, _, _, rfl, rfl, _, rfl, ?_⟩
      refine ite2 (fun c => ?_) (fun c => ?_)
      · have c1 : 0 < r := of_decide_eq_true c
        refine ⟨_, rfl, b, _, _, _, rfl, rfl, SqL.of upd_same, at2, _, rfl, _, _, rfl, rfl, hm, ?_⟩
        refine ⟨_, rfl, b, _, _, _, rfl, rfl, SqL.of upd_same, at2, _, rfl, _, _, rfl, rfl, wide_div hm (b := 100) (by omega) (by decide) (by decide), _, rfl, b, _, _, 2, rfl, rfl, upd_same, rfl, ?_⟩
        refine ⟨_, rfl, ?_⟩
        rw [upd_upd]
        refine q _ _ (Int.emod_nonneg _ (by omega)) (Int.emod_lt_of_pos _ hm) ⟨i, r / m, sa, rfl, hi, Int.ediv_nonneg hr0 (by omega), hs0, hs1⟩
      · refine ⟨_, rfl, b, _, _, _, rfl, rfl, SqL.of upd_same, at3, ?_⟩
        have hq : sa * sa < 2 ^ 64 := by
          have : sa * sa ≤ sa * 2147483563 := Int.mul_le_mul_of_nonneg_left (by omega) hs0
          omega
        have hq0 : 0 ≤ sa * sa := Int.mul_nonneg hs0 hs0
        refine ⟨_, rfl, _, rfl, _, _, rfl, rfl, .inl ⟨by omega, by omega⟩, _, _, rfl, rfl, .inl ⟨by omega, by omega⟩, _, rfl, _, _, rfl, rfl, .inl ⟨by omega, by omega⟩, _, _, rfl, rfl, _, _, rfl, rfl, _, _, rfl, rfl, (by show (0 : Int) < 2147483563; decide), _, rfl, b, _, _, 3, rfl, rfl, upd_same, rfl, ?_⟩
        rw [upd_upd]
        obtain ⟨x, hx⟩ : ∃ x : Int, (sa * sa * 3 + sa * 16807 + 1013904223) % 2147483563 = x := ⟨_, rfl⟩
        have x0 : 0 ≤ x := hx ▸ Int.emod_nonneg _ (by decide)
        have x1 : x < 2147483563 := hx ▸ Int.emod_lt_of_pos _ (by decide)
        refine ⟨_, rfl, b, _, _, _, rfl, rfl, SqL.of upd_same, at3, _, _, rfl, rfl, ⟨by decide, by decide⟩, _, rfl, b, _, _, _, rfl, rfl, SqL.of upd_same, at3, _, _, rfl, rfl, (by show (0 : Int) < 8191; decide), _, _, rfl, rfl, .inl ⟨by omega, by omega⟩, _, _, rfl, rfl, _, rfl, _, _, rfl, rfl, hm, ?_⟩
        exact q _ _ (Int.emod_nonneg _ (by omega)) (Int.emod_lt_of_pos _ hm) ⟨i, r, x, by rw [← hx]; rfl, hi, hr0, x0, x1⟩
end
end Lw

set_option Elab.async false
set_option linter.all false
set_option maxRecDepth 100000
namespace Lw
open PySem L2
abbrev sLike : Stmt := top 20
/-- the built-in names that the law's helpers ask for -/
structure Bi (mg : Str → Option Value) : Prop where
  len : mg "len" = none
  list : mg "list" = none
  tuple : mg "tuple" = none
  bool : mg "bool" = none
  int : mg "int" = none
  str : mg "str" = none
  isi : mg "isinstance" = none
  all : mg "all" = none
  zip : mg "zip" = none
  range : mg "range" = none
def spOf (K : PySem.W.Frag) : Sp := fun vs H Q _ => ∃ (b l t : Addr) (ns : List Int) (xs : List V), vs = [.ref b, .ref t] ∧ BagAt H b l ns ∧ SqL K H t xs ∧ t ≠ b ∧ xs ≠ [] ∧ xs.length ≤ 1000 ∧
  ∀ (i : Nat) (v : V) (o : HO), xs[i]? = some v → BagO l ns o → Q v (upd H b o)
theorem if_t {c : Bool} {A B : Prop} (hc : c = true) (h : A) : if c = true then A else B := by
  rw [if_pos hc]
  exact h
theorem if_f {c : Bool} {A B : Prop} (hc : c = false) (h : B) : if c = true then A else B := by
  rw [hc, if_neg Bool.false_ne_true]
  exact h
theorem cut_all {xs : List V} (h : xs.length ≤ 63) : cutV xs none (some 63) = xs := by
  unfold cutV
  rw [HT.sIx_none, show HT.sIx xs.length xs.length (some 63) = min 63 xs.length from HT.sIx_nat xs.length xs.length 63, Nat.min_eq_right h]
  simp
section
variable {P : Program} {w : World} {K : PySem.W.Frag} {mg : Str → Option Value} {base : Heap}
theorem SqL.upd_ne {H : Hp} {a b : Addr} {xs : List V} {o : HO} (h : SqL K H a xs) (e : a ≠ b) : SqL K (upd H b o) a xs := by
  unfold SqL Rd at h ⊢
  rw [L2.upd_ne e]
  exact h
/-! ### _law_bag -/
theorem scBag : FnScope ["_law_script", "_law_salt", "_law_cell"] ["_law_script"] (defScope sBag) := ⟨rfl, rfl, rfl, by decide +kernel, rfl, by decide +kernel, by decide +kernel⟩
set_option maxHeartbeats 4000000 in
theorem ok_bag {f : Addr} {fd : FuncData} {k : Nat} (F : Fun K "_law_bag" "_law_bag" sBag f fd) (T : Bi mg) : FnOk P w K mg base CX0 (k + 1) f fd ["_law_script"] (spBag K) := by
  refine F.ok scBag (fun vs H Q E h => ?_) (fun cdv A outer s H vs Q E hr h => ?_)
  · obtain ⟨b, ns, rfl, _⟩ := h
    rfl
  · obtain ⟨a, ns, rfl, hS, hl, q⟩ := h
    refine ⟨_, pss_cons (ps_set (i := 1) scBag.nd rfl (Or.inl rfl) pe_int)
      (pss_cons (ps_for PassesOwn.never rfl (pi_list (pe_slice sl_list (pv 0) po_none (po_some pe_int))) (pg_name (i := 2) scBag.nd rfl (Or.inl rfl))
        (pss_one (ps_set (i := 1) scBag.nd rfl (Or.inl rfl) (pe_op op_mod (pe_op op_add (pe_op op_add (pe_op op_mul (pv 1) pe_int) (pe_op op_mod (pv 2) pe_int)) pe_int) pe_int))))
      (pss_one (ps_ret (pe_lst (pa_cons (pe_callTy call_list_of (by rfl) T.list (by decide +kernel) (pa_cons (pe_slice sl_list (pv 0) po_none (po_some pe_int)) pa_nil)) (pa_cons pe_int (pa_cons pe_int (pa_cons (pv 1) pa_nil)))))))), ?_⟩
    have hl' : (ns.map V.int).length ≤ 63 := by rw [List.length_map]; exact hl
    refine ⟨_, rfl, _, rfl, a, _, rfl, hS, fun p hp => ?_⟩
    rw [cut_all hl']
    have s1 : Same H (upd H p (.lst (ns.map V.int))) := same_upd hp
    refine ⟨p, rfl, ⟨_, SqL.of upd_same⟩, for_list (K := K) (a := p) (xs := ns.map V.int) (fun i σ H' => ∃ (v : Option V) (sa : Int), σ = [some (.ref a), some (.int sa), v] ∧ H' = upd H p (.lst (ns.map V.int)) ∧ 0 ≤ sa ∧ sa < 2147483563)
      ⟨none, 3803, rfl, rfl, by decide, by decide⟩ (fun i σ H' _ ⟨_, _, _, e, _⟩ => by subst e; exact SqL.of upd_same) ?_ ?_⟩
    · rintro i y σ H' hi ⟨v, sa, rfl, rfl, h0, h1⟩
      obtain ⟨z, rfl⟩ : ∃ z, y = V.int z := by
        rw [List.getElem?_map] at hi
        cases e : ns[i]? with
        | none =>
          rw [e] at hi
          cases hi
        | some z =>
          rw [e] at hi
          exact ⟨z, (Option.some.inj hi).symm⟩
      refine ⟨_, rfl, _, _, rfl, rfl, .inl ⟨by omega, by omega⟩, _, rfl, _, _, rfl, rfl, (by show (0 : Int) < 2147483563; decide), _, _, rfl, rfl, _, _, rfl, rfl, _, _, rfl, rfl, (by show (0 : Int) < 2147483563; decide), ?_⟩
      exact ⟨_, _, rfl, rfl, Int.emod_nonneg _ (by decide), Int.emod_lt_of_pos _ (by decide)⟩
    · rintro σ H' ⟨v, sa, rfl, rfl, h0, h1⟩
      refine ⟨_, rfl, _, rfl, a, _, rfl, s1.seq hS, fun p2 hp2 => ?_⟩
      rw [cut_all hl']
      refine ⟨p2, _, rfl, .inl (SqL.of upd_same), fun l hl2 => ?_⟩
      have s2 := s1.trans (same_upd (o := .lst (ns.map V.int)) hp2)
      have s3 := s2.trans (same_upd (o := .lst (ns.map V.int)) hl2)
      refine ⟨_, rfl, (by show 4 ≤ sizeLine; decide), fun b hb => ?_⟩
      have nl : H l = none := s2.free hl2
      have nb : H b = none := s3.free hb
      have lb : l ≠ b := fun e => by
        rw [← e, upd_same] at hb
        cases hb
      refine q b l _ (s3.trans (same_upd hb)) nb nl ⟨⟨_, upd_same, 0, 0, sa, rfl, Nat.zero_le _, by decide, h0, h1⟩, ?_, hl⟩
      rw [upd_ne lb, upd_same]
/-! ### _law_of -/
theorem scOf : FnScope ["_law_bag_here", "_law_things"] ["_law_bag_here", "_law_things"] (defScope sOf) := ⟨rfl, rfl, rfl, by decide +kernel, rfl, by decide +kernel, by decide +kernel⟩
set_option maxHeartbeats 4000000 in
theorem ok_of {f : Addr} {fd : FuncData} {k : Nat} (F : Fun K "_law_of" "_law_of" sOf f fd) (T : Bi mg) (cP : C8.Cal P w K mg base 1 "_law_pull" spPull []) : FnOk P w K mg base CX0 (k + 2) f fd ["_law_bag_here", "_law_things"] (spOf K) := by
  refine F.ok scOf (fun vs H Q E h => ?_) (fun cdv A outer s H vs Q E hr h => ?_)
  · obtain ⟨b, l, t, ns, xs, rfl, _⟩ := h
    rfl
  · obtain ⟨b, l, t, ns, xs, rfl, B, hS, ne, nn, hl, q⟩ := h
    refine ⟨_, pss_one (ps_ret (pe_ix ix_list (pv 1) (C8.pe_c cP hr (Nat.le_add_left 1 k) (by rfl) (pa_cons (pv 0) (pa_cons (pe_callB call_len_seq (by rfl) T.len PySem.boot_len (pa_cons (pv 1) pa_nil)) pa_nil))) (fun _ _ => rfl))), ?_⟩
    have l0 : 0 < xs.length := List.length_pos_iff.mpr nn
    refine ⟨_, rfl, _, rfl, _, rfl, t, xs, rfl, .inl hS, b, l, ns, _, rfl, B, by omega, by omega, fun v o v0 v1 BO => ?_⟩
    have hv : v.toNat < xs.length := by omega
    have hvv : ((v.toNat : Nat) : Int) = v := Int.toNat_of_nonneg v0
    have g : atI xs v = some xs[v.toNat] := by
      have := atI_nat (xs := xs) (j := v.toNat) (v := xs[v.toNat]) (List.getElem?_eq_getElem hv)
      rw [hvv] at this
      exact this
    exact ⟨t, xs, v, _, rfl, rfl, SqL.upd_ne hS ne, g, q v.toNat _ o (List.getElem?_eq_getElem hv) BO⟩
/-! ### _law_like of like things is True -/
def atomV : V → Bool
  | .non => true
  | .bl _ => true
  | .int _ => true
  | .str _ => true
  | _ => false
def Lk (H : Hp) : Nat → V → V → Prop
  | 0, _, _ => False
  | n + 1, x, y => (x = y ∧ atomV x = true) ∨
    (∃ (a b : Addr) (xs ys : List V), x = .ref a ∧ y = .ref b ∧ H a = some (.lst xs) ∧ H b = some (.lst ys) ∧ xs.length = ys.length ∧ xs.length ≤ 1000 ∧ ∀ (i : Nat) u v, xs[i]? = some u → ys[i]? = some v → Lk H n u v) ∨
    (∃ (a b : Addr) (xs ys : List V), x = .ref a ∧ y = .ref b ∧ H a = some (.tup xs) ∧ H b = some (.tup ys) ∧ xs.length = ys.length ∧ xs.length ≤ 1000 ∧ ∀ (i : Nat) u v, xs[i]? = some u → ys[i]? = some v → Lk H n u v)
theorem Lk.same {H H' : Hp} (s : Same H H') : ∀ (n : Nat) (x y : V), Lk H n x y → Lk H' n x y
  | 0, _, _, h => h
  | n + 1, x, y, h => by
    rcases h with h | ⟨a, b, xs, ys, e1, e2, e3, e4, e5, e6, h⟩ | ⟨a, b, xs, ys, e1, e2, e3, e4, e5, e6, h⟩
    · exact .inl h
    · exact .inr (.inl ⟨a, b, xs, ys, e1, e2, s _ _ e3, s _ _ e4, e5, e6, fun i u v h1 h2 => Lk.same s n u v (h i u v h1 h2)⟩)
    · exact .inr (.inr ⟨a, b, xs, ys, e1, e2, s _ _ e3, s _ _ e4, e5, e6, fun i u v h1 h2 => Lk.same s n u v (h i u v h1 h2)⟩)
def spLike (n : Nat) : Sp := fun vs H Q _ => ∃ x y, vs = [x, y] ∧ Lk H n x y ∧ ∀ H', Same H H' → Q (.bl true) H'
theorem scLike : FnScope ["_law_found", "_law_due", "_law_one", "_law_other"] ["_law_found", "_law_due"] (defScope sLike) := ⟨rfl, rfl, rfl, by decide +kernel, rfl, by decide +kernel, by decide +kernel⟩
theorem walk_zipT {a b : Addr} {xs ys : List V} {n : Nat} (hn : n = min xs.length ys.length) : Walk (RZ.ItzT K a b) n (fun H => SqT K H a xs ∧ SqT K H b ys) (YPair (fun i => xs[i]?) (fun i => ys[i]?)) := by
  subst hn
  refine ⟨fun i H hi q => ?_, fun H q => ?_, fun i H x H' hi q y => ?_⟩
  · have h1 : i < xs.length := by omega
    have h2 : i < ys.length := by omega
    exact ⟨xs, ys, xs[i], ys[i], q.1, q.2, by simp [h1], by simp [h2]⟩
  · exact ⟨xs, ys, q.1, q.2, by omega⟩
  · obtain ⟨T, u, v, e1, e2, e3, g1, g2⟩ := y
    exact ⟨T, u, v, e1, e2, e3, g1 xs q.1, g2 ys q.2⟩
/-- what the law asks of an atom: its type's name -/
def tyV : V → String
  | .non => "NoneType"
  | .bl _ => "bool"
  | .int _ => "int"
  | .str _ => "str"
  | _ => "none"
theorem tyV_of {H : Hp} {x : V} (h : atomV x = true) : TyX K H x (.type (tyV x)) := by
  cases x with
  | non => exact .base .non
  | bl b => exact .base (.bl b)
  | int i => exact .base (.int i)
  | str z => exact .base (.str z)
  | _ => cases h
theorem tyV_cases {x : V} (h : atomV x = true) : tyV x = "NoneType" ∨ tyV x = "bool" ∨ tyV x = "int" ∨ tyV x = "str" := by
  cases x with
  | non => exact .inl rfl
  | bl b => exact .inr (.inl rfl)
  | int i => exact .inr (.inr (.inl rfl))
  | str z => exact .inr (.inr (.inr rfl))
  | _ => cases h
/-- isinstance of an atom: some answer, by the type alone -/
def isB (x : V) (T : String) : Bool := (kitB (tyV x) T).getD false
theorem isB_of {x : V} {T : String} (h : atomV x = true) (hT : T = "list" ∨ T = "tuple" ∨ T = "bool" ∨ T = "int" ∨ T = "str") : PySem.W.kitOne K (.type (tyV x)) (.type T) = some (isB x T) := by
  refine kit_ty ?_
  unfold isB
  rcases tyV_cases h with e | e | e | e <;> rw [e] <;> rcases hT with e | e | e | e | e <;> rw [e] <;> decide +kernel
theorem isB_no {x : V} (h : atomV x = true) : PySem.W.kitAny K (.type (tyV x)) [.type "list", .type "tuple"] = some false := by
  rcases tyV_cases h with e | e | e | e <;> rw [e]
  all_goals
    refine kitAny_cons (b := false) (kit_ty (by decide +kernel)) (fun _ => ?_) (fun z => by cases z)
    refine kitAny_cons (b := false) (kit_ty (by decide +kernel)) (fun _ => rfl) (fun z => by cases z)
theorem all_true (n : Nat) : (List.replicate n true).all id = true := by
  rw [List.all_replicate]
  simp
theorem like0 {f : Addr} {fd : FuncData} {k : Nat} (F : Fun K "_law_like" "_law_like" sLike f fd) : FnOk P w K mg base CX0 (k + 1) f fd ["_law_found", "_law_due"] (spLike 0) := by
  refine F.ok scLike (fun vs H Q E h => ?_) (fun cdv A outer s H vs Q E hr h => ?_)
  · obtain ⟨x, y, rfl, _⟩ := h
    rfl
  · obtain ⟨x, y, rfl, L, q⟩ := h
    exact L.elim
set_option maxHeartbeats 8000000 in
theorem ok_like {f : Addr} {fd : FuncData} {n k : Nat} (F : Fun K "_law_like" "_law_like" sLike f fd) (T : Bi mg) (c : 0 < n → C8.Cal P w K mg base (k + 1) "_law_like" (spLike (n - 1)) []) : FnOk P w K mg base CX0 (k + 2) f fd ["_law_found", "_law_due"] (spLike n) := by
  refine F.ok scLike (fun vs H Q E h => ?_) (fun cdv A outer s H vs Q E hr h => ?_)
  · obtain ⟨x, y, rfl, _⟩ := h
    rfl
  · obtain ⟨x, y, rfl, L, q⟩ := h
    cases n with
    | zero => exact L.elim
    | succ n =>
      have cc := c (Nat.succ_pos n)
      refine ⟨_, pss_cons (ps_if (pt_val (pe_callB call_isiT (by rfl) T.isi (by decide +kernel) (pa_cons (pv 1) (pa_cons (pe_tup (pa_cons (pe_bltn (v := .ty "list") (by rfl) T.list (by decide +kernel) rfl) (pa_cons (pe_bltn (v := .ty "tuple") (by rfl) T.tuple (by decide +kernel) rfl) pa_nil))) pa_nil))))
          (pss_cons (ps_if (PW.pt (pw_or (pt_cmpR op_ne (pe_callB call_isi (by rfl) T.isi (by decide +kernel) (pa_cons (pv 0) (pa_cons (pe_bltn (v := .ty "list") (by rfl) T.list (by decide +kernel) rfl) pa_nil))) (pe_callB call_isi (by rfl) T.isi (by decide +kernel) (pa_cons (pv 1) (pa_cons (pe_bltn (v := .ty "list") (by rfl) T.list (by decide +kernel) rfl) pa_nil))) (nomark _))
              (pw_or1 (pt_cmpR op_ne (pe_callB call_isi (by rfl) T.isi (by decide +kernel) (pa_cons (pv 0) (pa_cons (pe_bltn (v := .ty "tuple") (by rfl) T.tuple (by decide +kernel) rfl) pa_nil))) (pe_callB call_isi (by rfl) T.isi (by decide +kernel) (pa_cons (pv 1) (pa_cons (pe_bltn (v := .ty "tuple") (by rfl) T.tuple (by decide +kernel) rfl) pa_nil))) (nomark _))))) (pss_one (ps_ret pe_bl)) pss_nil)
          (pss_one (ps_ret (pe_and (pe_cmpR op_eq (pe_callB call_len_seq (by rfl) T.len PySem.boot_len (pa_cons (pv 0) pa_nil)) (pe_callB call_len_seq (by rfl) T.len PySem.boot_len (pa_cons (pv 1) pa_nil)) (nomark _))
            (pe_one (pe_callB (cr_all rfl) (by rfl) T.all (by decide +kernel) (pa_cons
              (pe_lc (own := [("_law_one", 2), ("_law_other", 3)]) (g := gTup K 2 (gCons (gName 2) (gCons (gName 3) gNil))) (tt := tYes) (te := tCall (spLike n) [] E0 (tCons (tVar 2) (tCons (tVar 3) tNil))) rfl scLike.nd (RZ.pi_zipA (by rfl) T.zip (pa_cons (pv 0) (pa_cons (pv 1) pa_nil)))
                (blkOk_by (N := ["_law_found", "_law_due", "_law_one", "_law_other"]) (sc := defScope sLike) (by decide +kernel))
                (fun _ _ _ _ _ => by exact pg_tup rfl (pgs_cons (pg_name (i := 2) scLike.nd rfl (Or.inl rfl)) (pgs_cons (pg_name (i := 3) scLike.nd rfl (Or.inl rfl)) pgs_nil)))
                (fun _ _ _ _ _ => pts_nil)
                (fun _ _ _ _ _ => by exact C8.pe_c cc hr (Nat.le_refl _) (by rfl) (pa_cons (pv 2) (pa_cons (pv 3) pa_nil)))) pa_nil))))))) pss_nil)
        (pss_cons (ps_if (PW.pt (pw_or (pt_cmpR op_isN (pv 0) pe_non (nomark _)) (pw_or1 (pt_cmpR op_isN (pv 1) pe_non (nomark _))))) (pss_one (ps_ret (pe_and (pe_cmpR op_isN (pv 0) pe_non (nomark _)) (pe_one (pe_cmpR op_isN (pv 1) pe_non (nomark _)))))) pss_nil)
        (pss_cons (ps_if (PW.pt (pw_or (pt_cmpR op_ne (pe_callB call_isi (by rfl) T.isi (by decide +kernel) (pa_cons (pv 0) (pa_cons (pe_bltn (v := .ty "bool") (by rfl) T.bool (by decide +kernel) rfl) pa_nil))) (pe_callB call_isi (by rfl) T.isi (by decide +kernel) (pa_cons (pv 1) (pa_cons (pe_bltn (v := .ty "bool") (by rfl) T.bool (by decide +kernel) rfl) pa_nil))) (nomark _))
              (pw_or1 (pt_cmpR op_ne (pe_callB call_isi (by rfl) T.isi (by decide +kernel) (pa_cons (pv 0) (pa_cons (pe_bltn (v := .ty "int") (by rfl) T.int (by decide +kernel) rfl) pa_nil))) (pe_callB call_isi (by rfl) T.isi (by decide +kernel) (pa_cons (pv 1) (pa_cons (pe_bltn (v := .ty "int") (by rfl) T.int (by decide +kernel) rfl) pa_nil))) (nomark _))))) (pss_one (ps_ret pe_bl)) pss_nil)
        (pss_one (ps_ret (pe_and (pe_cmpR op_eq (pe_callB call_isi (by rfl) T.isi (by decide +kernel) (pa_cons (pv 0) (pa_cons (pe_bltn (v := .ty "str") (by rfl) T.str (by decide +kernel) rfl) pa_nil))) (pe_callB call_isi (by rfl) T.isi (by decide +kernel) (pa_cons (pv 1) (pa_cons (pe_bltn (v := .ty "str") (by rfl) T.str (by decide +kernel) rfl) pa_nil))) (nomark _)) (pe_one (pe_cmpR op_eq (pv 0) (pv 1) (nomark _)))))))), ?_⟩
      rcases L with ⟨rfl, ha⟩ | ⟨a, b, xs, ys, rfl, rfl, ea, eb, hl, h1000, hp⟩ | ⟨a, b, xs, ys, rfl, rfl, ea, eb, hl, h1000, hp⟩
      · refine ⟨_, rfl, (by show 2 ≤ sizeLine; decide), fun t ht => ?_⟩
        have s1 := same_upd (o := .tup [.ty "list", .ty "tuple"]) ht
        refine ⟨x, t, _, _, _, _, rfl, upd_same, .cons (.ty _) (.cons (.ty _) .nil), tyV_of ha, isB_no ha, false, rfl, ?_⟩
        refine iteF ?_
        refine ⟨_, rfl, rfl, _, rfl, ?_⟩
        by_cases hx : x = .non
        · subst hx
          refine if_t (decide_eq_true rfl) (iteT ?_)
          exact ⟨_, rfl, rfl, _, rfl, if_t (decide_eq_true rfl) ⟨_, rfl, rfl, q _ s1⟩⟩
        · refine if_f (decide_eq_false hx) ⟨_, rfl, rfl, _, rfl, if_f (decide_eq_false hx) ?_⟩
          refine ⟨_, rfl, x, _, _, _, _, rfl, .ty _, tyV_of ha, isB_of ha (by simp), _, rfl, x, _, _, _, _, rfl, .ty _, tyV_of ha, isB_of ha (by simp), rfl, _, rfl, ?_⟩
          refine if_f (by simp) ?_
          refine ⟨_, rfl, x, _, _, _, _, rfl, .ty _, tyV_of ha, isB_of ha (by simp), _, rfl, x, _, _, _, _, rfl, .ty _, tyV_of ha, isB_of ha (by simp), rfl, _, rfl, ?_⟩
          refine if_f (by simp) ?_
          refine ⟨_, rfl, x, _, _, _, _, rfl, .ty _, tyV_of ha, isB_of ha (by simp), _, rfl, x, _, _, _, _, rfl, .ty _, tyV_of ha, isB_of ha (by simp), rfl, _, rfl, ?_⟩
          refine if_t (by simp) ?_
          refine ⟨_, rfl, _, rfl, ?_, ?_⟩
          · cases x <;> first | rfl | (cases ha)
          · rw [decide_eq_true rfl]
            exact q _ s1
      · refine ⟨_, rfl, (by show 2 ≤ sizeLine; decide), fun t ht => ?_⟩
        have s1 := same_upd (o := .tup [.ty "list", .ty "tuple"]) ht
        have ea1 := s1 _ _ ea
        have eb1 := s1 _ _ eb
        refine ⟨.ref b, t, _, _, _, _, rfl, upd_same, .cons (.ty _) (.cons (.ty _) .nil), .base (.lst eb1), kitAny_cons (b := true) (kit_ty (by decide +kernel)) (fun z => by cases z) (fun _ => rfl), true, rfl, ?_⟩
        refine iteT ?_
        refine ⟨_, rfl, _, _, _, _, true, rfl, .ty _, .base (.lst ea1), kit_ty (by decide +kernel), _, rfl, _, _, _, _, true, rfl, .ty _, .base (.lst eb1), kit_ty (by decide +kernel), rfl, _, rfl, ?_⟩
        refine if_f (by simp) ?_
        refine ⟨_, rfl, _, _, _, _, false, rfl, .ty _, .base (.lst ea1), kit_ty (by decide +kernel), _, rfl, _, _, _, _, false, rfl, .ty _, .base (.lst eb1), kit_ty (by decide +kernel), rfl, _, rfl, ?_⟩
        refine if_f (by simp) ?_
        refine ⟨_, rfl, a, xs, rfl, .inl (SqL.of ea1), _, rfl, b, ys, rfl, .inl (SqL.of eb1), rfl, _, rfl, ?_⟩
        refine if_t (by rw [hl]; exact decide_eq_true rfl) ?_
        refine ⟨_, rfl, _, rfl, a, b, xs, ys, rfl, .inl ⟨SqL.of ea1, SqL.of eb1, fun D hD => ?_⟩⟩
        have s2 := s1.trans (same_upd (o := .lst []) hD)
        refine lc_it (walk_zip (K := K) (a := a) (b := b) (xs := xs) (ys := ys) (n := xs.length) (by omega)) (fun i H' => Same H H' ∧ H' D = some (.lst ((List.replicate i true).map V.bl))) ⟨s2, upd_same⟩ (fun i H' _ p => ⟨SqL.of (p.1 _ _ ea), SqL.of (p.1 _ _ eb)⟩) ?_ ?_
        · rintro i v H1 H' hi ⟨sm, eD⟩ ⟨T, x, y, rfl, hT, rfl, gx, gy⟩
          have s3 := sm.trans (same_upd (o := .tup [x, y]) hT)
          refine ⟨T, _, rfl, SqT.of upd_same, rfl, _, _, rfl, _, _, rfl, rfl, rfl, ?_⟩
          refine ⟨_, rfl, _, rfl, x, y, rfl, Lk.same s3 n _ _ (hp i x y gx gy), fun H4 s4 => ?_⟩
          have eD4 : H4 D = some (.lst ((List.replicate i true).map V.bl)) := s4 _ _ (by rw [upd_ne (ne_of_none eD hT)]; exact eD)
          have nD : H D = none := s1.free hD
          refine ⟨_, eD4, ?_, ?_, ?_⟩
          · rw [List.length_map, List.length_replicate]
            exact small1000 (by omega)
          · intro c o ec
            rw [upd_ne (ne_of_none ec nD)]
            exact s4 _ _ (s3 _ _ ec)
          · rw [upd_same, List.replicate_succ', List.map_append]
            rfl
        · rintro H' ⟨sm, eD⟩
          refine ⟨D, List.replicate xs.length true, rfl, SqL.of eD, ?_⟩
          rw [all_true]
          exact q H' sm
      · refine ⟨_, rfl, (by show 2 ≤ sizeLine; decide), fun t ht => ?_⟩
        have s1 := same_upd (o := .tup [.ty "list", .ty "tuple"]) ht
        have ea1 := s1 _ _ ea
        have eb1 := s1 _ _ eb
        refine ⟨.ref b, t, _, _, _, _, rfl, upd_same, .cons (.ty _) (.cons (.ty _) .nil), .base (.tup eb1), kitAny_cons (b := false) (kit_ty (by decide +kernel)) (fun _ => kitAny_cons (b := true) (kit_ty (by decide +kernel)) (fun z => by cases z) (fun _ => rfl)) (fun z => by cases z), true, rfl, ?_⟩
        refine iteT ?_
        refine ⟨_, rfl, _, _, _, _, false, rfl, .ty _, .base (.tup ea1), kit_ty (by decide +kernel), _, rfl, _, _, _, _, false, rfl, .ty _, .base (.tup eb1), kit_ty (by decide +kernel), rfl, _, rfl, ?_⟩
        refine if_f (by simp) ?_
        refine ⟨_, rfl, _, _, _, _, true, rfl, .ty _, .base (.tup ea1), kit_ty (by decide +kernel), _, rfl, _, _, _, _, true, rfl, .ty _, .base (.tup eb1), kit_ty (by decide +kernel), rfl, _, rfl, ?_⟩
        refine if_f (by simp) ?_
        refine ⟨_, rfl, a, xs, rfl, .inr (SqT.of ea1), _, rfl, b, ys, rfl, .inr (SqT.of eb1), rfl, _, rfl, ?_⟩
        refine if_t (by rw [hl]; exact decide_eq_true rfl) ?_
        refine ⟨_, rfl, _, rfl, a, b, xs, ys, rfl, .inr ⟨SqT.of ea1, SqT.of eb1, fun D hD => ?_⟩⟩
        have s2 := s1.trans (same_upd (o := .lst []) hD)
        refine lc_it (walk_zipT (K := K) (a := a) (b := b) (xs := xs) (ys := ys) (n := xs.length) (by omega)) (fun i H' => Same H H' ∧ H' D = some (.lst ((List.replicate i true).map V.bl))) ⟨s2, upd_same⟩ (fun i H' _ p => ⟨SqT.of (p.1 _ _ ea), SqT.of (p.1 _ _ eb)⟩) ?_ ?_
        · rintro i v H1 H' hi ⟨sm, eD⟩ ⟨T, x, y, rfl, hT, rfl, gx, gy⟩
          have s3 := sm.trans (same_upd (o := .tup [x, y]) hT)
          refine ⟨T, _, rfl, SqT.of upd_same, rfl, _, _, rfl, _, _, rfl, rfl, rfl, ?_⟩
          refine ⟨_, rfl, _, rfl, x, y, rfl, Lk.same s3 n _ _ (hp i x y gx gy), fun H4 s4 => ?_⟩
          have eD4 : H4 D = some (.lst ((List.replicate i true).map V.bl)) := s4 _ _ (by rw [upd_ne (ne_of_none eD hT)]; exact eD)
          have nD : H D = none := s1.free hD
          refine ⟨_, eD4, ?_, ?_, ?_⟩
          · rw [List.length_map, List.length_replicate]
            exact small1000 (by omega)
          · intro c o ec
            rw [upd_ne (ne_of_none ec nD)]
            exact s4 _ _ (s3 _ _ ec)
          · rw [upd_same, List.replicate_succ', List.map_append]
            rfl
        · rintro H' ⟨sm, eD⟩
          refine ⟨D, List.replicate xs.length true, rfl, SqL.of eD, ?_⟩
          rw [all_true]
          exact q H' sm
end
end Lw

set_option Elab.async false
set_option linter.all false
set_option maxRecDepth 100000
namespace Lw
open PySem L2
abbrev sPlan : Stmt := top 21
/-! ### edges: their tuples' places, and their two ends -/
abbrev Es := List (Addr × Int × Int)
def Ed (H : Hp) (ts : Es) : Prop := ∀ e ∈ ts, H e.1 = some (.tup [.int e.2.1, .int e.2.2])
def vsOf (ts : Es) : List V := ts.map fun e => .ref e.1
def psOf (ts : Es) : List (Int × Int) := ts.map (·.2)
/-- all that stood, but at b, stands -/
def KeepB (b : Addr) (H H' : Hp) : Prop := ∀ c o, c ≠ b → H c = some o → H' c = some o
theorem KeepB.rfl' {b : Addr} {H : Hp} : KeepB b H H := fun _ _ _ e => e
theorem KeepB.trans {b : Addr} {H H1 H2 : Hp} (x : KeepB b H H1) (y : KeepB b H1 H2) : KeepB b H H2 := fun c o n e => y c o n (x c o n e)
theorem KeepB.of_same {b : Addr} {H H' : Hp} (s : Same H H') : KeepB b H H' := fun c o _ e => s c o e
theorem KeepB.updb {b : Addr} {H : Hp} {o : HO} : KeepB b H (upd H b o) := fun c o n e => by
  rw [upd_ne n]
  exact e
theorem KeepB.new {b p : Addr} {H H' : Hp} {o : HO} (x : KeepB b H H') (n : H' p = none) : KeepB b H (upd H' p o) := x.trans (.of_same (same_upd n))
/-- a store at what was not there at first -/
theorem KeepB.at {b p : Addr} {H H' : Hp} {o : HO} (x : KeepB b H H') (n : H p = none) : KeepB b H (upd H' p o) := fun c o' nb e => by
  rw [upd_ne (ne_of_none e n)]
  exact x c o' nb e
theorem KeepB.free {b p : Addr} {H H' : Hp} {ob : HO} (x : KeepB b H H') (hb : H' b = some ob) (n : H' p = none) : H p = none := by
  cases e : H p with
  | none => rfl
  | some o =>
    have np : p ≠ b := fun z => by
      rw [z, hb] at n
      cases n
    rw [x p o np e] at n
    cases n
theorem BagAt.at_b {H : Hp} {b l : Addr} {ns : List Int} (B : BagAt H b l ns) : ∃ xs, H b = some (.lst xs) := by
  obtain ⟨o, ho, i, r, s, rfl, _⟩ := B.ob
  exact ⟨_, ho⟩
theorem BagAt.ne_tup {H : Hp} {b l c : Addr} {ns : List Int} {xs : List V} (B : BagAt H b l ns) (h : H c = some (.tup xs)) : c ≠ b := fun e => by
  obtain ⟨ys, hb⟩ := B.at_b
  rw [e, hb] at h
  cases h
theorem BagAt.ne_ins {H : Hp} {b l c C dx : Addr} {ns : List Int} {fs : List (Str × V)} (B : BagAt H b l ns) (h : H c = some (.ins C dx fs)) : c ≠ b := fun e => by
  obtain ⟨ys, hb⟩ := B.at_b
  rw [e, hb] at h
  cases h
theorem BagAt.ne_new {H : Hp} {b l c : Addr} {ns : List Int} (B : BagAt H b l ns) (h : H c = none) : c ≠ b := fun e => by
  obtain ⟨ys, hb⟩ := B.at_b
  rw [e, hb] at h
  cases h
theorem vsOf_cons_ne {l : Addr} {ts : Es} {i : Nat} {r s : Int} : vsOf ts ≠ [.ref l, .int (i : Int), .int r, .int s] := fun e => by
  have h : (vsOf ts)[1]? = some (V.int (i : Int)) := by rw [e]; rfl
  unfold vsOf at h
  rw [List.getElem?_map] at h
  cases g : ts[1]? with
  | none => rw [g] at h; cases h
  | some x => rw [g] at h; cases h
theorem BagAt.ne_vs {H : Hp} {b l c : Addr} {ns : List Int} {ts : Es} (B : BagAt H b l ns) (h : H c = some (.lst (vsOf ts))) : c ≠ b := fun e => by
  obtain ⟨o, ho, i, r, s, rfl, _⟩ := B.ob
  rw [e, ho] at h
  injection h with h
  injection h with h
  exact vsOf_cons_ne h.symm
theorem Ed.keep {H H' : Hp} {b l : Addr} {ns : List Int} {ts : Es} (h : Ed H ts) (B : BagAt H b l ns) (k : KeepB b H H') : Ed H' ts := fun e he => k _ _ (B.ne_tup (h e he)) (h e he)
theorem Ed.same {H H' : Hp} {ts : Es} (h : Ed H ts) (k : Same H H') : Ed H' ts := fun e he => k _ _ (h e he)
theorem Ed.app {H : Hp} {ts us : Es} (h : Ed H ts) (h2 : Ed H us) : Ed H (ts ++ us) := fun e he => (List.mem_append.mp he).elim (h e) (h2 e)
theorem Ed.nil {H : Hp} : Ed H [] := fun e he => nomatch he
theorem Ed.one {H : Hp} {t : Addr} {x y : Int} (h : H t = some (.tup [.int x, .int y])) : Ed H [(t, x, y)] := fun e he => by
  have z := List.mem_singleton.mp he
  subst z
  exact h
/-- the bag where all but the bag stands -/
theorem BagAt.new {H : Hp} {b l p : Addr} {ns : List Int} {o : HO} (B : BagAt H b l ns) (n : H p = none) : BagAt (L2.upd H p o) b l ns := B.same (same_upd n)
theorem BagAt.off {H : Hp} {b l p : Addr} {ns : List Int} {o : HO} (B : BagAt H b l ns) (nb : p ≠ b) (nl : p ≠ l) : BagAt (L2.upd H p o) b l ns := by
  obtain ⟨ob, hob, hB⟩ := B.ob
  exact ⟨⟨ob, by rw [upd_ne nb.symm]; exact hob, hB⟩, by rw [upd_ne nl.symm]; exact B.sc, B.ln⟩
structure Valid (n : Int) (ts : Es) : Prop where
  rg : ∀ e ∈ ts, 0 ≤ e.2.1 ∧ e.2.1 < n ∧ 0 ≤ e.2.2 ∧ e.2.2 < n
  sr : ∀ k : Int, 0 ≤ k → k < n → ∃ e ∈ ts, e.2.1 = k
structure PlanAt (H : Hp) (p q : Addr) (n : Int) (ts : Es) : Prop where
  tp : H p = some (.tup [.int n, .ref q])
  ls : H q = some (.lst (vsOf ts))
  ed : Ed H ts
  va : Valid n ts
  n1 : 1 ≤ n
def spPlan : Sp := fun vs H Q _ => ∃ (b l : Addr) (ns : List Int) (most many : Int), vs = [.ref b, .int most, .int many] ∧ BagAt H b l ns ∧ 1 ≤ most ∧ most ≤ many ∧ many ≤ 100 ∧
  ∀ (p q : Addr) (n : Int) (ts : Es) (H' : Hp), KeepB b H H' → BagAt H' b l ns → H p = none → H q = none → PlanAt H' p q n ts → n ≤ most → (ts.length : Int) ≤ many → Q (.ref p) H'
theorem cut_lo {xs : List V} {k : Nat} (h : k ≤ xs.length) : cutV xs none (some (k : Int)) = xs.take k := by
  unfold cutV
  rw [HT.sIx_none, HT.sIx_nat, Nat.min_eq_left h]
  simp
theorem cut_hi {xs : List V} {k : Nat} (h : k ≤ xs.length) : cutV xs (some (k : Int)) none = xs.drop k := by
  unfold cutV
  rw [HT.sIx_none, HT.sIx_nat, Nat.min_eq_left h]
  rw [List.take_of_length_le]
  rw [List.length_drop]
  exact Nat.le_refl _
section
variable {P : Program} {w : World} {K : PySem.W.Frag} {mg : Str → Option Value} {base : Heap}
theorem scPlan : FnScope ["_law_bag_here", "_law_most", "_law_many", "_law_size", "_law_pairs", "_law_k", "_law_at", "_law_state"] ["_law_bag_here", "_law_most", "_law_many"] (defScope sPlan) := ⟨rfl, rfl, rfl, by decide +kernel, rfl, by decide +kernel, by decide +kernel⟩
set_option maxHeartbeats 8000000 in
theorem ok_plan {f : Addr} {fd : FuncData} {k : Nat} (F : Fun K "_law_plan" "_law_plan" sPlan f fd) (T : Bi mg) (cP : C8.Cal P w K mg base 1 "_law_pull" spPull []) : FnOk P w K mg base CX0 (k + 2) f fd ["_law_bag_here", "_law_most", "_law_many"] spPlan := by
  refine F.ok scPlan (fun vs H Q E h => ?_) (fun cdv A outer s H vs Q E hr h => ?_)
  · obtain ⟨b, l, ns, m1, m2, rfl, _⟩ := h
    rfl
  · obtain ⟨b, l, ns, most, many, rfl, B, hm1, hm2, hm3, q⟩ := h
    have hk : 1 ≤ k + 1 := Nat.le_add_left 1 k
    refine ⟨_, pss_cons (ps_set (i := 3) scPlan.nd rfl (Or.inr rfl) (pe_op op_add pe_int (C8.pe_c cP hr hk (by rfl) (pa_cons (pv 0) (pa_cons (pv 1) pa_nil)))))
      (pss_cons (ps_setLc (i := 4) (own := [("_law_state", 7)]) (g := gName 7) (tt := tYes) (te := tTup (tCons (tVar 7) (tCons (tCall spPull [] E0 (tCons (tVar 0) (tCons (tVar 3) tNil))) tNil))) rfl scPlan.nd rfl rfl (sw_true rfl rfl rfl (by decide +kernel))
          (pi_range1 (by rfl) T.range (pa_cons (pv 3) pa_nil))
          (blkOk_by (N := ["_law_bag_here", "_law_most", "_law_many", "_law_size", "_law_pairs", "_law_k", "_law_at", "_law_state"]) (sc := defScope sPlan) (by decide +kernel))
          (fun _ _ _ _ _ => by exact pg_name (i := 7) scPlan.nd rfl (Or.inl rfl))
          (fun _ _ _ _ _ => pts_nil)
          (fun _ _ _ _ _ => by exact pe_tup (pa_cons (pv 7) (pa_cons (C8.pe_c cP hr hk (by rfl) (pa_cons (pv 0) (pa_cons (pv 3) pa_nil))) pa_nil))))
      (pss_cons (ps_for PassesOwn.never rfl (pi_range1 (by rfl) T.range (pa_cons (C8.pe_c cP hr hk (by rfl) (pa_cons (pv 0) (pa_cons (pe_op op_add (pe_op op_sub (pv 2) (pv 3)) pe_int) pa_nil))) pa_nil)) (pg_name (i := 5) scPlan.nd rfl (Or.inl rfl))
        (pss_cons (ps_set (i := 6) scPlan.nd rfl (Or.inl rfl) (C8.pe_c cP hr hk (by rfl) (pa_cons (pv 0) (pa_cons (pe_op op_add (pe_callB call_len_seq (by rfl) T.len PySem.boot_len (pa_cons (pv 4) pa_nil)) pe_int) pa_nil))))
        (pss_one (ps_set (i := 4) scPlan.nd rfl (Or.inl rfl) (pe_op op_cat (pe_op op_cat (pe_slice sl_list (pv 4) po_none (po_some (pv 6)))
          (pe_lst (pa_cons (pe_tup (pa_cons (C8.pe_c cP hr hk (by rfl) (pa_cons (pv 0) (pa_cons (pv 3) pa_nil))) (pa_cons (C8.pe_c cP hr hk (by rfl) (pa_cons (pv 0) (pa_cons (pv 3) pa_nil))) pa_nil))) pa_nil)))
          (pe_slice sl_list (pv 4) (po_some (pv 6)) po_none))))))
      (pss_one (ps_ret (pe_tup (pa_cons (pv 3) (pa_cons (pv 4) pa_nil))))))), ?_⟩
    -- size
    refine ⟨_, rfl, _, rfl, b, l, ns, most, rfl, B, by omega, by omega, fun v o v0 v1 BO => ?_⟩
    refine ⟨_, _, rfl, rfl, ?_⟩
    have B1 := B.upd BO
    have k1 : KeepB b H (upd H b o) := .updb
    have hv0 : 0 ≤ 1 + v := by omega
    -- pairs: the comprehension
    refine ⟨_, rfl, 1 + v, rfl, by omega, by omega, fun D hD => ?_⟩
    have hbD : D ≠ b := B1.ne_new hD
    have nD : H D = none := by
      rw [upd_ne hbD] at hD
      exact hD
    refine lc_it (walk_range (lo := 0) (n := (1 + v).toNat)) (fun i H' => ∃ ts : Es, ts.length = i ∧ KeepB b H H' ∧ BagAt H' b l ns ∧ H' D = some (.lst (vsOf ts)) ∧ Ed H' ts ∧ ∀ (j : Nat) (e : Addr × Int × Int), ts[j]? = some e → e.2.1 = (j : Int) ∧ 0 ≤ e.2.2 ∧ e.2.2 < 1 + v)
      ⟨[], rfl, k1.new hD, B1.new hD, upd_same, .nil, fun j e he => by simp at he⟩ (fun _ _ _ _ => True.intro) ?_ ?_
    · rintro i x H1 H' hi ⟨ts, hts, kp, Bi, eD, ed, hj⟩ ⟨rfl, rfl⟩
      refine ⟨rfl, ?_⟩
      refine ⟨_, rfl, _, rfl, _, rfl, b, l, ns, _, rfl, Bi, by omega, by omega, fun v2 o2 v20 v21 BO2 => ?_⟩
      refine ⟨(by show 2 ≤ sizeLine; decide), fun t ht => ?_⟩
      have B2 := Bi.upd BO2
      have B3 := B2.new (o := .tup [.int (0 + (i : Int)), .int v2]) ht
      have ed3 : Ed (upd (upd H' b o2) t (.tup [.int (0 + (i : Int)), .int v2])) ts := (ed.keep Bi .updb).same (same_upd ht)
      have eD2 : upd H' b o2 D = some (.lst (vsOf ts)) := by
        rw [upd_ne hbD]
        exact eD
      have tD : D ≠ t := ne_of_none eD2 ht
      refine ⟨vsOf ts, by rw [upd_ne tD]; exact eD2, ?_, ts ++ [(t, (i : Int), v2)], by simp [hts], ?_, ?_, ?_, ?_, ?_⟩
      · unfold vsOf
        rw [List.length_map]
        exact small1000 (by omega)
      · exact ((kp.trans .updb).new ht).at nD
      · exact B3.off hbD (ne_of_none B.sc nD).symm
      · rw [upd_same]
        unfold vsOf
        rw [List.map_append]
        rfl
      · refine Ed.app (fun e he => ?_) (.one ?_)
        · have h1 := ed3 e he
          rw [upd_ne (fun z => ?_)]
          · exact h1
          · rw [z, upd_ne tD, eD2] at h1
            cases h1
        · rw [upd_ne (Ne.symm tD), upd_same]
          show some (HO.tup [V.int (0 + (i : Int)), V.int v2]) = _
          rw [Int.zero_add]
      · intro j e he
        by_cases hlt : j < ts.length
        · rw [List.getElem?_append_left hlt] at he
          exact hj j e he
        · rw [List.getElem?_append_right (by omega)] at he
          cases hz : j - ts.length with
          | zero =>
            rw [hz] at he
            have z : (t, (i : Int), v2) = e := Option.some.inj he
            subst z
            exact ⟨by show (i : Int) = (j : Int); omega, v20, v21⟩
          | succ m =>
            rw [hz] at he
            cases he
    · rintro H1 ⟨ts, hts, kp, Bi, eD, ed, hj⟩
      have va : Valid (1 + v) ts := by
        refine ⟨fun e he => ?_, fun k k0 k1 => ?_⟩
        · obtain ⟨j, hjl, hje⟩ := List.getElem_of_mem he
          have h1 := hj j e (by rw [List.getElem?_eq_getElem hjl, hje])
          exact ⟨by omega, by omega, h1.2.1, h1.2.2⟩
        · have hk' : k.toNat < ts.length := by omega
          have h1 := hj k.toNat ts[k.toNat] (List.getElem?_eq_getElem hk')
          exact ⟨ts[k.toNat], List.getElem_mem hk', by rw [h1.1]; omega⟩
      -- the loop
      have ln1 : (ts.length : Int) = 1 + v := by omega
      refine ⟨_, rfl, _, rfl, _, rfl, _, _, rfl, rfl, _, _, rfl, rfl, b, l, ns, _, rfl, Bi, by omega, by omega, fun r o2 r0 r1 BO2 => ?_⟩
      refine ⟨r, rfl, by omega, by omega, ?_⟩
      refine for_it (walk_range (lo := 0) (n := r.toNat)) (fun i σ H' => ∃ (us : Es) (qa : Addr) (v5 v6 v7 : Option V), σ = [some (.ref b), some (.int most), some (.int many), some (.int (1 + v)), some (.ref qa), v5, v6, v7] ∧
          (us.length : Int) = 1 + v + (i : Int) ∧ KeepB b H H' ∧ BagAt H' b l ns ∧ H qa = none ∧ H' qa = some (.lst (vsOf us)) ∧ Ed H' us ∧ Valid (1 + v) us)
        ⟨ts, D, none, none, none, rfl, by omega, kp.trans .updb, Bi.upd BO2, nD, by rw [upd_ne hbD]; exact eD, ed.keep Bi .updb, va⟩ (fun _ _ _ _ _ => True.intro) ?_ ?_
      · rintro i x σ H2 H' hi ⟨us, qa, v5, v6, v7, rfl, hus, kp2, B2, nq, eq, ed2, va2⟩ ⟨rfl, rfl⟩
        have qb : qa ≠ b := B2.ne_vs eq
        -- at = pull(bag, len(pairs) + 1)
        refine ⟨_, rfl, _, rfl, qa, _, rfl, .inl (SqL.of eq), _, _, rfl, rfl, b, l, ns, _, rfl, B2, ?_, ?_, fun at_ o3 a0 a1 BO3 => ?_⟩
        · show (0 : Int) < ((vsOf us).length : Int) + 1
          omega
        · show ((vsOf us).length : Int) + 1 < 2 ^ 100
          unfold vsOf
          rw [List.length_map]
          omega
        have a1' : at_ < (us.length : Int) + 1 := by
          have z : at_ < ((vsOf us).length : Int) + 1 := a1
          unfold vsOf at z
          rw [List.length_map] at z
          exact z
        have hat : ((at_.toNat : Nat) : Int) = at_ := Int.toNat_of_nonneg a0
        have hatl : at_.toNat ≤ (vsOf us).length := by
          unfold vsOf
          rw [List.length_map]
          omega
        have B3 := B2.upd BO3
        have eq3 : upd H' b o3 qa = some (.lst (vsOf us)) := by
          rw [upd_ne qb]
          exact eq
        have ed3 : Ed (upd H' b o3) us := ed2.keep B2 .updb
        have kp3 : KeepB b H (upd H' b o3) := kp2.trans .updb
        generalize upd H' b o3 = H3 at *
        -- pairs[:at]
        refine ⟨_, rfl, _, rfl, at_, rfl, qa, _, rfl, SqL.of eq3, fun p1 hp1 => ?_⟩
        rw [← hat, cut_lo hatl]
        have B4 := B3.new (o := .lst ((vsOf us).take at_.toNat)) hp1
        have kp4 := kp3.new (o := .lst ((vsOf us).take at_.toNat)) hp1
        have s4 := same_upd (o := .lst ((vsOf us).take at_.toNat)) hp1
        have eq4 := s4 _ _ eq3
        have ed4 := ed3.same s4
        have e14 : upd H3 p1 (.lst ((vsOf us).take at_.toNat)) p1 = some (.lst ((vsOf us).take at_.toNat)) := upd_same
        generalize upd H3 p1 (.lst ((vsOf us).take at_.toNat)) = H4 at *
        -- the new edge
        refine ⟨_, rfl, _, rfl, b, l, ns, _, rfl, B4, by omega, by omega, fun x1 o5 x10 x11 BO5 => ?_⟩
        have B5 := B4.upd BO5
        have p1b : p1 ≠ b := B3.ne_new hp1
        refine ⟨_, rfl, _, rfl, b, l, ns, _, rfl, B5, by omega, by omega, fun x2 o6 x20 x21 BO6 => ?_⟩
        have B6 := B5.upd BO6
        have kp6 : KeepB b H4 (upd (upd H4 b o5) b o6) := KeepB.updb.trans .updb
        have ed6 := ed4.keep B4 kp6
        have eq6 := kp6 _ _ qb eq4
        have e16 := kp6 _ _ p1b e14
        have kp6' := kp4.trans kp6
        generalize upd (upd H4 b o5) b o6 = H6 at *
        refine ⟨(by show 2 ≤ sizeLine; decide), fun t ht => ?_⟩
        have s7 := same_upd (o := .tup [.int x1, .int x2]) ht
        have B7 := B6.same s7
        have e7 : upd H6 t (.tup [.int x1, .int x2]) t = some (.tup [.int x1, .int x2]) := upd_same
        have kp7 := kp6'.trans (.of_same s7)
        have eq7 := s7 _ _ eq6
        have e17 := s7 _ _ e16
        have ed7 := ed6.same s7
        generalize upd H6 t (.tup [.int x1, .int x2]) = H7 at *
        refine ⟨(by show 1 ≤ sizeLine; decide), fun p2 hp2 => ?_⟩
        have s8 := same_upd (o := .lst [.ref t]) hp2
        have e8 : upd H7 p2 (.lst [.ref t]) p2 = some (.lst [.ref t]) := upd_same
        have B8 := B7.same s8
        have kp8 := kp7.trans (.of_same s8)
        have eq8 := s8 _ _ eq7
        have e18 := s8 _ _ e17
        have et8 := s8 _ _ e7
        have ed8 := ed7.same s8
        generalize upd H7 p2 (.lst [.ref t]) = H8 at *
        have hsz : ∀ m : Nat, m ≤ 1000 → m ≤ sizeLine := fun m h => Nat.le_of_lt (small1000 h)
        have lus : us.length ≤ 200 := by omega
        have lvs : (vsOf us).length = us.length := by
          unfold vsOf
          rw [List.length_map]
        refine ⟨p1, p2, _, _, rfl, rfl, e18, e8, hsz _ (by simp; omega), fun p3 hp3 => ?_⟩
        have s9 := same_upd (o := .lst ((vsOf us).take at_.toNat ++ [.ref t])) hp3
        have e9 : upd H8 p3 (.lst ((vsOf us).take at_.toNat ++ [.ref t])) p3 = some (.lst ((vsOf us).take at_.toNat ++ [.ref t])) := upd_same
        have B9 := B8.same s9
        have kp9 := kp8.trans (.of_same s9)
        have eq9 := s9 _ _ eq8
        have et9 := s9 _ _ et8
        have ed9 := ed8.same s9
        generalize upd H8 p3 (.lst ((vsOf us).take at_.toNat ++ [.ref t])) = H9 at *
        refine ⟨_, rfl, _, rfl, _, rfl, qa, _, rfl, SqL.of eq9, fun p4 hp4 => ?_⟩
        rw [cut_hi hatl]
        have s10 := same_upd (o := .lst ((vsOf us).drop at_.toNat)) hp4
        have e10 : upd H9 p4 (.lst ((vsOf us).drop at_.toNat)) p4 = some (.lst ((vsOf us).drop at_.toNat)) := upd_same
        have B10 := B9.same s10
        have kp10 := kp9.trans (.of_same s10)
        have e910 := s10 _ _ e9
        have et10 := s10 _ _ et9
        have ed10 := ed9.same s10
        generalize upd H9 p4 (.lst ((vsOf us).drop at_.toNat)) = H10 at *
        refine ⟨p3, p4, _, _, rfl, rfl, e910, e10, hsz _ (by simp; omega), fun p5 hp5 => ?_⟩
        have s11 := same_upd (o := .lst ((vsOf us).take at_.toNat ++ [.ref t] ++ (vsOf us).drop at_.toNat)) hp5
        obtain ⟨yb, hyb⟩ := B10.at_b
        refine ⟨us.take at_.toNat ++ [(t, x1, x2)] ++ us.drop at_.toNat, p5, _, _, _, rfl, ?_, kp10.trans (.of_same s11), B10.same s11, kp10.free hyb hp5, ?_, ?_, ?_⟩
        · simp
          omega
        · rw [upd_same]
          unfold vsOf
          rw [List.map_append, List.map_append, List.map_take, List.map_drop]
          rfl
        · have f1 : Ed H10 (us.take at_.toNat) := fun e he => ed10 e (List.mem_of_mem_take he)
          have f2 : Ed H10 (us.drop at_.toNat) := fun e he => ed10 e (List.mem_of_mem_drop he)
          exact Ed.same (Ed.app (Ed.app f1 (.one et10)) f2) s11
        · refine ⟨fun e he => ?_, fun kk k0 k1 => ?_⟩
          · rw [List.mem_append, List.mem_append] at he
            rcases he with (he | he) | he
            · exact va2.rg e (List.mem_of_mem_take he)
            · have z := List.mem_singleton.mp he
              subst z
              exact ⟨x10, x11, x20, x21⟩
            · exact va2.rg e (List.mem_of_mem_drop he)
          · obtain ⟨e, he, hk2⟩ := va2.sr kk k0 k1
            refine ⟨e, ?_, hk2⟩
            rw [← List.take_append_drop at_.toNat us, List.mem_append] at he
            rw [List.mem_append, List.mem_append]
            exact he.elim (fun z => .inl (.inl z)) .inr
      · rintro σ H2 ⟨us, qa, v5, v6, v7, rfl, hus, kp2, B2, nq, eq, ed2, va2⟩
        refine ⟨_, rfl, _, rfl, (by show 2 ≤ sizeLine; decide), fun p hp => ?_⟩
        obtain ⟨yb, hyb⟩ := B2.at_b
        have s1 := same_upd (o := .tup [.int (1 + v), .ref qa]) hp
        exact q p qa (1 + v) us _ (kp2.trans (.of_same s1)) (B2.same s1) (kp2.free hyb hp) nq ⟨upd_same, s1 _ _ eq, ed2.same s1, va2, by omega⟩ (by omega) (by omega)
end
end Lw

set_option Elab.async false
set_option linter.all false
set_option maxRecDepth 100000
/-! enumerate(t) of a tuple; enumerate and for over what is a list or a tuple -/
namespace Lw
open PySem PySem.Spec PyProof.Rows L2
/-- the two objects that enumerate(t) makes: the tuple's iterator, the counter over it -/
abbrev itO (l : Addr) : Obj := { cls := .type "tuple_iterator", data := .fields #[.ref l, .int 0 0] }
abbrev enO (i : Addr) : Obj := { cls := .type "enumerate", data := .fields #[.none, .bool false, .ref i, rawInt 0, .none, .none] }
theorem enumT_new (l : Addr) (o : Obj) (items : Array Value) (n : Nat) (hc : o.cls = .type "tuple") (hd : o.data = .seq items n) :
    Meets (Builtin.«enumerate.__new__» ⟨[.type "enumerate", .ref l], []⟩) (fun _ R s => s.heap.get? l = some o ∧
      R (.ok (.ret (.ref (s.heap.push (itO l)).objs.size))) { s with heap := (s.heap.push (itO l)).push (enO s.heap.objs.size) }) := by
  obtain ⟨oc, dct, dt, sl⟩ := o
  dsimp only at hc hd
  subst hc hd
  refine .of_wp fun P w A R s hyp => ?_
  rcases s with ⟨h, gn, dr, tk, os⟩
  rcases hyp with ⟨hl, fin⟩
  have sub := sub_enumerate
  have isT : Heap.IsTuple (Shared.heap ⟨h, gn, dr, tk, os⟩) l items := ⟨_, hl, rfl, n, rfl⟩
  wp_walk using AutoSeq1.wpAny_loadPart' hl
  refine wpAny_stack_any fun st => wpAny_pure ?_
  split
  next c _ _ _ _ _ => cases (c == Value.type "enumerate") <;> (wp_walk using AutoSeq1.wpAny_loadPart' hl, wpAny_pyIter_tuple isT) <;> exact ⟨_, rfl, fin⟩
  next => (wp_walk using AutoSeq1.wpAny_loadPart' hl, wpAny_pyIter_tuple isT) <;> exact ⟨_, rfl, fin⟩
theorem enumT_call {P : Program} {w : World} {A : Around} {E : Value → Shared → Prop} {s : Shared} {l : Addr} {items : Array Value} {Q : Value → Shared → Prop} (hL : s.heap.IsTuple l items)
    (h : IsEnum ((s.heap.push (itO l)).push (enO s.heap.objs.size)) (s.heap.objs.size + 1) s.heap.objs.size 0 .none → Heap.IsTupleIter ((s.heap.push (itO l)).push (enO s.heap.objs.size)) s.heap.objs.size l 0 →
      Q (.ref (s.heap.objs.size + 1)) { s with heap := (s.heap.push (itO l)).push (enO s.heap.objs.size) }) :
    wpAny (model P w) A (call (.type "enumerate") [.ref l]) Q E s := by
  obtain ⟨o, get, cls, n, dat⟩ := hL
  have size1 : (s.heap.push (itO l)).objs.size = s.heap.objs.size + 1 := Heap.size_push ..
  have en : IsEnum ((s.heap.push (itO l)).push (enO s.heap.objs.size)) (s.heap.objs.size + 1) s.heap.objs.size 0 .none := by
    rw [← size1]
    exact Heap.get?_push_size _ rfl
  have it : Heap.IsTupleIter ((s.heap.push (itO l)).push (enO s.heap.objs.size)) s.heap.objs.size l 0 := ⟨itO l, Heap.get?_push_of_some _ (Heap.get?_push_size _ rfl), rfl, rfl⟩
  refine callType_new F.called_enumerate (by decide) (F.typeCall_enumerate_1 _) (F.newCall_enumerate_1 _) (F.args_object_init_2 · _) F.entry_enumerate_new (enumT_new l o items n cls dat) ⟨get, ?_⟩
  rw [size1]
  exact ⟨⟨_, en, rfl⟩, h en it⟩
/-- the turns of enumerate(t): a new pair of the number and the item -/
def IteT (K : PySem.W.Frag) (a : Addr) : It where
  go i H := ∃ (xs : List V) (x : V), SqT K H a xs ∧ xs[i]? = some x
  yld i H v H' := ∃ T x, v = .ref T ∧ H T = none ∧ H' = upd H T (.tup [.int (i : Nat), x]) ∧ ∀ xs, SqT K H a xs → xs[i]? = some x
  stop i H := ∃ xs : List V, SqT K H a xs ∧ xs.length ≤ i
/-- the state of the walk at turn i -/
structure EnAt (a e it : Addr) (i : Nat) (h : Heap) : Prop where
  en : ∃ old, IsEnum h e it ((i : Nat) : Int) old
  itr : h.IsTupleIter it a i
  ne : e ≠ it ∧ e ≠ a
theorem two {e it b : Addr} (h : b ∈ [e, it]) : b = e ∨ b = it := by
  simp only [List.mem_cons, List.not_mem_nil, or_false] at h
  exact h
theorem EnAt.keep {a e it : Addr} {i : Nat} {h h' : Heap} (z : EnAt a e it i h) (k : ∀ b ∈ [e, it], ∀ o, h.get? b = some o → h'.get? b = some o) : EnAt a e it i h' := by
  obtain ⟨old, he⟩ := z.en
  exact ⟨⟨old, k e (.head _) _ he⟩, z.itr.at (k it (.tail _ (.head _))), z.ne⟩
theorem enumT_item {X : Cx} {elts : List Expr} {kk : Nat} {tpos : Pos} {a e it : Addr} (ai : a ≠ it) (calm : X.calm = true) {i : Nat} {pins : List (Addr × Obj)} {s : Shared} {σ : L2.St} {H : Hp} {E : Value → Shared → Prop} (I : Inv X pins σ H s)
    (off : ∀ b ∈ [e, it], FpOk X pins H b) (z : EnAt a e it i s.heap) {xs : List V} {x : V} (hq : SqT X.K H a xs) (hx : xs[i]? = some x) :
    wpAny (model X.prog X.w) X.A (pyNext (.ref e)) (fun r s1 => ∃ u, r = some u ∧ wpAny (model X.prog X.w) X.A (letOwnedTupleGo (.Tuple elts kk tpos) (.ref e) u)
      (fun _ s2 => ∃ y H', Inv X pins σ H' s2 ∧ RelV y u ∧ (IteT X.K a).yld i H y H' ∧ EnAt a e it (i + 1) s2.heap ∧ ∀ b ∈ [e, it], H' b = none) E s1) E s := by
  obtain ⟨old, he⟩ := z.en
  obtain ⟨its, vals, tup, _⟩ := I.tuple hq
  obtain ⟨u, hu, ru⟩ := vals.get hx
  have eb := Heap.lt_size he
  have ib : it < s.heap.objs.size := z.itr.elim fun _ q => Heap.lt_size q.1
  have hi : i < its.toArray.size := by
    rw [List.size_toArray]
    exact (List.getElem?_eq_some_iff.mp hu).1
  have out : e ∉ [it, a] := fun m => (two m).elim z.ne.1 z.ne.2
  refine wpAny_pyNext_enum_itemD (Draws.tuple (A := X.A.in1) (show X.A.in1.handled = none from I.ok.hd calm) it a ai its.toArray) he ⟨z.itr, tup⟩ hi z.ne.1 out ?_
  intro y h' tk hy eo st new _ stay
  obtain rfl : y = u := by
    rw [List.getElem?_toArray, hu] at hy
    exact (Option.some.inj hy).symm
  refine ⟨_, rfl, wpAny_letOwnedTupleGo_enum (s := { s with heap := h', toks := tk + 1 }) eo fun h2 en2 sb => ?_⟩
  have new2 : h2.get? s.heap.objs.size = some { cls := .type "tuple", data := .seq #[.int i tk, y] } := by
    rw [sb.2 _ (Nat.ne_of_gt eb)]
    exact new
  have okN : ObjOk X.prog X.w (upd H s.heap.objs.size (.tup [.int (i : Nat), x])) h2 s.heap.objs.size (.tup [.int (i : Nat), x]) := ⟨by show 2 ≤ sizeLine; decide, _, .cons ⟨_, rfl⟩ (.cons ru .nil), _, new2, rfl, _, rfl⟩
  have rest : ∀ b o, b ∉ [e, it] → s.heap.get? b = some o → h2.get? b = some o := by
    intro b o nb hb
    have be : b ≠ e := fun q => nb (q ▸ .head _)
    have bi : b ≠ it := fun q => nb (q ▸ .tail _ (.head _))
    rw [sb.2 b be]
    exact stay b o be bi hb
  refine ⟨.ref s.heap.objs.size, _, I.turnedNew (ch := [e, it]) rest off (Nat.le_refl _) okN, rfl, ⟨_, x, rfl, I.hok.fresh (Nat.le_refl _), rfl, fun ys hys => I.tuple_inj hys hq ▸ hx⟩, ⟨⟨y, ?_⟩, ?_, z.ne⟩, ?_⟩
  · rw [Int.natCast_succ]
    exact en2
  · exact st.1.at fun o q => by rw [sb.2 it z.ne.1.symm]; exact q
  · intro b hb
    have lt : b < s.heap.objs.size := (two hb).elim (fun q => q ▸ eb) (fun q => q ▸ ib)
    rw [upd_ne (Nat.ne_of_lt lt)]
    exact (off b hb).1
/-- the tuple's iterator at its end -/
theorem over {P : Program} {w : World} {A : Around} (calm : A.handled = none) {it a : Addr} {items : Array Value} {i : Nat} (hi : items.size ≤ i) : Draws P w A it [it, a] i (fun _ _ => True) (fun j h => j = i ∧ h.IsTupleIter it a i ∧ h.IsTuple a items) where
  live _ _ z := z.2.1.elim fun o q => ⟨o, q.1⟩
  frame _ _ _ z k := ⟨z.1, z.2.1.at (k it (.head _)), z.2.2.at (k a (.tail _ (.head _)))⟩
  item j _ _ _ lt z _ := absurd z.1 (Nat.ne_of_lt lt)
  done _ _ _ z h := wpAny_nextOf_tuple_end calm z.2.1 z.2.2 (Array.getElem?_eq_none hi) h
theorem enumT_turn {P : Program} {w : World} {K : PySem.W.Frag} {elts : List Expr} {kk : Nat} {tpos : Pos} {a e it : Addr} (ai : a ≠ it) : Turn P w K (.Tuple elts kk tpos) (IteT K a) [e, it] e (EnAt a e it) where
  mem := .head _
  obj i h z b hb := by
    obtain ⟨old, he⟩ := z.en
    obtain ⟨o, ho, _, hd⟩ := z.itr
    rcases two hb with rfl | rfl
    · exact ⟨_, he, nofun⟩
    · exact ⟨o, ho, by rw [hd]; nofun⟩
  keep i h h' z k := z.keep k
  item := by
    rintro X rfl rfl rfl calm i pins s σ H E I off z ⟨xs, x, hq, hx⟩
    exact enumT_item ai calm I off z hq hx
  done := by
    rintro X rfl rfl rfl calm i pins s σ H E I off z ⟨xs, hq, hx⟩
    obtain ⟨old, he⟩ := z.en
    obtain ⟨its, vals, tup, _⟩ := I.tuple hq
    obtain ⟨f0, f1, _, f3, f4, f5⟩ := off it (.tail _ (.head _))
    have len := vals.length
    refine wpAny_pyNext_enum_endD (over (A := X.A.in1) (show X.A.in1.handled = none from I.ok.hd calm) (items := its.toArray) (by rw [List.size_toArray]; omega)) he ⟨rfl, z.itr, tup⟩ fun h' up => ⟨rfl, I.turned (t' := s.toks) (fun b o hb q => up b o hb q) f0 f1 f3 f4 f5⟩
  self A i s Q E z h := z.en.elim fun _ he => wpAny_pyIter_enum he h
theorem walk_enumT {K : PySem.W.Frag} {a : Addr} {xs : List V} : Walk (IteT K a) xs.length (fun H => SqT K H a xs) (YPair (fun i => some (.int (i : Nat))) (fun i => xs[i]?)) := by
  constructor
  · intro i H hi hq
    exact ⟨xs, xs[i], hq, List.getElem?_eq_getElem hi⟩
  · intro H hq
    exact ⟨xs, hq, Nat.le_refl _⟩
  · rintro i H _ _ hi hq ⟨T, x, rfl, nT, rfl, at_⟩
    exact ⟨T, _, x, rfl, nT, rfl, rfl, at_ xs hq⟩
/-! ### a list or a tuple -/
abbrev SqF := PySem.W.Frag → Hp → Addr → List V → Prop
/-- enumerate(e) -/
def iEnumA (K : PySem.W.Frag) (ta : TA) : TI := fun σ H R => ta σ H fun vs H1 => ∃ (a : Addr) (xs : List V) (S : SqF), vs = [.ref a] ∧ (S = SqL ∨ S = SqT) ∧ S K H1 a xs ∧
  ∀ J, Walk J xs.length (fun H => S K H a xs) (YPair (fun i => some (.int (i : Nat))) (fun i => xs[i]?)) → R J H1
/-- e itself -/
def iSeqA (K : PySem.W.Frag) (tl : TE) : TI := fun σ H R => tl σ H fun x H1 => ∃ (a : Addr) (xs : List V) (S : SqF), x = .ref a ∧ (S = SqL ∨ S = SqT) ∧ S K H1 a xs ∧ ∀ J, Walk J xs.length (fun H => S K H a xs) (YAt xs) → R J H1
section
variable {X : Cx}
/-- new addresses are nobody's -/
theorem new_ok {pins : List (Addr × Obj)} {s : Shared} {σ : L2.St} {H : Hp} {b : Addr} (I : Inv X pins σ H s) (h : s.heap.objs.size ≤ b) : FpOk X pins H b := I.fpOk h (I.hok.fresh h)
theorem pi_enumA {e : Expr} {ta : TA} {p pos tpos : Pos} {elts : List Expr} {kk : Nat} (hg : Gl X "enumerate") (hm : X.mg "enumerate" = none) (ha : PA X [e] ta) (hs : starEach [e] X.env = [(false, eval e X.env)] := by rfl) :
    PI X (.Tuple elts kk tpos) (.Call (.Name "enumerate" p) [e] [] pos) (iEnumA X.K ta) := by
  constructor
  intro pins s σ H R I h
  refine Call_ (ld_blt I hg hm boot_enumerate (PyProof.Rows.callWith_type1 (wpAny_mono (ha.run pos pins s σ H _ I h) ?_ fun _ _ z => z) hs rfl))
  rintro us s1 ⟨_, H1, I1, vals, a, xs, S, rfl, hS, hq, go⟩
  obtain ⟨_, rfl, rfl⟩ : ∃ u, us = [u] ∧ u = Value.ref a := by
    match us, vals with
    | [u], .cons r .nil => exact ⟨u, rfl, r⟩
  have free : ∀ b ∈ [s1.heap.objs.size + 1, s1.heap.objs.size], FpOk X pins H1 b := fun b hb => new_ok I1 ((two hb).elim (fun q => q ▸ Nat.le_succ _) (fun q => q ▸ Nat.le_refl _))
  rcases hS with rfl | rfl
  · obtain ⟨its, rv, lst, _⟩ := I1.list hq
    refine call_enumerate_list lst.isList fun g en it _ up => wpAny_pyIter_enum en ?_
    exact ⟨_, [s1.heap.objs.size + 1, s1.heap.objs.size], _, Ite X.K a, H1, rfl, I1.kept (t' := s1.toks) up, turn_enum a _ _, ⟨⟨.none, en⟩, it, Nat.succ_ne_self _⟩, free, go _ walk_enum⟩
  · obtain ⟨its, rv, tup, _⟩ := I1.tuple hq
    have old : a < s1.heap.objs.size := tup.elim fun _ q => Heap.lt_size q.1
    refine enumT_call (items := its.toArray) tup fun en it => wpAny_pyIter_enum en ?_
    refine ⟨_, [s1.heap.objs.size + 1, s1.heap.objs.size], _, IteT X.K a, H1, rfl, I1.kept (t' := s1.toks) fun b o q => Heap.get?_push_of_some _ (Heap.get?_push_of_some _ q), enumT_turn (Nat.ne_of_lt old), ⟨⟨.none, en⟩, it, Nat.succ_ne_self _, ?_⟩, free, go _ walk_enumT⟩
    exact fun q => absurd old (Nat.not_lt.mpr (q ▸ Nat.le_succ _))
theorem pi_seqA {tg l : Expr} {tl : TE} (hl : PE X l tl) : PI X tg l (iSeqA X.K tl) := by
  constructor
  intro pins s σ H R I h
  refine wpAny_mono (hl.run pins s σ H _ I h) ?_ fun _ _ z => z
  rintro v s1 ⟨_, H1, I1, rv, a, xs, S, rfl, hS, hq, go⟩
  cases rv
  have free : ∀ b ∈ [s1.heap.objs.size], FpOk X pins H1 b := fun b hb => new_ok I1 (List.mem_singleton.mp hb ▸ Nat.le_refl _)
  have keep : ∀ o : Obj, Inv X pins σ H1 { s1 with heap := s1.heap.push o } := fun o => I1.kept (t' := s1.toks) fun b o' q => Heap.get?_push_of_some _ q
  rcases hS with rfl | rfl
  · obtain ⟨its, r, lst, _⟩ := I1.list hq
    exact wpAny_pyIter_list lst.isList ⟨_, _, _, Itl X.K a, H1, rfl, keep _, turn_list a _, ⟨_, Heap.get?_push_size _ rfl, rfl, rfl⟩, free, go _ walk_list⟩
  · obtain ⟨its, r, tup, _⟩ := I1.tuple hq
    exact wpAny_pyIter_tuple (items := its.toArray) tup ⟨_, _, _, Itt X.K a, H1, rfl, keep _, turn_tuple a _, ⟨_, Heap.get?_push_size _ rfl, rfl, rfl⟩, free, go _ walk_tup⟩
end
end Lw

set_option Elab.async false
set_option linter.all false
set_option maxRecDepth 100000
/-! ==, != and in of an object whose class has its own __eq__, whatever that answers -/
namespace Lw
open PySem PySem.Spec PyProof.Rows L2
section
variable {X : Cx} {n : Nat} {A : Around} {pins : List (Addr × Obj)} {s : Shared} {σ : L2.St} {H : Hp} {CX : CXT} {C f : Addr} {fd : FuncData} {ps : List Str} {sp : Sp} {E : XK}
/-- what comes back of a def: a value and a heap -/
def BackV (X : Cx) (pins : List (Addr × Obj)) (σ : L2.St) (Q : VK) : Value → Shared → Prop := fun u s' => ∃ v H', Inv X pins σ H' s' ∧ RelV v u ∧ Q v H'
theorem run_own {vs : List V} {us : List Value} {Q : VK} (F : FnOk X.prog X.w X.K X.mg X.base CX n f fd ps sp) (hb : Binds X.K fd ps []) (hx : Passes CX X E) (sb : L2.Sub X n A) (I : Inv X pins σ H s) (r : Vals vs us)
    (hsp : sp vs H Q E) : wpAny (model X.prog X.w) A (call (.ref f) us) (BackV X pins σ Q) X.xe s := by
  have e0 : Env0 X.prog X.w X.K X.mg X.base A X.stack s H := by
    have e := I.env0
    exact ⟨by rw [sb.fr]; exact e.frames, e.mod, e.bs, e.bsz, e.funs, e.frf, e.hok, e.bare⟩
  have hl := F.len _ _ _ _ hsp
  refine wpAny_call (codeAny_mono (F.run A X.stack s H ⟨us, []⟩ us vs _ E sb.room e0 (by
    have := hb s us I.kIn (by rw [List.append_nil, ← r.length]; exact hl)
    simpa using this) r hsp) fun r s' hq => ?_)
  cases r with
  | error e => exact hx pins σ H s e s' I hq
  | ok fl =>
    cases fl with
    | ret w =>
      obtain ⟨z, H', I', rz, ez⟩ := I.after hq
      exact ⟨z, H', I', rz, ez⟩
    | next => exact False.elim hq
    | brk => exact False.elim hq
    | cont => exact False.elim hq
theorem back_bool {Q : VK} {u : Value} {s' : Shared} (h : BackV X pins σ (fun v H' => ∃ b, v = .bl b ∧ Q (.bl b) H') u s') : ∃ b H', u = .bool b ∧ Inv X pins σ H' s' ∧ Q (.bl b) H' := by
  obtain ⟨v, H', I', rv, b, rfl, q⟩ := h
  cases rv
  exact ⟨b, H', rfl, I', q⟩
/-- own == of an object at a and any value of a known type that is not of a subclass -/
theorem rc_own {a dx : Addr} {fs : List (Str × V)} {y : V} {v tb : Value} {Q : VK} (F : FnOk X.prog X.w X.K X.mg X.base CX n f fd ps sp) (hs : PySem.W.findIn X.K (.ref C) "__eq__" = some (some (.ref f))) (hf : PySem.W.isFn X.K (.ref f) = true)
    (hb : Binds X.K fd ps []) (hx : Passes CX X E) (sb : L2.Sub X n A) (I : Inv X pins σ H s) (ha : H a = some (.ins C dx fs)) (ry : RelV y v) (ty : PySem.W.Looks (model X.prog X.w) s.heap (typeOf v) tb) (nf : PySem.W.notFirst X.K C tb = true)
    (hsp : sp [.ref a, y] H (fun v H' => ∃ b, v = .bl b ∧ Q (.bl b) H') E) : wpAny (model X.prog X.w) A (richCompare .Eq (.ref a) v) (fun u s' => ∃ b H', u = .bool b ∧ Inv X pins σ H' s' ∧ Q (.bl b) H') X.xe s := by
  obtain ⟨mA, J, _⟩ := ins_get I.hok ha
  obtain ⟨od, J, _⟩ := J.look
  obtain ⟨m, hF⟩ := I.fr
  refine PySem.W.cmp_K (op := .Eq) (tb := tb) sb.room.units0 hF I.ok.mod.kin J ty nf hs hf ?_
  refine wpAny_mono (run_own F hb hx sb I (.cons (show RelV (.ref a) (.ref a) from rfl) (.cons ry .nil)) hsp) (fun u s' h => ?_) fun _ _ e => e
  obtain ⟨b, H', rfl, I', q⟩ := back_bool h
  exact ⟨b, H', rfl, I', q⟩
/-- x == y, both objects of the class at C -/
def rEqO (C : Addr) (sp : Sp) (E : XK) : R2 := fun x y H Q => ∃ a b dx dy fs gs, x = .ref a ∧ y = .ref b ∧ H a = some (.ins C dx fs) ∧ H b = some (.ins C dy gs) ∧ sp [x, y] H (fun v H' => ∃ c, v = .bl c ∧ Q (.bl c) H') E
theorem op_eqO (F : FnOk X.prog X.w X.K X.mg X.base CX n f fd ps sp) (hs : PySem.W.findIn X.K (.ref C) "__eq__" = some (some (.ref f))) (hf : PySem.W.isFn X.K (.ref f) = true) (hb : Binds X.K fd ps []) (hx : Passes CX X E) (hr : Room n X.A) :
    OpR X (compareOp .Eq) (rEqO C sp E) := by
  intro pins s σ H x y v u Q I rx ry h
  obtain ⟨a, b, dx, dy, fs, gs, rfl, rfl, ha, hb', hsp⟩ := h
  cases rx
  cases ry
  obtain ⟨mB, J', _⟩ := ins_get I.hok hb'
  obtain ⟨od', J', _⟩ := J'.look
  refine wpAny_mono (rc_own (tb := .ref C) F hs hf hb hx ⟨hr, rfl⟩ I ha (y := .ref b) rfl J'.type (by simp [PySem.W.notFirst]) hsp) (fun u s' h => ?_) fun _ _ e => e
  obtain ⟨b, H', rfl, I', q⟩ := h
  exact ⟨.bl b, H', I', rfl, q⟩
/-- x != y, both objects of the class at C, which has no __ne__ of its own -/
def rNeO (C : Addr) (sp : Sp) (E : XK) : R2 := fun x y H Q => ∃ a b dx dy fs gs, x = .ref a ∧ y = .ref b ∧ H a = some (.ins C dx fs) ∧ H b = some (.ins C dy gs) ∧ sp [x, y] H (fun v H' => ∃ c, v = .bl c ∧ Q (.bl (!c)) H') E
theorem ne_body {s : Shared} {a b : Addr} {ox : Obj} {od : Option Obj} {M : Model} {Q : Fin → Shared → Prop} {Er : Value → Shared → Prop} (kin : X.K.In s.heap) (J : PySem.W.InstAt s.heap a ox C od) (hs : PySem.W.findIn X.K (.ref C) "__eq__" = some (some (.ref f))) (hf : PySem.W.isFn X.K (.ref f) = true) (hu : A.units < cLine)
    (h : wpAny M A (call (.ref f) [.ref a, .ref b]) (fun u s' => ∃ c, u = .bool c ∧ Q (.done (.ret (.bool (!c)))) s') Er s) : wpAny M A (Builtin.«object.__ne__» ⟨[.ref a, .ref b], []⟩) Q Er s := by
  unfold Builtin.«object.__ne__»
  repeat (first
    | with_reducible refine wpAny_cRoomFor hu ?_
    | (refine wpAny_bind (m := callSpecialIfBound? (.ref a) (Str.ofString "__eq__") [.ref b])
        (PySem.W.ifBound_K kin J hs hf (wpAny_mono h (fun r s' hr => by
          obtain ⟨c, rfl, hq⟩ := hr
          repeat (first | exact hq | exact wpAny_pure hq | exact wpAny_truthy_bool hq | (refine wpAny_bind (m := truthy (.bool _)) (wpAny_truthy_bool ?_)) | wp_step)) fun _ _ e => e)))
    | wp_step)
theorem op_neO {nm q : Str} {N : Addr} {bs : List Value} {hdct : Bool} {sn : List Str} {sub : List Value} {ab : Bool} {col : Option Bool} {dd : Option Addr} {k0 k1 k2 k3 k5 : Option Value} {newId : String}
    (F : FnOk X.prog X.w X.K X.mg X.base CX n f fd ps sp) (hs : PySem.W.findIn X.K (.ref C) "__eq__" = some (some (.ref f))) (hf : PySem.W.isFn X.K (.ref f) = true) (hne : PySem.W.findIn X.K (.ref C) "__ne__" = some (some (.builtin "object.__ne__")))
    (hC : X.K.lookup C = some (excClassObj nm q C N bs [.type "object"] hdct sn sub ab col dd k0 k1 k2 k3 k5 newId)) (hb : Binds X.K fd ps []) (hx : Passes CX X E) (hr : Room (n + 1) X.A) :
    OpR X (compareOp .NotEq) (rNeO C sp E) := by
  intro pins s σ H x y v u Q I rx ry h
  obtain ⟨a, b, dx, dy, fs, gs, rfl, rfl, ha, hb', hsp⟩ := h
  cases rx
  cases ry
  obtain ⟨mA, J, _⟩ := ins_get I.hok ha
  obtain ⟨od, J, _⟩ := J.look
  obtain ⟨mB, J', _⟩ := ins_get I.hok hb'
  obtain ⟨od', J', _⟩ := J'.look
  have kin := I.kIn
  have un := hr.un
  have hu1 : X.A.units + 1 < cLine := by omega
  have run := run_own (A := X.A.in1) F hb hx (L2.Sub.in1 (X := X) (n := n) (A := X.A) ⟨hr, rfl⟩) I (.cons (show RelV (.ref a) (.ref a) from rfl) (.cons (show RelV (.ref b) (.ref b) from rfl) .nil)) hsp
  show wpAny (model X.prog X.w) X.A (richCompare .NotEq (.ref a) (.ref b)) (EP X pins σ Q) X.xe s
  unfold richCompare
  simp only [oneThing_ref]
  refine wpAny_holding (wpAny_bind (wpAny_cRoomFor (Nat.lt_of_succ_lt hu1) ?_))
  refine wpAny_bind (J.type.here (wpAny_bind (J'.type.here ?_)))
  rw [show (Value.ref C != Value.ref C) = false from by simp]
  simp only [Bool.false_eq_true, if_false]
  refine wpAny_bind (wpAny_pure ?_)
  simp only [Bool.false_eq_true, if_false]
  have one : wpAny (model X.prog X.w) X.A (tryCompare (.ref a) (cmpInfo .NotEq).2.1 (.ref b)) (fun r s' => ∃ v, r = some v ∧ EP X pins σ Q v s') X.xe s := by
    unfold tryCompare
    refine wpAny_bind ?_
    simp only [callSpecialIfBound?, bindSpecialIfBound?]
    refine wpAny_holding (wpAny_bind (wpAny_bind (wpAny_bind (J.type.here ((PySem.W.looks_findIn kin hne).here ?_)))))
    simp only [PySem.F.cmp_object.ne.bind]
    refine wpAny_bind (wpAny_askSetting (wpAny_ite ?_))
    have fin : wpAny (model X.prog X.w) X.A (call (.builtin "object.__ne__") ([.ref a] ++ [.ref b])) (fun v s' => wpAny (model X.prog X.w) X.A (match (some v : Option Value) with
        | some .notImplemented | none => pure none
        | some v => pure (some v)) (fun r s' => ∃ v, r = some v ∧ EP X pins σ Q v s') X.xe s') X.xe s := by
      obtain ⟨hp, g, d, t, os⟩ := s
      refine wpAny_call (codeAny_call_builtin PySem.F.cmp_object.ne.plain PySem.F.cmpEntry_ne (wpAny_check_slot_inst PySem.F.cmpKind_ne PySem.F.cmpSplit_ne (PySem.F.cmpArgs_ne _ _) PySem.F.cmp_object.hasObject J.at_ J.cls (kin _ _ hC) ?_))
      refine ne_body (A := X.A.in1) kin J hs hf (by exact hu1) (wpAny_mono run (fun u s' h => ?_) fun _ _ e => e)
      obtain ⟨v, H', I', rv, c, rfl, q⟩ := h
      cases rv
      exact ⟨c, rfl, wpAny_pure ⟨_, rfl, .bl (!c), H', I', rfl, q⟩⟩
    split
    · exact wpAny_bind (wpAny_pure (wpAny_pure (wpAny_bind (wpAny_mono fin (fun v s' h => wpAny_pure h) fun _ _ e => e))))
    · exact wpAny_tryCatch (wpAny_bind (wpAny_pure (wpAny_pure (wpAny_bind (wpAny_mono fin (fun v s' h => wpAny_pure h) fun _ _ e => e)))))
  refine wpAny_bind (wpAny_mono one (fun r s' z => ?_) fun _ _ e => e)
  obtain ⟨v, rfl, hq⟩ := z
  exact wpAny_pure hq
end
end Lw

set_option Elab.async false
set_option linter.all false
set_option maxRecDepth 100000
namespace Lw
open PySem PySem.Spec PyProof.Rows L2
open AutoSeq1 (wpAny_loadPart')
section
variable {prog : Program} {w : World} {A : Around} {E : Value → Shared → Prop} {s : Shared} {a : Addr} {v : Value}
/-- the built-in == of v knows nothing of the object at a -/
def Declines (prog : Program) (w : World) (v : Value) (a : Addr) (s : Shared) : Prop := ∀ (A : Around) (E : Value → Shared → Prop), wpAny (model prog w) A (tryCompare v "__eq__" (.ref a)) (fun r s' => r = none ∧ s' = s) E s
theorem decl_by {T id : String} {B : Builtin} (hT : s.TypeIs v T) (slot : Slot T "__eq__" id) (entry : entryFor table id = some B) (args : argsOk id ⟨[v, .ref a], []⟩)
    (h : ∀ (A : Around) (R : Result → Shared → Prop), R (.ok (.ret .notImplemented)) s → wpAny (model prog w) A.in1 (B ⟨[v, .ref a], []⟩) (GQ.FinOf prog w A R) (fun e s' => R (.error e) s') s) : Declines prog w v a s := fun A E => by
  unfold tryCompare
  refine wpAny_bind (wpAny_callSpecialIfBound?_slot hT slot (GQ.call_here slot hT entry args (h A _ ?_)))
  exact wpAny_pure ⟨rfl, rfl⟩
theorem decl_none : Declines prog w .none a s := by
  refine decl_by (T := "NoneType") rfl PySem.F.slot_NoneType_eq PySem.F.entry_NoneType_eq (PySem.F.args_NoneType_eq_2 _ _) fun A R h => ?_
  obtain ⟨hp, g, d, tk, os⟩ := s
  unfold Builtin.«NoneType.__eq__»
  wp_walk
  exact h
variable {K : PySem.W.Frag} {C : Addr} {ox : Obj} {od : Option Obj}
theorem wp_inst_no {M : Model} {T : String} {Q : Bool → Shared → Prop} (kin : K.In s.heap) (J : PySem.W.InstAt s.heap a ox C od) (e : PySem.W.subIn K (.ref C) (.type T) = some false) (q : Q false s) : wpAny M A (isInstance (.ref a) (.type T)) Q E s := by
  unfold isInstance
  exact wpAny_bind (J.type.here ((PySem.W.looks_subIn kin e).here q))
theorem decl_list {l : Addr} (hT : s.TypeIs (.ref l) "list") (kin : K.In s.heap) (J : PySem.W.InstAt s.heap a ox C od) (e : PySem.W.subIn K (.ref C) (.type "list") = some false) : Declines prog w (.ref l) a s := by
  refine decl_by (T := "list") hT PySem.F.slot_list_eq PySem.F.entry_list_eq (PySem.F.args_list_eq_2 _ _) fun A R h => ?_
  obtain ⟨hp, g, d, tk, os⟩ := s
  wp_walk using wp_inst_no kin J e
  exact h
theorem decl_tuple {l : Addr} (hT : s.TypeIs (.ref l) "tuple") (kin : K.In s.heap) (J : PySem.W.InstAt s.heap a ox C od) (e : PySem.W.subIn K (.ref C) (.type "tuple") = some false) : Declines prog w (.ref l) a s := by
  refine decl_by (T := "tuple") hT PySem.F.slot_tuple_eq PySem.F.entry_tuple_eq (PySem.F.args_tuple_eq_2 _ _) fun A R h => ?_
  obtain ⟨hp, g, d, tk, os⟩ := s
  wp_walk using wp_inst_no kin J e
  exact h
theorem decl_int {i : Int} {t : Tok} {dx : Addr} (hob : s.heap.get? a = some (PySem.W.instObj C dx)) : Declines prog w (.int i t) a s := by
  refine decl_by (T := "int") rfl PySem.F.slot_int_eq PySem.F.entry_int_eq (PySem.F.args_int_eq_2 _ _) fun A R h => ?_
  obtain ⟨hp, g, d, tk, os⟩ := s
  wp_walk
  exact h
end
section
variable {X : Cx} {n : Nat} {A : Around} {pins : List (Addr × Obj)} {s : Shared} {σ : L2.St} {H : Hp} {CX : CXT} {C f : Addr} {fd : FuncData} {ps : List Str} {sp : Sp} {E : XK}
/-- v == the object at a, where v's own == declines: the object's own answers -/
theorem rc_back {a dx : Addr} {fs : List (Str × V)} {y : V} {v : Value} {T : String} {Q : VK} (F : FnOk X.prog X.w X.K X.mg X.base CX n f fd ps sp) (hs : PySem.W.findIn X.K (.ref C) "__eq__" = some (some (.ref f))) (hf : PySem.W.isFn X.K (.ref f) = true)
    (hb : Binds X.K fd ps []) (hx : Passes CX X E) (sb : L2.Sub X n A) (I : Inv X pins σ H s) (ha : H a = some (.ins C dx fs)) (ry : RelV y v) (hT : s.TypeIs v T) (hsub : PySem.W.subIn X.K (.ref C) (.type T) = some false) (hd : Declines X.prog X.w v a s)
    (hsp : sp [.ref a, y] H (fun v H' => ∃ b, v = .bl b ∧ Q (.bl b) H') E) : wpAny (model X.prog X.w) A (richCompare .Eq v (.ref a)) (fun u s' => ∃ b H', u = .bool b ∧ Inv X pins σ H' s' ∧ Q (.bl b) H') X.xe s := by
  obtain ⟨mA, J, _⟩ := ins_get I.hok ha
  obtain ⟨od, J, _⟩ := J.look
  have kin := I.kIn
  have run := run_own F hb hx sb I (.cons (show RelV (.ref a) (.ref a) from rfl) (.cons ry .nil)) hsp
  unfold richCompare
  rw [hT.oneThing_none]
  refine wpAny_holding (wpAny_bind (wpAny_cRoomFor sb.room.units0 ?_))
  refine wpAny_bind (wpAny_typeOf hT (wpAny_bind (J.type.here ?_)))
  rw [show (Value.type T != Value.ref C) = true from rfl]
  simp only [if_true]
  refine wpAny_bind ((PySem.W.looks_subIn kin hsub).here ?_)
  simp only [Bool.false_eq_true, if_false]
  refine wpAny_bind (wpAny_mono (hd A X.xe) (fun r s' z => ?_) fun _ _ e => e)
  obtain ⟨rfl, rfl⟩ := z
  simp only [Bool.not_false, if_true]
  have one : wpAny (model X.prog X.w) A (tryCompare (.ref a) (cmpInfo .Eq).2.2 v) (fun r s' => ∃ u, r = some u ∧ ∃ b H', u = .bool b ∧ Inv X pins σ H' s' ∧ Q (.bl b) H') X.xe s' := by
    unfold tryCompare
    refine wpAny_bind (PySem.W.ifBound_K kin J hs hf (wpAny_mono run (fun u s2 h => ?_) fun _ _ e => e))
    obtain ⟨b, H', rfl, I', q⟩ := back_bool h
    exact wpAny_pure ⟨_, rfl, b, H', rfl, I', q⟩
  refine wpAny_bind (wpAny_mono one (fun r s2 z => ?_) fun _ _ e => e)
  obtain ⟨u, rfl, hq⟩ := z
  exact wpAny_pure hq
theorem eqB_of {v : Value} {a : Addr} {Q : Bool → Shared → Prop} {Er : Value → Shared → Prop} {M : Model} (hne : (v == Value.ref a) = false) (hfl : ∀ b t, v ≠ .float b t) (h : wpAny M A (richCompare .Eq v (.ref a)) (fun u s' => ∃ b, u = .bool b ∧ Q b s') Er s) : wpAny M A (eqBool v (.ref a)) Q Er s := by
  unfold eqBool
  refine wpAny_holding ?_
  rw [hne]
  simp only [Bool.false_eq_true, if_false]
  have fin : wpAny M A (richCompare .Eq v (.ref a) >>= fun r => truthOfDropped r) Q Er s := wpAny_bind (wpAny_mono h (fun u s' z => by
    obtain ⟨b, rfl, q⟩ := z
    exact wpAny_truthy_bool q) fun _ _ e => e)
  cases v with
  | float b t => exact absurd rfl (hfl b t)
  | _ => exact fin
end
end Lw

set_option Elab.async false
set_option linter.all false
set_option maxRecDepth 100000
namespace Lw
open PySem PySem.Spec PyProof.Rows L2
open AutoSeq1 (wpAny_loadPart')
open MeetsSeq MeetsSeq2 MeetsSeq3 SeqRoads2
section
variable {prog : Program} {w : World} {A : Around} {R : Result → Shared → Prop}
/-- in over a list, where no item answers True, and each answer keeps I -/
def InI (prog : Program) (w : World) (A : Around) (Er : Value → Shared → Prop) (l : Addr) (x : Value) (N : Nat) (I : Shared → Prop) : Prop :=
  ∀ s, I s → ∃ (items : Array Value) (n : Nat), s.heap.get? l = some { cls := .type "list", data := .seq items n } ∧ items.size = N ∧ ∀ (i : Nat) (h : i < items.size), wpAny (model prog w) A.in1 (eqBool items[i] x) (fun r s' => r = false ∧ I s') Er s
theorem in_loopF (l : Addr) (x : Value) (N : Nat) (I : Shared → Prop) (hl : InI prog w A (fun e s' => R (.error e) s') l x N I) (fin : ∀ s, I s → R (.ok (.ret (.bool false))) s) (k : Nat) :
    ∀ i : Nat, N - i = k → ∀ s, I s → wpAny (model prog w) A.in1 (Builtin.«list.__contains__.loop» ⟨[.ref l, x, rawInt i], []⟩) (GQ.FinOf prog w A R) (fun e s' => R (.error e) s') s := by
  induction k with
  | zero =>
    intro i hk s h
    obtain ⟨items, n, hl1, hsz, _⟩ := hl _ h
    have hR := fin s h
    obtain ⟨hp, g, d, tk, os⟩ := s
    wp_walk using wpAny_loadPart' hl1
    have hi : items[((i : Nat) : Int).toNat]? = none := by simp; omega
    rw [hi]
    wp_walk
    exact hR
  | succ k ih =>
    intro i hk s h
    obtain ⟨items, n, hl1, hsz, he⟩ := hl _ h
    have hlt : i < items.size := by omega
    have ht := he i hlt
    obtain ⟨hp, g, d, tk, os⟩ := s
    wp_walk using wpAny_loadPart' hl1
    have hi : items[((i : Nat) : Int).toNat]? = some items[i] := by simp [hlt]
    have hc : ((i : Int) + 1) = ((i + 1 : Nat) : Int) := by omega
    rw [hi]
    refine wpAny_bind (wpAny_mono ht (fun r s2 h2 => ?_) fun _ _ x => x)
    obtain ⟨hr, h2⟩ := h2
    subst hr
    have hrec := ih (i + 1) (by omega) s2 h2
    obtain ⟨hp2, g2, d2, tk2, os2⟩ := s2
    wp_walk
    rw [hc]
    exact ⟨plainId_quiet plain_contains_loop _, codeAny_builtin entry_contains_loop (by
      rw [Around.under_plainId plain_contains_loop _]
      exact hrec)⟩
theorem in_listF (l : Addr) (x : Value) (N : Nat) (I : Shared → Prop) (hl : InI prog w A (fun e s' => R (.error e) s') l x N I) (fin : ∀ s, I s → R (.ok (.ret (.bool false))) s) {s : Shared} (h : I s) :
    wpAny (model prog w) A.in1 (Builtin.«list.__contains__» ⟨[.ref l, x], []⟩) (GQ.FinOf prog w A R) (fun e s' => R (.error e) s') s := by
  obtain ⟨items, n, hl1, hsz, he⟩ := hl _ h
  have hrec := in_loopF (A := A) (R := R) l x N I hl fin _ 0 rfl s h
  obtain ⟨hp, g, d, tk, os⟩ := s
  wp_walk using wpAny_loadPart' hl1
  exact ⟨plainId_quiet plain_contains_loop _, codeAny_builtin entry_contains_loop (by
    rw [Around.under_plainId plain_contains_loop _]
    exact hrec)⟩
end
theorem vals_at : ∀ {xs : List V} {us : List Value}, Vals xs us → ∀ (i : Nat) (h : i < us.length), ∃ x, x ∈ xs ∧ RelV x us[i]
  | _, _, .cons r rs, 0, _ => ⟨_, List.mem_cons_self, r⟩
  | _, _, .cons r rs, i + 1, h => by
    obtain ⟨x, hx, rx⟩ := vals_at rs i (by simpa using h)
    exact ⟨x, List.mem_cons_of_mem _ hx, rx⟩
section
variable {X : Cx} {n : Nat} {CX : CXT} {C f : Addr} {fd : FuncData} {ps : List Str} {sp : Sp} {E : XK}
/-- what a thing in the list may be: None, an int, a list, a tuple -/
def Odd (H : Hp) (y : V) : Prop := y = .non ∨ (∃ i, y = .int i) ∨ (∃ p xs, y = .ref p ∧ H p = some (.lst xs)) ∨ ∃ p xs, y = .ref p ∧ H p = some (.tup xs)
/-- what the class must not be -/
structure NoSub (K : PySem.W.Frag) (C : Addr) : Prop where
  non : PySem.W.subIn K (.ref C) (.type "NoneType") = some false
  int : PySem.W.subIn K (.ref C) (.type "int") = some false
  lst : PySem.W.subIn K (.ref C) (.type "list") = some false
  tup : PySem.W.subIn K (.ref C) (.type "tuple") = some false
/-- the object at a in a list of things of other kinds: its own == answers False of each and changes nothing -/
def rInO (C : Addr) (sp : Sp) (E : XK) : R2 := fun x y H Q => ∃ (a l dx : Addr) (fs : List (Str × V)) (ys : List V), x = .ref a ∧ y = .ref l ∧ H a = some (.ins C dx fs) ∧ H l = some (.lst ys) ∧ (∀ y ∈ ys, Odd H y ∧ sp [.ref a, y] H (fun v H' => v = .bl false ∧ H' = H) E) ∧ Q (.bl false) H
theorem op_inO (F : FnOk X.prog X.w X.K X.mg X.base CX n f fd ps sp) (hs : PySem.W.findIn X.K (.ref C) "__eq__" = some (some (.ref f))) (hf : PySem.W.isFn X.K (.ref f) = true) (ns : NoSub X.K C) (hb : Binds X.K fd ps []) (hx : Passes CX X E) (hr : Room (n + 1) X.A)
    (hmono : ∀ vs H (Q Q' : VK) E, (∀ v H', Q v H' → Q' v H') → sp vs H Q E → sp vs H Q' E) :
    OpR X (compareOp .In) (rInO C sp E) := by
  intro pins s σ H x y v u Q I rx ry h
  obtain ⟨a, l, dx, fs, ys, rfl, rfl, ha, hl, hys, q⟩ := h
  cases rx
  cases ry
  obtain ⟨hz, its, nn, rv, hl0⟩ := (show ObjOk X.prog X.w H s.heap l (.lst ys) from I.hok l _ hl)
  have sub1 := L2.Sub.in1 (X := X) (n := n) (A := X.A) ⟨hr, rfl⟩
  show wpAny (model X.prog X.w) X.A (do return Value.bool (← contains (.ref l) (.ref a))) _ _ s
  have hT : s.TypeIs (.ref l) "list" := ⟨_, hl0, rfl⟩
  refine wpAny_bind (wpAny_contains_slot hT PySem.F.slot_list_contains (GQ.call_here PySem.F.slot_list_contains hT PySem.F.entry_list_contains (PySem.F.args_list_contains_2 _ _) ?_))
  refine in_listF l (.ref a) ys.length (fun s' => Inv X pins σ H s') (fun s' I' => ?_) (fun s' I' => ?_) I
  · obtain ⟨hz', its', nn', rv', hl'⟩ := (show ObjOk X.prog X.w H s'.heap l (.lst ys) from I'.hok l _ hl)
    refine ⟨its'.toArray, nn', hl', by simpa using rv'.length.symm, fun i hi => ?_⟩
    obtain ⟨y, hy, ry⟩ := vals_at rv' i (by simpa using hi)
    obtain ⟨odd, hsp⟩ := hys y hy
    have hsp2 : sp [.ref a, y] H (fun v H' => ∃ b, v = .bl b ∧ ((fun v H' => v = .bl false ∧ H' = H) : VK) (.bl b) H') E := hmono _ _ _ _ _ (fun v H' h => ⟨false, h.1, rfl, h.2⟩) hsp
    have ei : its'.toArray[i] = its'[i]'(by simpa using hi) := by simp
    rw [ei]
    obtain ⟨mA, Jm, _⟩ := ins_get I'.hok ha
    have hob := Jm.1
    obtain ⟨od, J, _⟩ := Jm.look
    have fin : ∀ {v : Value} {T : String}, RelV y v → s'.TypeIs v T → PySem.W.subIn X.K (.ref C) (.type T) = some false → Declines X.prog X.w v a s' → (v == Value.ref a) = false → (∀ b t, v ≠ .float b t) →
        wpAny (model X.prog X.w) X.A.in1 (eqBool v (.ref a)) (fun r s' => r = false ∧ Inv X pins σ H s') (fun e s' => wants (fun r s' => wpAny (model X.prog X.w) X.A (truthy r) (fun b s' => wpAny (model X.prog X.w) X.A (pure (Value.bool b)) (EP X pins σ Q) X.xe s') X.xe s') X.xe (.error e) s') s' := by
      intro v T rv hT' hsub hd hne hfl
      refine eqB_of hne hfl (wpAny_mono (rc_back (Q := fun v H' => v = .bl false ∧ H' = H) F hs hf hb hx sub1 I' ha rv hT' hsub hd hsp2) (fun u s2 h => ?_) fun _ _ e => e)
      obtain ⟨b, H', rfl, I2, e1, rfl⟩ := h
      injection e1 with e1
      subst e1
      exact ⟨false, rfl, rfl, I2⟩
    rcases odd with rfl | ⟨j, rfl⟩ | ⟨p, xs, rfl, hp⟩ | ⟨p, xs, rfl, hp⟩
    · have e1 : its'[i]'(by simpa using hi) = Value.none := ry
      rw [e1]
      exact fin (T := "NoneType") rfl rfl ns.non decl_none rfl (fun b t z => nomatch z)
    · obtain ⟨t, e1⟩ := ry
      rw [e1]
      exact fin (T := "int") ⟨t, rfl⟩ rfl ns.int (decl_int hob) rfl (fun b t z => nomatch z)
    · have e1 : its'[i]'(by simpa using hi) = Value.ref p := ry
      rw [e1]
      obtain ⟨_, _, _, _, hpo⟩ := (show ObjOk X.prog X.w H s'.heap p (.lst xs) from I'.hok p _ hp)
      have pa : p ≠ a := fun z => by
        rw [z, ha] at hp
        cases hp
      exact fin (T := "list") rfl ⟨_, hpo, rfl⟩ ns.lst (decl_list ⟨_, hpo, rfl⟩ I'.kIn J ns.lst) (by simpa using pa) (fun b t z => nomatch z)
    · have e1 : its'[i]'(by simpa using hi) = Value.ref p := ry
      rw [e1]
      obtain ⟨_, _, _, o, hpo, hpc, _⟩ := (show ObjOk X.prog X.w H s'.heap p (.tup xs) from I'.hok p _ hp)
      have pa : p ≠ a := fun z => by
        rw [z, ha] at hp
        cases hp
      exact fin (T := "tuple") rfl ⟨_, hpo, hpc⟩ ns.tup (decl_tuple ⟨_, hpo, hpc⟩ I'.kIn J ns.tup) (by simpa using pa) (fun b t z => nomatch z)
  · exact wpAny_truthy_bool (wpAny_pure ⟨.bl false, H, I', rfl, q⟩)
end
end Lw

set_option Elab.async false
set_option linter.all false
set_option maxRecDepth 100000
/-! ==, != and in of objects of several classes with their own __eq__; which class is known only as it runs -/
namespace Lw
open PySem PySem.Spec PyProof.Rows L2
/-- two ways to read one row -/
theorem PE.or {X : Cx} {e : Expr} {t u : TE} (a : PE X e t) (b : PE X e u) : PE X e (fun σ H Q => t σ H Q ∨ u σ H Q) := ⟨fun pins s σ H Q I h => h.elim (a.run pins s σ H Q I) (b.run pins s σ H Q I)⟩
theorem OpR.or {X : Cx} {op : Value → Value → Sem Value} {r q : R2} (a : OpR X op r) (b : OpR X op q) : OpR X op (fun x y H Q => r x y H Q ∨ q x y H Q) := fun pins s σ H x y v u Q I rx ry h => h.elim (a pins s σ H x y v u Q I rx ry) (b pins s σ H x y v u Q I rx ry)
section
variable {X : Cx} {n : Nat} {A : Around} {pins : List (Addr × Obj)} {s : Shared} {σ : L2.St} {H : Hp} {CX : CXT} {C f : Addr} {fd : FuncData} {ps : List Str} {sp : Sp} {E : XK}
/-- x == y, x of the class at C, y of a class that is none below it -/
def rEqX (K : PySem.W.Frag) (C : Addr) (sp : Sp) (E : XK) : R2 := fun x y H Q => ∃ a b dx dy fs gs C2, x = .ref a ∧ y = .ref b ∧ H a = some (.ins C dx fs) ∧ H b = some (.ins C2 dy gs) ∧ PySem.W.notFirst K C (.ref C2) = true ∧ sp [x, y] H (fun v H' => ∃ c, v = .bl c ∧ Q (.bl c) H') E
theorem op_eqX (F : FnOk X.prog X.w X.K X.mg X.base CX n f fd ps sp) (hs : PySem.W.findIn X.K (.ref C) "__eq__" = some (some (.ref f))) (hf : PySem.W.isFn X.K (.ref f) = true) (hb : Binds X.K fd ps []) (hx : Passes CX X E) (hr : Room n X.A) :
    OpR X (compareOp .Eq) (rEqX X.K C sp E) := by
  rintro pins s σ H x y v u Q I rx ry ⟨a, b, dx, dy, fs, gs, C2, rfl, rfl, ha, hb2, nf, want⟩
  cases rx
  cases ry
  obtain ⟨_, J, _⟩ := ins_get I.hok hb2
  obtain ⟨_, J, _⟩ := J.look
  refine wpAny_mono (rc_own (tb := .ref C2) F hs hf hb hx ⟨hr, rfl⟩ I ha (y := .ref b) rfl J.type nf want) ?_ fun _ _ e => e
  rintro _ s' ⟨c, H', rfl, I', q⟩
  exact ⟨.bl c, H', I', rfl, q⟩
def rNeX (K : PySem.W.Frag) (C : Addr) (sp : Sp) (E : XK) : R2 := fun x y H Q => ∃ a b dx dy fs gs C2, x = .ref a ∧ y = .ref b ∧ H a = some (.ins C dx fs) ∧ H b = some (.ins C2 dy gs) ∧ PySem.W.notFirst K C (.ref C2) = true ∧ sp [x, y] H (fun v H' => ∃ c, v = .bl c ∧ Q (.bl (!c)) H') E
theorem op_neX {nm q : Str} {N : Addr} {bs bm : List Value} {hdct : Bool} {sn : List Str} {sub : List Value} {ab : Bool} {col : Option Bool} {dd : Option Addr} {k0 k1 k2 k3 k5 : Option Value} {newId : String}
    (F : FnOk X.prog X.w X.K X.mg X.base CX n f fd ps sp) (hs : PySem.W.findIn X.K (.ref C) "__eq__" = some (some (.ref f))) (hf : PySem.W.isFn X.K (.ref f) = true) (hne : PySem.W.findIn X.K (.ref C) "__ne__" = some (some (.builtin "object.__ne__")))
    (hC : X.K.lookup C = some (excClassObj nm q C N bs bm hdct sn sub ab col dd k0 k1 k2 k3 k5 newId)) (top : bm.contains (.type "object") = true) (hb : Binds X.K fd ps []) (hx : Passes CX X E) (hr : Room (n + 1) X.A) :
    OpR X (compareOp .NotEq) (rNeX X.K C sp E) := by
  rintro pins s σ H x y v u Q I rx ry ⟨a, b, dx, dy, fs, gs, C2, rfl, rfl, ha, hb2, nf, want⟩
  cases rx
  cases ry
  obtain ⟨_, J, _⟩ := ins_get I.hok ha
  obtain ⟨_, J, _⟩ := J.look
  obtain ⟨_, J2, _⟩ := ins_get I.hok hb2
  obtain ⟨_, J2, _⟩ := J2.look
  have kin := I.kIn
  have un := hr.un
  have hu1 : X.A.units + 1 < cLine := by omega
  have run := run_own (A := X.A.in1) F hb hx (L2.Sub.in1 (X := X) (n := n) (A := X.A) ⟨hr, rfl⟩) I (.cons (show RelV (.ref a) (.ref a) from rfl) (.cons (show RelV (.ref b) (.ref b) from rfl) .nil)) want
  have one : wpAny (model X.prog X.w) X.A (tryCompare (.ref a) (cmpInfo .NotEq).2.1 (.ref b)) (fun r s' => ∃ v, r = some v ∧ EP X pins σ Q v s') X.xe s := by
    unfold tryCompare
    refine wpAny_bind ?_
    simp only [callSpecialIfBound?, bindSpecialIfBound?]
    refine wpAny_holding (wpAny_bind (wpAny_bind (wpAny_bind (J.type.here ((PySem.W.looks_findIn kin hne).here ?_)))))
    simp only [PySem.F.cmp_object.ne.bind]
    refine wpAny_bind (wpAny_askSetting (wpAny_ite ?_))
    have fin : wpAny (model X.prog X.w) X.A (call (.builtin "object.__ne__") ([.ref a] ++ [.ref b])) (fun v s' => wpAny (model X.prog X.w) X.A (match (some v : Option Value) with
        | some .notImplemented | none => pure none
        | some v => pure (some v)) (fun r s' => ∃ v, r = some v ∧ EP X pins σ Q v s') X.xe s') X.xe s := by
      obtain ⟨hp, g, d, t, os⟩ := s
      refine wpAny_call (codeAny_call_builtin PySem.F.cmp_object.ne.plain PySem.F.cmpEntry_ne (wpAny_check_slot_inst PySem.F.cmpKind_ne PySem.F.cmpSplit_ne (PySem.F.cmpArgs_ne _ _) top J.at_ J.cls (kin _ _ hC) ?_))
      refine ne_body (A := X.A.in1) kin J hs hf (by exact hu1) (wpAny_mono run ?_ fun _ _ e => e)
      rintro u s' ⟨v, H', I', rv, c, rfl, q⟩
      cases rv
      exact ⟨c, rfl, wpAny_pure ⟨_, rfl, .bl (!c), H', I', rfl, q⟩⟩
    split
    · exact wpAny_bind (wpAny_pure (wpAny_pure (wpAny_bind (wpAny_mono fin (fun v s' h => wpAny_pure h) fun _ _ e => e))))
    · exact wpAny_tryCatch (wpAny_bind (wpAny_pure (wpAny_pure (wpAny_bind (wpAny_mono fin (fun v s' h => wpAny_pure h) fun _ _ e => e)))))
  have end_ : wpAny (model X.prog X.w) X.A (tryCompare (.ref a) (cmpInfo .NotEq).2.1 (.ref b)) (fun r s' => ∃ v, r = some v ∧ EP X pins σ Q v s') X.xe s := one
  show wpAny (model X.prog X.w) X.A (richCompare .NotEq (.ref a) (.ref b)) (EP X pins σ Q) X.xe s
  unfold richCompare
  simp only [oneThing_ref]
  refine wpAny_holding (wpAny_bind (wpAny_cRoomFor (Nat.lt_of_succ_lt hu1) (wpAny_bind (J.type.here (wpAny_bind (J2.type.here ?_))))))
  by_cases same : C2 = C
  · subst same
    rw [show (Value.ref C2 != Value.ref C2) = false from by simp]
    simp only [Bool.false_eq_true, if_false]
    refine wpAny_bind (wpAny_pure ?_)
    simp only [Bool.false_eq_true, if_false]
    refine wpAny_bind (wpAny_mono end_ ?_ fun _ _ e => e)
    rintro _ s' ⟨v, rfl, hq⟩
    exact wpAny_pure hq
  · have no : PySem.W.subIn X.K (.ref C2) (.ref C) = some false := by
      rcases Bool.or_eq_true_iff.mp nf with e | e
      · have z := beq_iff_eq.mp e
        injection z with z
        exact absurd z same
      · exact beq_iff_eq.mp e
    rw [show (Value.ref C != Value.ref C2) = true from by simp [Ne.symm same]]
    simp only [if_true]
    refine wpAny_bind ((PySem.W.looks_subIn kin no).here ?_)
    simp only [Bool.false_eq_true, if_false]
    refine wpAny_bind (wpAny_mono end_ ?_ fun _ _ e => e)
    rintro _ s' ⟨v, rfl, hq⟩
    exact wpAny_pure hq
theorem decl_str {prog : Program} {w : World} {a dx : Addr} {y : Str} {t : Tok} {s : Shared} (hob : s.heap.get? a = some (PySem.W.instObj C dx)) : Declines prog w (.str y t) a s := by
  refine decl_by (T := "str") rfl PySem.F.slot_str_eq PySem.F.entry_str_eq (PySem.F.args_str_eq_2 _ _) fun A R h => ?_
  obtain ⟨hp, g, d, tk, os⟩ := s
  wp_walk
  exact h
end
end Lw

set_option Elab.async false
set_option linter.all false
set_option maxRecDepth 100000
namespace Lw
open PySem PySem.Spec PyProof.Rows L2
open MeetsSeq MeetsSeq2 MeetsSeq3 SeqRoads2
section
variable {X : Cx} {n : Nat} {CX : CXT} {C f : Addr} {fd : FuncData} {ps : List Str} {sp : Sp} {E : XK}
/-- what a thing in the list may be: None, an int, a list, a tuple, a text -/
def OddS (H : Hp) (y : V) : Prop := (∃ z, y = .str z) ∨ y = .non ∨ (∃ i, y = .int i) ∨ (∃ p xs, y = .ref p ∧ H p = some (.lst xs)) ∨ ∃ p xs, y = .ref p ∧ H p = some (.tup xs)
/-- what the class must not be -/
structure NoSubS (K : PySem.W.Frag) (C : Addr) : Prop where
  non : PySem.W.subIn K (.ref C) (.type "NoneType") = some false
  int : PySem.W.subIn K (.ref C) (.type "int") = some false
  lst : PySem.W.subIn K (.ref C) (.type "list") = some false
  tup : PySem.W.subIn K (.ref C) (.type "tuple") = some false
  str : PySem.W.subIn K (.ref C) (.type "str") = some false
/-- the object at a in a list of things of other kinds: its own == answers False of each and changes nothing -/
def rInS (C : Addr) (sp : Sp) (E : XK) : R2 := fun x y H Q => ∃ (a l dx : Addr) (fs : List (Str × V)) (ys : List V), x = .ref a ∧ y = .ref l ∧ H a = some (.ins C dx fs) ∧ H l = some (.lst ys) ∧ (∀ y ∈ ys, OddS H y ∧ sp [.ref a, y] H (fun v H' => v = .bl false ∧ H' = H) E) ∧ Q (.bl false) H
theorem op_inS (F : FnOk X.prog X.w X.K X.mg X.base CX n f fd ps sp) (hs : PySem.W.findIn X.K (.ref C) "__eq__" = some (some (.ref f))) (hf : PySem.W.isFn X.K (.ref f) = true) (ns : NoSubS X.K C) (hb : Binds X.K fd ps []) (hx : Passes CX X E) (hr : Room (n + 1) X.A)
    (hmono : ∀ vs H (Q Q' : VK) E, (∀ v H', Q v H' → Q' v H') → sp vs H Q E → sp vs H Q' E) :
    OpR X (compareOp .In) (rInS C sp E) := by
  intro pins s σ H x y v u Q I rx ry h
  obtain ⟨a, l, dx, fs, ys, rfl, rfl, ha, hl, hys, q⟩ := h
  cases rx
  cases ry
  obtain ⟨hz, its, nn, rv, hl0⟩ := (show ObjOk X.prog X.w H s.heap l (.lst ys) from I.hok l _ hl)
  have sub1 := L2.Sub.in1 (X := X) (n := n) (A := X.A) ⟨hr, rfl⟩
  show wpAny (model X.prog X.w) X.A (do return Value.bool (← contains (.ref l) (.ref a))) _ _ s
  have hT : s.TypeIs (.ref l) "list" := ⟨_, hl0, rfl⟩
  refine wpAny_bind (wpAny_contains_slot hT PySem.F.slot_list_contains (GQ.call_here PySem.F.slot_list_contains hT PySem.F.entry_list_contains (PySem.F.args_list_contains_2 _ _) ?_))
  refine in_listF l (.ref a) ys.length (fun s' => Inv X pins σ H s') (fun s' I' => ?_) (fun s' I' => ?_) I
  · obtain ⟨hz', its', nn', rv', hl'⟩ := (show ObjOk X.prog X.w H s'.heap l (.lst ys) from I'.hok l _ hl)
    refine ⟨its'.toArray, nn', hl', by simpa using rv'.length.symm, fun i hi => ?_⟩
    obtain ⟨y, hy, ry⟩ := vals_at rv' i (by simpa using hi)
    obtain ⟨odd, hsp⟩ := hys y hy
    have hsp2 : sp [.ref a, y] H (fun v H' => ∃ b, v = .bl b ∧ ((fun v H' => v = .bl false ∧ H' = H) : VK) (.bl b) H') E := hmono _ _ _ _ _ (fun v H' h => ⟨false, h.1, rfl, h.2⟩) hsp
    have ei : its'.toArray[i] = its'[i]'(by simpa using hi) := by simp
    rw [ei]
    obtain ⟨mA, Jm, _⟩ := ins_get I'.hok ha
    have hob := Jm.1
    obtain ⟨od, J, _⟩ := Jm.look
    have fin : ∀ {v : Value} {T : String}, RelV y v → s'.TypeIs v T → PySem.W.subIn X.K (.ref C) (.type T) = some false → Declines X.prog X.w v a s' → (v == Value.ref a) = false → (∀ b t, v ≠ .float b t) →
        wpAny (model X.prog X.w) X.A.in1 (eqBool v (.ref a)) (fun r s' => r = false ∧ Inv X pins σ H s') (fun e s' => wants (fun r s' => wpAny (model X.prog X.w) X.A (truthy r) (fun b s' => wpAny (model X.prog X.w) X.A (pure (Value.bool b)) (EP X pins σ Q) X.xe s') X.xe s') X.xe (.error e) s') s' := by
      intro v T rv hT' hsub hd hne hfl
      refine eqB_of hne hfl (wpAny_mono (rc_back (Q := fun v H' => v = .bl false ∧ H' = H) F hs hf hb hx sub1 I' ha rv hT' hsub hd hsp2) (fun u s2 h => ?_) fun _ _ e => e)
      obtain ⟨b, H', rfl, I2, e1, rfl⟩ := h
      injection e1 with e1
      subst e1
      exact ⟨false, rfl, rfl, I2⟩
    rcases odd with ⟨z, rfl⟩ | rfl | ⟨j, rfl⟩ | ⟨p, xs, rfl, hp⟩ | ⟨p, xs, rfl, hp⟩
    · obtain ⟨t, e1⟩ := ry
      rw [e1]
      exact fin (T := "str") ⟨t, rfl⟩ rfl ns.str (decl_str hob) rfl (fun b t z => nomatch z)
    · have e1 : its'[i]'(by simpa using hi) = Value.none := ry
      rw [e1]
      exact fin (T := "NoneType") rfl rfl ns.non decl_none rfl (fun b t z => nomatch z)
    · obtain ⟨t, e1⟩ := ry
      rw [e1]
      exact fin (T := "int") ⟨t, rfl⟩ rfl ns.int (decl_int hob) rfl (fun b t z => nomatch z)
    · have e1 : its'[i]'(by simpa using hi) = Value.ref p := ry
      rw [e1]
      obtain ⟨_, _, _, _, hpo⟩ := (show ObjOk X.prog X.w H s'.heap p (.lst xs) from I'.hok p _ hp)
      have pa : p ≠ a := fun z => by
        rw [z, ha] at hp
        cases hp
      exact fin (T := "list") rfl ⟨_, hpo, rfl⟩ ns.lst (decl_list ⟨_, hpo, rfl⟩ I'.kIn J ns.lst) (by simpa using pa) (fun b t z => nomatch z)
    · have e1 : its'[i]'(by simpa using hi) = Value.ref p := ry
      rw [e1]
      obtain ⟨_, _, _, o, hpo, hpc, _⟩ := (show ObjOk X.prog X.w H s'.heap p (.tup xs) from I'.hok p _ hp)
      have pa : p ≠ a := fun z => by
        rw [z, ha] at hp
        cases hp
      exact fin (T := "tuple") rfl ⟨_, hpo, hpc⟩ ns.tup (decl_tuple ⟨_, hpo, hpc⟩ I'.kIn J ns.tup) (by simpa using pa) (fun b t z => nomatch z)
  · exact wpAny_truthy_bool (wpAny_pure ⟨.bl false, H, I', rfl, q⟩)
end
end Lw

set_option Elab.async false
set_option linter.all false
set_option maxRecDepth 100000
/-! set(xs), xs a list of ints; sorted of it -/
namespace SetL
open PySem PySem.Spec PyProof.Rows L2
/-- an empty set, as it is made -/
abbrev bare (w : World) : Obj := { cls := .type "set", dict := none, data := .set #[] 0 (.fresh 0 0 (!w.params.followText "set-order")) }
section
variable {P : Program} {w : World} {A : Around} {E : Value → Shared → Prop} {s : Shared}
/-- what its filling leaves -/
abbrev Filled (w : World) (s : Shared) (ns : List Int) : Value → Shared → Prop := fun r s2 => r = .none ∧ ∃ g tk c, s2 = { s with heap := g, toks := tk } ∧ SetR w g s.heap.objs.size (fun j => decide (j ∈ ns)) c ∧ c ≤ ns.length ∧ ∀ b o, s.heap.get? b = some o → g.get? b = some o
set_option maxHeartbeats 3200000 in
theorem fill {l : Addr} {items : Array Value} (ns : List Int) {R : Result → Shared → Prop} (calm : A.handled = none) (hl : s.heap.IsList l items) (are : IntsAre items.toList ns) (few : ns.length + 1 < scanBound)
    (fin : ∀ s2, Filled w s ns .none s2 → R (.ok (.ret .none)) s2) :
    wpAny (model P w) A.in1 (Builtin.«set.__init__» ⟨[.ref s.heap.objs.size, .ref l], []⟩) (GQ.FinOf P w A R) (fun e s' => R (.error e) s') { s with heap := s.heap.push (bare w) } := by
  have size : items.size = ns.length := by
    have q := IntsAre.length are
    rwa [Array.length_toList] at q
  have at0 : (s.heap.push (bare w)).get? s.heap.objs.size = some (bare w) := Heap.get?_push_size _ rfl
  obtain ⟨⟨cls, dic, dat, slo⟩, hol, hc, nl, hd⟩ := hl
  simp only at hc hd
  subst hc hd
  have hol2 : (s.heap.push (bare w)).get? l = some { cls := .type "list", dict := dic, data := .seq items nl, slots := slo } := Heap.get?_push_of_some _ hol
  have lst : (s.heap.push (bare w)).IsList l items := ⟨_, hol2, rfl, nl, rfl⟩
  have below : l < s.heap.objs.size := Heap.lt_size hol
  have q1 := F.sub_list_set
  have q2 := F.sub_list_frozenset
  have q3 : (Value.type "list" == Value.type "dict") = false := by decide
  unfold Builtin.«set.__init__» noKeywords Builtin.Frozenset.updateFrom
  generalize it : pyIter = PI
  wp_walk
  subst it
  refine wpAny_pyIter_list lst (wpAny_bind (wpAny_runValue ?_))
  have sz : (s.heap.push (bare w)).objs.size = s.heap.objs.size + 1 := Heap.size_push ..
  have apart : s.heap.objs.size ∉ [(s.heap.push (bare w)).objs.size, l] := by
    rw [sz]
    simp only [List.mem_cons, List.mem_singleton, List.not_mem_nil, or_false, not_or]
    exact ⟨Nat.ne_of_lt (Nat.lt_succ_self _), Nat.ne_of_gt below⟩
  have val : ∀ (i : Nat) (v : Value), items[i]? = some v → ∃ k t, ns[i]? = some k ∧ v = .int k t := by
    intro i v hv
    have hi : i < ns.length := size ▸ (Array.getElem?_eq_some_iff.mp hv).1
    obtain ⟨t, e⟩ := PyProof.Rows.IntsAre.int_at are i v (by rw [Array.getElem?_toList, hv])
    refine ⟨ns[i], t, List.getElem?_eq_getElem hi, ?_⟩
    rw [e, List.getD_eq_getElem?_getD, List.getElem?_eq_getElem hi] <;> rfl
  refine set_update_ints ((Walks.list (A := A.in1.in1) (by simp [calm]) _ l (by rw [sz]; exact Nat.ne_of_lt (Nat.lt_succ_of_lt below)) items).toS) s.heap.objs.size apart ns size few val (items.size - 0) 0 _ (by omega) (Nat.zero_le _) ?_ ?_ ?_
  · exact ⟨⟨_, Heap.get?_push_size _ rfl, rfl, rfl⟩, lst.push _⟩
  · exact ⟨0, Nat.le_refl 0, setR_new_at (Heap.get?_push_of_some _ at0)⟩
  · rintro ⟨g, g2, d2, tk2, os2⟩ c mv le full
    obtain rfl : g2 = s.gens := mv.gens
    obtain rfl : d2 = s.drawn := mv.drawn
    obtain rfl : os2 = s.os := mv.os
    refine (show wpAny _ _ _ _ _ _ from wpAny_pure (show wpAny _ _ (ret Value.none) _ _ _ from wpAny_pure (fin _ ⟨rfl, g, tk2, c, rfl, full, size ▸ le, fun b o e => ?_⟩)))
    have lb := Heap.lt_size e
    refine mv.heap b o ?_ (Heap.get?_push_of_some _ (Heap.get?_push_of_some _ e))
    rw [sz]
    simp only [List.mem_cons, List.mem_singleton, List.not_mem_nil, or_false, not_or]
    exact ⟨Nat.ne_of_lt lb, Nat.ne_of_lt (Nat.lt_succ_of_lt lb)⟩
set_option maxHeartbeats 3200000 in
theorem call_list {l : Addr} {items : Array Value} (ns : List Int) {Q : Value → Shared → Prop} (calm : A.handled = none) (hl : s.heap.IsList l items) (are : IntsAre items.toList ns) (few : ns.length + 1 < scanBound)
    (h : ∀ (g : Heap) (tk c : Nat), SetR w g s.heap.objs.size (fun j => decide (j ∈ ns)) c → c ≤ ns.length → (∀ b o, s.heap.get? b = some o → g.get? b = some o) → Q (.ref s.heap.objs.size) { s with heap := g, toks := tk }) :
    wpAny (model P w) A (call (.type "set") [.ref l]) Q E s := by
  obtain ⟨c, tl, mro⟩ := F.called_set.mro
  have a1 := F.called_set.made
  have a2 := F.called_set.sub
  have a3 := F.called_set.notType
  have a4 := F.called_set.canCreate
  have a5 := F.typeCall_set_1 (.ref l)
  refine wpAny_call (codeAny_of_tree (show wpAny _ _ (callAny (.type "set") _) _ _ _ from wpAny_pure ⟨Code.quiet_builtin _ (by decide +kernel), codeAny_builtin F.entry_type_call ?_⟩))
  rw [Around.under_plain (weight_type_call_type "set" [.ref l] []) rfl]
  repeat (any_goals (first | assumption | wp_step))
  refine codeAny_mono (code_set_led1 (.ref l) (E := E) (Q₁ := fun obj s1 => obj = .ref s.heap.objs.size ∧ s1 = { s with heap := s.heap.push (bare w) }) ⟨rfl, rfl⟩) ?_
  intro r s1 hr
  cases r with
  | error e => exact hr
  | ok fl =>
    cases fl with
    | next => exact hr.elim
    | brk => exact hr.elim
    | cont => exact hr.elim
    | ret obj =>
      obtain ⟨rfl, rfl⟩ := hr
      have isSet : Shared.TypeIs { s with heap := s.heap.push (bare w) } (.ref s.heap.objs.size) "set" := ⟨_, Heap.get?_push_size _ rfl, rfl⟩
      have b1 := F.called_set.init.lookup
      have b2 := F.called_set.init.bind (.ref s.heap.objs.size)
      repeat (any_goals (first | assumption | wp_step))
      refine codeAny_mono (codeAny_call_builtin (R := wants (Filled w s ns) E) F.called_set.init.plain F.entry_set_init (check_set_init_1 isSet (fill (R := wants (Filled w s ns) E) ns calm hl are few fun s2 z => z))) ?_
      intro r2 s2 hr2
      cases r2 with
      | error e => exact hr2
      | ok fl =>
        cases fl with
        | next => exact hr2.elim
        | brk => exact hr2.elim
        | cont => exact hr2.elim
        | ret v =>
          obtain ⟨rfl, g, tk, c', rfl, full, le, up⟩ := hr2
          repeat (any_goals (first | assumption | wp_step))
          exact h _ _ _ full le up
end
section
variable {X : Cx}
/-- set(xs) -/
def rSetL (K : PySem.W.Frag) (w : World) : List V → Hp → VK → Prop := fun vs H Q => ∃ (l : Addr) (ns : List Int), vs = [.ref l] ∧ SqL K H l (ns.map V.int) ∧ ns.length ≤ 60 ∧ ∀ (p : Addr) (c : Nat), H p = none → c ≤ ns.length → Q (.ref p) (upd H p (SetO w p (fun j => decide (j ∈ ns)) c))
theorem cr_setL (hc : X.calm = true) : CallR X (.type "set") (rSetL X.K X.w) := by
  rintro pins s σ H vs us Q I r ⟨l, ns, rfl, hq, few, q⟩
  rw [Vals.ref1 r]
  obtain ⟨its, rv, pl, _⟩ := I.list hq
  refine call_list ns (I.ok.hd hc) pl.isList (by simpa using RZ.intsAre_vals rv) (by unfold scanBound; omega) fun g tk c full le up => ?_
  have n0 := I.hok.fresh (Nat.le_refl s.heap.objs.size)
  exact ⟨.ref s.heap.objs.size, _, I.laid (t' := tk) up (Nat.le_refl _) (setO_new full), rfl, q _ c n0 le⟩
end
end SetL

set_option Elab.async false
set_option linter.all false
/-! rows as sequences, and their normal form -/
namespace Lw
/-- the edge at a place -/
def sq (xs ys : List Int) (i : Nat) : Int := if i < xs.length then xs.getD i 0 else ys.getD ((i - xs.length) % ys.length) 0
def Per (s : Nat → Int) (m p : Nat) : Prop := ∀ i, m ≤ i → s i = s (i + p)
structure IsNF (s : Nat → Int) (m p : Nat) : Prop where
  p1 : 1 ≤ p
  per : Per s m p
  minp : ∀ m' p', 1 ≤ p' → Per s m' p' → p ≤ p'
  minm : ∀ m', Per s m' p → m ≤ m'
theorem IsNF.uniq {s : Nat → Int} {m p m' p' : Nat} (h : IsNF s m p) (h' : IsNF s m' p') : m = m' ∧ p = p' := by
  have e : p = p' := Nat.le_antisymm (h.minp m' p' h'.p1 h'.per) (h'.minp m p h.p1 h.per)
  subst e
  exact ⟨Nat.le_antisymm (h.minm m' h'.per) (h'.minm m h.per), rfl⟩
/-- the first n from m on -/
def seg (s : Nat → Int) (m n : Nat) : List Int := (List.range n).map fun k => s (m + k)
theorem seg_len (s : Nat → Int) (m n : Nat) : (seg s m n).length = n := by
  unfold seg
  simp
theorem seg_get (s : Nat → Int) (m n k : Nat) (h : k < n) : (seg s m n).getD k 0 = s (m + k) := by
  unfold seg
  simp [List.getD, h]
theorem seg_get? (s : Nat → Int) (m n k : Nat) (h : k < n) : (seg s m n)[k]? = some (s (m + k)) := by
  unfold seg
  simp [h]
theorem Per.mono {s : Nat → Int} {m m' p : Nat} (h : Per s m p) (hm : m ≤ m') : Per s m' p := fun i hi => h i (Nat.le_trans hm hi)
theorem Per.mul {s : Nat → Int} {m p : Nat} (h : Per s m p) : ∀ (k i : Nat), m ≤ i → s i = s (i + k * p)
  | 0, i, _ => by simp
  | k + 1, i, hi => by
    rw [h.mul k i hi, h (i + k * p) (by omega)]
    congr 1
    rw [Nat.succ_mul]
    omega
/-- the tail of a row is periodic -/
theorem sq_per (xs ys : List Int) (hy : ys ≠ []) : Per (sq xs ys) xs.length ys.length := fun i hi => by
  have h0 : 0 < ys.length := List.length_pos_iff.mpr hy
  unfold sq
  rw [if_neg (by omega), if_neg (by omega), show i + ys.length - xs.length = (i - xs.length) + ys.length by omega, Nat.add_mod_right]
/-- two places behind m that differ by a multiple of p -/
theorem Per.cong {s : Nat → Int} {m p : Nat} (h : Per s m p) (hp : 0 < p) {i j : Nat} (hi : m ≤ i) (hj : m ≤ j) (e : i % p = j % p) : s i = s j := by
  rcases Nat.le_total i j with hij | hij
  · have : j = i + ((j - i) / p) * p := by
      have h1 : (j - i) % p = 0 := Nat.sub_mod_eq_zero_of_mod_eq e.symm
      have h2 := Nat.div_add_mod (j - i) p
      rw [h1, Nat.mul_comm] at h2
      omega
    rw [this]
    exact h.mul _ i hi
  · have : i = j + ((i - j) / p) * p := by
      have h1 : (i - j) % p = 0 := Nat.sub_mod_eq_zero_of_mod_eq e
      have h2 := Nat.div_add_mod (i - j) p
      rw [h1, Nat.mul_comm] at h2
      omega
    rw [this]
    exact (h.mul _ j hj).symm
/-- a period that holds somewhere holds from where the row repeats -/
theorem Per.back {s : Nat → Int} {h n m p : Nat} (t : Per s h n) (hn : 0 < n) (q : Per s m p) : Per s h p := fun i hi => by
  have e1 := t.mul m i hi
  have e2 := t.mul m (i + p) (by omega)
  have hm : m ≤ i + m * n := by
    have : m ≤ m * n := Nat.le_mul_of_pos_right m hn
    omega
  rw [e1, e2, q (i + m * n) hm]
  congr 1
  omega
/-- the least period divides every period of the tail -/
theorem least_dvd {s : Nat → Int} {h n p : Nat} (t : Per s h n) (q : Per s h p) (hp : 0 < p) (hmin : ∀ p', 1 ≤ p' → Per s h p' → p ≤ p') : n % p = 0 := by
  by_cases hz : n % p = 0
  · exact hz
  · exfalso
    have hr : Per s h (n % p) := fun i hi => by
      have e1 := q.mul (n / p) (i + n % p) (by omega)
      have e2 := Nat.div_add_mod n p
      rw [e1, t i hi]
      congr 1
      rw [Nat.mul_comm] at e2
      omega
    have := hmin (n % p) (by omega) hr
    have := Nat.mod_lt n hp
    omega
/-- a least period and a least beginning give the normal form -/
theorem nf_of {s : Nat → Int} {h n m p : Nat} (t : Per s h n) (hn : 0 < n) (hp : 1 ≤ p) (hmin : ∀ p', 1 ≤ p' → Per s h p' → p ≤ p') (q : Per s m p) (hm : ∀ m', Per s m' p → m ≤ m') : IsNF s m p :=
  ⟨hp, q, fun m' p' h1 q' => hmin p' h1 (t.back hn q'), hm⟩
/-- the row of a normal form is the same row -/
theorem sq_seg {s : Nat → Int} {m p : Nat} (hp : 0 < p) (q : Per s m p) : sq (seg s 0 m) (seg s m p) = s := by
  funext i
  unfold sq
  rw [seg_len, seg_len]
  by_cases hi : i < m
  · rw [if_pos hi, seg_get s 0 m i hi, Nat.zero_add]
  · rw [if_neg hi, seg_get s m p _ (Nat.mod_lt _ hp)]
    refine q.cong hp (Nat.le_add_right _ _) (by omega) ?_
    rw [Nat.add_mod, Nat.mod_mod, ← Nat.add_mod, show m + (i - m) = i by omega]
/-- the tail's period, seen in a window of one turn -/
theorem per_window {s : Nat → Int} {h n p a b : Nat} (t : Per s h n) (hn : 0 < n) (ha : a ≤ h) (hb : h + n ≤ b) (w : ∀ i, a ≤ i → i < b → s i = s (i + p)) : Per s a p := fun i hi => by
  by_cases hlt : i < b
  · exact w i hi hlt
  · have hlo : h + (i - h) % n < b := by
      have := Nat.mod_lt (i - h) hn
      omega
    have e1 : s i = s (h + (i - h) % n) := t.cong hn (by omega) (by omega) (by
      rw [Nat.add_mod h ((i - h) % n), Nat.mod_mod, ← Nat.add_mod, show h + (i - h) = i by omega])
    have e2 : s (i + p) = s (h + (i - h) % n + p) := t.cong hn (by omega) (by omega) (by
      have e : (h + (i - h) % n) % n = i % n := by
        rw [Nat.add_mod h ((i - h) % n), Nat.mod_mod, ← Nat.add_mod, show h + (i - h) = i by omega]
      rw [Nat.add_mod i p, Nat.add_mod (h + (i - h) % n) p, e])
    rw [e1, e2]
    exact w _ (by omega) hlo
end Lw

set_option Elab.async false
set_option linter.all false
set_option maxRecDepth 100000
/-! tuples of ints, rows -/
namespace Lw
open PySem L2
/-! ### tuples of ints -/
def TI (H : Hp) (a : Addr) (xs : List Int) : Prop := H a = some (.tup (xs.map V.int))
theorem TI.same {H H' : Hp} {a : Addr} {xs : List Int} (h : TI H a xs) (s : Same H H') : TI H' a xs := s _ _ h
section
variable {K : PySem.W.Frag}
theorem slA {H : Hp} {a : Addr} {xs : List V} {lo hi : Option Int} {Q : VK} (h : H a = some (.tup xs)) (q : ∀ r H', Same H H' → H' r = some (.tup (cutV xs lo hi)) → Q (.ref r) H') : rSlA K (.ref a) lo hi H Q := by
  refine ⟨a, xs, rfl, SqT.of h, fun z => q a H (fun _ _ e => e) ?_, fun _ p hp => q p _ (same_upd hp) upd_same⟩
  rw [h]
  unfold cutV
  rw [z.1, z.2]
  simp
theorem catA {H : Hp} {a b : Addr} {xs ys : List V} {Q : VK} (h : H a = some (.tup xs)) (h2 : H b = some (.tup ys)) (hl : xs.length + ys.length ≤ 1000) (q : ∀ r H', Same H H' → H' r = some (.tup (xs ++ ys)) → Q (.ref r) H') : rCatA K (.ref a) (.ref b) H Q := by
  refine ⟨a, b, xs, ys, rfl, rfl, SqT.of h, SqT.of h2, Nat.le_of_lt (small1000 hl), fun z => q b H (fun _ _ e => e) ?_, fun _ z => q a H (fun _ _ e => e) ?_, fun _ _ p hp => q p _ (same_upd hp) upd_same⟩
  · rw [h2, z]
    rfl
  · rw [h, z, List.append_nil]
theorem cut_lo' {xs : List V} {k : Nat} (h : k ≤ xs.length) : cutV xs none (some (k : Int)) = xs.take k := by
  unfold cutV
  rw [HT.sIx_none, HT.sIx_nat, Nat.min_eq_left h]
  simp
theorem cut_hi' {xs : List V} {k : Nat} (h : k ≤ xs.length) : cutV xs (some (k : Int)) none = xs.drop k := by
  unfold cutV
  rw [HT.sIx_none, HT.sIx_nat, Nat.min_eq_left h]
  rw [List.take_of_length_le]
  rw [List.length_drop]
  exact Nat.le_refl _
end
def rot (ys : List Int) (j : Nat) : List Int := ys.drop j ++ ys.take j
theorem dp_ints {K : PySem.W.Frag} {H : Hp} : ∀ xs : List Int, DpAll K H (xs.map V.int) (xs.map PyData.int)
  | [] => .nil
  | x :: xs => .cons (.int x) (dp_ints xs)
theorem eqv_ints : ∀ xs ys : List Int, PyData.eqvAll (xs.map PyData.int) (ys.map PyData.int) = decide (xs = ys)
  | [], [] => rfl
  | [], _ :: _ => rfl
  | _ :: _, [] => rfl
  | x :: xs, y :: ys => by
    show ((x == y) && PyData.eqvAll (xs.map PyData.int) (ys.map PyData.int)) = decide (x :: xs = y :: ys)
    rw [eqv_ints xs ys]
    by_cases h : x = y <;> by_cases h2 : xs = ys <;> simp [h, h2]
theorem lay_ints : ∀ xs : List Int, PyData.canLayAll0 (xs.map PyData.int) = true
  | [] => rfl
  | x :: xs => by
    show (true && PyData.canLayAll0 (xs.map PyData.int)) = true
    rw [lay_ints xs]
    rfl
theorem dep_ints : ∀ xs : List Int, PyData.depthAll (xs.map PyData.int) = 0
  | [] => rfl
  | x :: xs => by
    show max 0 (PyData.depthAll (xs.map PyData.int)) = 0
    rw [dep_ints xs]
    rfl
theorem sh_ints (xs : List Int) : SeqAt.shaped (.tuple (xs.map PyData.int)) = true := by
  show (PyData.canLayAll0 (xs.map PyData.int) && decide (PyData.depthAll (xs.map PyData.int) + 1 ≤ 64)) = true
  rw [lay_ints, dep_ints]
  rfl
/-! ### rows -/
def RowAt (H : Hp) (r : Addr) (xs ys : List Int) : Prop := ∃ h c, H r = some (.tup [.ref h, .ref c]) ∧ TI H h xs ∧ TI H c ys
theorem RowAt.same {H H' : Hp} {r : Addr} {xs ys : List Int} (h : RowAt H r xs ys) (s : Same H H') : RowAt H' r xs ys := by
  obtain ⟨a, c, h1, h2, h3⟩ := h
  exact ⟨a, c, s _ _ h1, h2.same s, h3.same s⟩
theorem int_at {xs : List Int} {j : Nat} (h : j < xs.length) : atI (xs.map V.int) (j : Int) = some (.int (xs.getD j 0)) := by
  refine atI_nat ?_
  rw [List.getElem?_map, List.getElem?_eq_getElem h]
  simp [List.getD, h]
theorem TI.keep {H H' : Hp} {b l a : Addr} {ns xs : List Int} (h : TI H a xs) (B : BagAt H b l ns) (k : KeepB b H H') : TI H' a xs := k _ _ (B.ne_tup h) h
theorem RowAt.keep {H H' : Hp} {b l r : Addr} {ns xs ys : List Int} (h : RowAt H r xs ys) (B : BagAt H b l ns) (k : KeepB b H H') : RowAt H' r xs ys := by
  obtain ⟨a, c, h1, h2, h3⟩ := h
  exact ⟨a, c, k _ _ (B.ne_tup h1) h1, h2.keep B k, h3.keep B k⟩
end Lw

set_option Elab.async false
set_option linter.all false
set_option maxRecDepth 100000
/-! steps as descriptors and as objects; their texts -/
namespace Lw
open PySem PySem.Spec PyProof.Rows L2
inductive Sd where
  | spl (s : Int) (ps : List Int)
  | mrg (a b : Int)
  | ren (ss es : List Int)
def SdAt (H : Hp) (d : Addr) : Sd → Prop
  | .spl s ps => ∃ t, H d = some (.tup [.str "split", .int s, .ref t]) ∧ TI H t ps
  | .mrg a b => H d = some (.tup [.str "merge", .int a, .int b])
  | .ren ss es => ∃ t u, H d = some (.tup [.str "rename", .ref t, .ref u]) ∧ TI H t ss ∧ TI H u es
theorem SdAt.same {H H' : Hp} {d : Addr} {x : Sd} (h : SdAt H d x) (s : Same H H') : SdAt H' d x := by
  cases x with
  | spl => obtain ⟨t, h1, h2⟩ := h; exact ⟨t, s _ _ h1, h2.same s⟩
  | mrg => exact s _ _ h
  | ren => obtain ⟨t, u, h1, h2, h3⟩ := h; exact ⟨t, u, s _ _ h1, h2.same s, h3.same s⟩
theorem SdAt.keep {H H' : Hp} {b l d : Addr} {ns : List Int} {x : Sd} (h : SdAt H d x) (B : BagAt H b l ns) (k : KeepB b H H') : SdAt H' d x := by
  cases x with
  | spl => obtain ⟨t, h1, h2⟩ := h; exact ⟨t, k _ _ (B.ne_tup h1) h1, h2.keep B k⟩
  | mrg => exact k _ _ (B.ne_tup h) h
  | ren => obtain ⟨t, u, h1, h2, h3⟩ := h; exact ⟨t, u, k _ _ (B.ne_tup h1) h1, h2.keep B k, h3.keep B k⟩
/-! ### sizes -/
def SmI (z : Int) : Prop := z.natAbs < 10 ^ 100
structure SmL (xs : List Int) : Prop where
  len : xs.length ≤ 40
  all : ∀ z ∈ xs, SmI z
def Sd.Sm : Sd → Prop
  | .spl s ps => SmI s ∧ SmL ps
  | .mrg a b => SmI a ∧ SmI b
  | .ren ss es => SmL ss ∧ SmL es
/-! ### texts -/
def itx (n : Int) : Str := toString n
def ntx (xs : List Int) : Str := Txt.join "," (xs.map itx)
def Sd.tx : Sd → Str
  | .spl s ps => Str.empty ++ "split " ++ itx s ++ " " ++ ntx ps
  | .mrg a b => Str.empty ++ "merge " ++ itx a ++ " " ++ itx b
  | .ren ss es => Str.empty ++ "rename " ++ ntx ss ++ " " ++ ntx es
theorem len_app (x y : Str) : (x ++ y).length = x.length + y.length := by
  show (x.cps ++ y.cps).size = x.cps.size + y.cps.size
  exact Array.size_append
theorem log_sm {n : Int} (h : SmI n) : n.natAbs.log2 < 1920 := by
  by_cases hz : n.natAbs = 0
  · rw [hz]
    decide
  · exact (Nat.log2_lt hz).mpr (Nat.lt_trans h (by decide +kernel))
theorem itx_len {n : Int} (h : SmI n) : (itx n).length ≤ 1921 := int_text_len_1921 (log_sm h)
theorem sum_itx : ∀ {xs : List Int}, (∀ z ∈ xs, SmI z) → ((xs.map itx).map (·.length)).sum ≤ 1921 * xs.length
  | [], _ => Nat.le_refl _
  | x :: xs, h => by
    have h1 := itx_len (h x List.mem_cons_self)
    have h2 := sum_itx (xs := xs) fun z hz => h z (List.mem_cons_of_mem _ hz)
    rw [List.map_cons, List.map_cons, List.sum_cons, List.length_cons]
    omega
theorem glued_len (sep : List Nat) : ∀ ys : List (List Nat), (TL.joinL sep ys).length ≤ (ys.map List.length).sum + ys.length * sep.length
  | [] => by simp [TL.joinL]
  | [y] => by simp [TL.joinL]
  | y :: z :: ys => by
    have := glued_len sep (z :: ys)
    simp only [TL.joinL, List.length_append, List.map_cons, List.sum_cons, List.length_cons] at this ⊢
    have e : (ys.length + 1 + 1) * sep.length = (ys.length + 1) * sep.length + sep.length := Nat.succ_mul _ _
    omega
theorem ntx_len {xs : List Int} (h : SmL xs) : (ntx xs).length ≤ 80000 := by
  have j := SX.join_S [44] ((xs.map itx).map fun y => y.cps.toList)
  have m : ((xs.map itx).map fun y => y.cps.toList).map SX.S = xs.map itx := by
    rw [List.map_map]
    conv => rhs; rw [← List.map_id (xs.map itx)]
    exact List.map_congr_left fun y _ => SX.S_tl y
  rw [m] at j
  have e2 : ntx xs = SX.S (TL.joinL [44] ((xs.map itx).map fun y => y.cps.toList)) := j
  rw [e2, SX.S_len]
  have g := glued_len [44] ((xs.map itx).map fun y => y.cps.toList)
  have l1 : (((xs.map itx).map fun y => y.cps.toList).map List.length).sum ≤ 1921 * xs.length := by
    have := sum_itx h.all
    rw [List.map_map]
    exact this
  have l2 := h.len
  rw [List.length_map, List.length_map] at g
  have : ([44] : List Nat).length = 1 := rfl
  rw [this] at g
  omega
end Lw

set_option Elab.async false
set_option linter.all false
set_option maxRecDepth 100000
namespace Lw
open PySem L2
abbrev sNumT : Stmt := top 5
abbrev sIniS : Stmt := inClass (top 7) 0
abbrev sIniM : Stmt := inClass (top 8) 0
abbrev sIniR : Stmt := inClass (top 9) 0
abbrev sTxtS : Stmt := inClass (top 7) 8
abbrev sTxtM : Stmt := inClass (top 8) 10
abbrev sTxtR : Stmt := inClass (top 9) 7
/-- a class whose objects have the fields a and b -/
structure Two (K : PySem.W.Frag) (mg : Str → Option Value) (nm : Str) (C : Addr) (a b : Str) : Prop where
  cl : Cls K C
  nA : NoAttr K C a
  nB : NoAttr K C b
  mgC : mg nm = some (.ref C)
  ne : a ≠ b
  nb : (b == a) = false
def fl2 (a b : Str) (x y : V) : List (Str × V) := [(a, x), (b, y)]
theorem put1 (a : Str) (x : V) : putF a x [] = ([(a, x)] : List (Str × V)) := rfl
theorem put2 {a b : Str} (x y : V) (h : a ≠ b) : putF b y ([(a, x)] : List (Str × V)) = fl2 a b x y := by
  show (if a = b then _ else (a, x) :: putF b y []) = fl2 a b x y
  rw [if_neg h]
  rfl
theorem lk1 {a b : Str} (x y : V) : (fl2 a b x y).lookup a = some x := by
  unfold fl2
  simp [List.lookup]
theorem lk2 {a b : Str} (x y : V) (h : (b == a) = false) : (fl2 a b x y).lookup b = some y := by
  unfold fl2
  simp [List.lookup, h]
/-- a step's object -/
def StAt (CS CM CR : Addr) (H : Hp) (o : Addr) : Sd → Prop
  | .spl s ps => ∃ dx t, H o = some (.ins CS dx (fl2 "state" "part" (.int s) (.ref t))) ∧ TI H t ps
  | .mrg a b => ∃ dx, H o = some (.ins CM dx (fl2 "low" "high" (.int a) (.int b)))
  | .ren ss es => ∃ dx t u, H o = some (.ins CR dx (fl2 "state_numbers" "edge_numbers" (.ref t) (.ref u))) ∧ TI H t ss ∧ TI H u es
theorem StAt.same {CS CM CR : Addr} {H H' : Hp} {o : Addr} {x : Sd} (h : StAt CS CM CR H o x) (s : Same H H') : StAt CS CM CR H' o x := by
  cases x with
  | spl => obtain ⟨dx, t, h1, h2⟩ := h; exact ⟨dx, t, s _ _ h1, h2.same s⟩
  | mrg => obtain ⟨dx, h1⟩ := h; exact ⟨dx, s _ _ h1⟩
  | ren => obtain ⟨dx, t, u, h1, h2, h3⟩ := h; exact ⟨dx, t, u, s _ _ h1, h2.same s, h3.same s⟩
theorem StAt.keep {CS CM CR : Addr} {H H' : Hp} {b l o : Addr} {ns : List Int} {x : Sd} (h : StAt CS CM CR H o x) (B : BagAt H b l ns) (k : KeepB b H H') : StAt CS CM CR H' o x := by
  cases x with
  | spl => obtain ⟨dx, t, h1, h2⟩ := h; exact ⟨dx, t, k _ _ (B.ne_ins h1) h1, h2.keep B k⟩
  | mrg => obtain ⟨dx, h1⟩ := h; exact ⟨dx, k _ _ (B.ne_ins h1) h1⟩
  | ren => obtain ⟨dx, t, u, h1, h2, h3⟩ := h; exact ⟨dx, t, u, k _ _ (B.ne_ins h1) h1, h2.keep B k, h3.keep B k⟩
def spNumT : Sp := fun vs H Q _ => ∃ (t : Addr) (xs : List Int), vs = [.ref t] ∧ TI H t xs ∧ SmL xs ∧ ∀ H', Same H H' → Q (.str (ntx xs)) H'
def spIniS (CS : Addr) : Sp := fun vs H Q _ => ∃ (o dx t : Addr) (s : Int) (ps : List Int), vs = [.ref o, .int s, .ref t] ∧ H o = some (.ins CS dx []) ∧ TI H t ps ∧ ∀ H', KeepB o H H' → StAt CS 0 0 H' o (.spl s ps) → Q .non H'
section
variable {P : Program} {w : World} {K : PySem.W.Frag} {mg : Str → Option Value} {base : Heap}
theorem scNumT : FnScope ["numbers", "number"] ["numbers"] (defScope sNumT) := ⟨rfl, rfl, rfl, by decide +kernel, rfl, by decide +kernel, by decide +kernel⟩
set_option maxHeartbeats 4000000 in
theorem ok_numt {f : Addr} {fd : FuncData} {k : Nat} (F : Fun K "numbers_text" "numbers_text" sNumT f fd) (T : Bi mg) : FnOk P w K mg base CX0 (k + 1) f fd ["numbers"] spNumT := by
  refine F.ok scNumT (fun vs H Q E h => ?_) (fun cdv A outer s H vs Q E hr h => ?_)
  · obtain ⟨t, xs, rfl, _⟩ := h
    rfl
  · obtain ⟨t, xs, rfl, ht, sm, q⟩ := h
    refine ⟨_, pss_one (ps_ret (pe_bm PySem.F.plainAttrs_str PySem.F.slot_str_join PySem.F.type_str_join mt_join pe_str (pa_cons
        (pe_lc (own := [("number", 1)]) (g := gName 1) (tt := tYes) (te := tCB (fun xs H Q => ∃ i, xs = [.int i] ∧ i.natAbs.log2 < 1920 ∧ Q (.str (toString i)) H) (tCons (tVar 1) tNil)) rfl scNumT.nd (pi_seqA (pv 0))
          (blkOk_by (N := ["numbers", "number"]) (sc := defScope sNumT) (by decide +kernel))
          (fun _ _ _ _ _ => by exact pg_name (i := 1) scNumT.nd rfl (Or.inl rfl))
          (fun _ _ _ _ _ => pts_nil)
          (fun _ _ _ _ _ => by exact pe_callTy call_str_int (by rfl) T.str (by decide +kernel) (pa_cons (pv 1) pa_nil))) pa_nil))), ?_⟩
    refine ⟨rfl, _, rfl, t, _, SqT, rfl, .inr rfl, SqT.of ht, fun J w D hD => ?_⟩
    refine lc_it w (fun i H' => Same H H' ∧ H' D = some (.lst (((xs.take i).map itx).map V.str))) ⟨same_upd hD, upd_same⟩ (fun i H' _ p => SqT.of (p.1 _ _ ht)) ?_ ?_
    · rintro i x H1 H2 hi ⟨sm1, eD⟩ ⟨rfl, gx⟩
      rw [List.getElem?_map] at gx
      obtain ⟨z, hz, rfl⟩ := Option.map_eq_some_iff.mp gx
      refine ⟨rfl, ?_⟩
      have hl := sm.len
      refine ⟨_, rfl, z, rfl, log_sm (sm.all z (List.mem_of_getElem? hz)), _, eD, ?_, ?_, ?_⟩
      · rw [List.length_map, List.length_map, List.length_take]
        exact small1000 (by omega)
      · intro b o e
        rw [upd_ne (ne_of_none e hD)]
        exact sm1 _ _ e
      · rw [upd_same, List.take_add_one, hz, List.map_append, List.map_append]
        rfl
    · rintro H1 ⟨sm1, eD⟩
      rw [List.length_map, List.take_length] at eD
      refine ⟨_, D, xs.map itx, rfl, rfl, .inl (SqL.of eD), ?_, q H1 sm1⟩
      have h1 := sum_itx sm.all
      have h2 := sm.len
      rw [List.length_map]
      have h3 : (Str.ofString ",").length = 1 := by decide +kernel
      rw [h3]
      omega
end
end Lw

set_option Elab.async false
set_option linter.all false
set_option maxRecDepth 100000
namespace Lw
open PySem L2
/-- the three classes -/
structure Cl3 (K : PySem.W.Frag) (mg : Str → Option Value) (CS CM CR : Addr) : Prop where
  s : Two K mg "Split" CS "state" "part"
  m : Two K mg "Merge" CM "low" "high"
  r : Two K mg "Renaming" CR "state_numbers" "edge_numbers"
def spIni1 (CS CM CR : Addr) : Sp := fun vs H Q _ => ∃ (o dx t : Addr) (s : Int) (ps : List Int), vs = [.ref o, .int s, .ref t] ∧ H o = some (.ins CS dx []) ∧ TI H t ps ∧ ∀ H', KeepB o H H' → StAt CS CM CR H' o (.spl s ps) → Q .non H'
def spIni2 (CS CM CR : Addr) : Sp := fun vs H Q _ => ∃ (o dx : Addr) (a b : Int), vs = [.ref o, .int a, .int b] ∧ H o = some (.ins CM dx []) ∧ ∀ H', KeepB o H H' → StAt CS CM CR H' o (.mrg a b) → Q .non H'
def spIni3 (CS CM CR : Addr) : Sp := fun vs H Q _ => ∃ (o dx t u : Addr) (ss es : List Int), vs = [.ref o, .ref t, .ref u] ∧ H o = some (.ins CR dx []) ∧ TI H t ss ∧ TI H u es ∧ ∀ H', KeepB o H H' → StAt CS CM CR H' o (.ren ss es) → Q .non H'
def spTxt (CS CM CR C : Addr) (is : Sd → Prop) : Sp := fun vs H Q _ => ∃ (o : Addr) (x : Sd), vs = [.ref o] ∧ is x ∧ StAt CS CM CR H o x ∧ x.Sm ∧ ∀ H', Same H H' → Q (.str x.tx) H'
def isS : Sd → Prop | .spl .. => True | _ => False
def isM : Sd → Prop | .mrg .. => True | _ => False
def isR : Sd → Prop | .ren .. => True | _ => False
section
variable {P : Program} {w : World} {K : PySem.W.Frag} {mg : Str → Option Value} {base : Heap} {f CS CM CR : Addr} {fd : FuncData} {k : Nat}
theorem scIniS : FnScope ["self", "state", "part"] ["self", "state", "part"] (defScope sIniS) := ⟨rfl, rfl, rfl, by decide +kernel, rfl, by decide +kernel, by decide +kernel⟩
theorem scIniM : FnScope ["self", "one", "other"] ["self", "one", "other"] (defScope sIniM) := ⟨rfl, rfl, rfl, by decide +kernel, rfl, by decide +kernel, by decide +kernel⟩
theorem scIniR : FnScope ["self", "states", "edges"] ["self", "states", "edges"] (defScope sIniR) := ⟨rfl, rfl, rfl, by decide +kernel, rfl, by decide +kernel, by decide +kernel⟩
theorem scTxtS : FnScope ["self"] ["self"] (defScope sTxtS) := ⟨rfl, rfl, rfl, by decide +kernel, rfl, by decide +kernel, by decide +kernel⟩
theorem scTxtM : FnScope ["self"] ["self"] (defScope sTxtM) := ⟨rfl, rfl, rfl, by decide +kernel, rfl, by decide +kernel, by decide +kernel⟩
theorem scTxtR : FnScope ["self"] ["self"] (defScope sTxtR) := ⟨rfl, rfl, rfl, by decide +kernel, rfl, by decide +kernel, by decide +kernel⟩
theorem ne_o {H : Hp} {o t dx C : Addr} {fs : List (Str × V)} {xs : List Int} (ho : H o = some (.ins C dx fs)) (ht : TI H t xs) : t ≠ o := fun z => by
  have h : H t = some (.tup (xs.map V.int)) := ht
  rw [z, ho] at h
  cases h
theorem okIni1 (F : Fun K "__init__" "Split.__init__" sIniS f fd) (T : Bi mg) (G : Cl3 K mg CS CM CR) : FnOk P w K mg base CX0 (k + 1) f fd ["self", "state", "part"] (spIni1 CS CM CR) := by
  refine F.ok scIniS (fun vs H Q E h => ?_) (fun cdv A outer s H vs Q E hr h => ?_)
  · obtain ⟨o, dx, t, s, ps, rfl, _⟩ := h
    rfl
  · obtain ⟨o, dx, t, s, ps, rfl, ho, ht, q⟩ := h
    refine ⟨_, pss_cons (ps_fld (pv 0) (pv 1) rfl) (pss_one (ps_fld (pv 0) (pe_callTy call_tuple_of (by rfl) T.tuple (by decide +kernel) (pa_cons (pv 2) pa_nil)) rfl)), ?_⟩
    have nt := ne_o ho ht
    refine ⟨_, rfl, _, rfl, o, CS, dx, [], rfl, ho, G.s.cl, G.s.nA, (by show 0 < 1000; decide), ?_⟩
    rw [put1]
    have ht1 : TI (upd H o (.ins CS dx [("state", .int s)])) t ps := (upd_ne nt).trans ht
    refine ⟨_, rfl, t, _, rfl, .inr ⟨SqT.of ht1, _, rfl, o, CS, dx, _, rfl, upd_same, G.s.cl, G.s.nB, (by show 1 < 1000; decide), ?_⟩⟩
    rw [put2 _ _ G.s.ne]
    exact q _ (KeepB.updb.trans KeepB.updb) ⟨dx, t, upd_same, (upd_ne nt).trans ht1⟩
theorem okIni2 (F : Fun K "__init__" "Merge.__init__" sIniM f fd) (G : Cl3 K mg CS CM CR) : FnOk P w K mg base CX0 (k + 1) f fd ["self", "one", "other"] (spIni2 CS CM CR) := by
  refine F.ok scIniM (fun vs H Q E h => ?_) (fun cdv A outer s H vs Q E hr h => ?_)
  · obtain ⟨o, dx, a, b, rfl, _⟩ := h
    rfl
  · obtain ⟨o, dx, a, b, rfl, ho, q⟩ := h
    refine ⟨_, pss_cons (ps_fld (pv 0) (pv 1) rfl) (pss_one (ps_fld (pv 0) (pv 2) rfl)), ?_⟩
    refine ⟨_, rfl, _, rfl, o, CM, dx, [], rfl, ho, G.m.cl, G.m.nA, (by show 0 < 1000; decide), ?_⟩
    rw [put1]
    refine ⟨_, rfl, _, rfl, o, CM, dx, _, rfl, upd_same, G.m.cl, G.m.nB, (by show 1 < 1000; decide), ?_⟩
    rw [put2 _ _ G.m.ne]
    exact q _ (KeepB.updb.trans KeepB.updb) ⟨dx, upd_same⟩
theorem okIni3 (F : Fun K "__init__" "Renaming.__init__" sIniR f fd) (T : Bi mg) (G : Cl3 K mg CS CM CR) : FnOk P w K mg base CX0 (k + 1) f fd ["self", "states", "edges"] (spIni3 CS CM CR) := by
  refine F.ok scIniR (fun vs H Q E h => ?_) (fun cdv A outer s H vs Q E hr h => ?_)
  · obtain ⟨o, dx, t, u, ss, es, rfl, _⟩ := h
    rfl
  · obtain ⟨o, dx, t, u, ss, es, rfl, ho, ht, hu, q⟩ := h
    refine ⟨_, pss_cons (ps_fld (pv 0) (pe_callTy call_tuple_of (by rfl) T.tuple (by decide +kernel) (pa_cons (pv 1) pa_nil)) rfl) (pss_one (ps_fld (pv 0) (pe_callTy call_tuple_of (by rfl) T.tuple (by decide +kernel) (pa_cons (pv 2) pa_nil)) rfl)), ?_⟩
    have nt := ne_o ho ht
    have nu := ne_o ho hu
    refine ⟨_, rfl, t, _, rfl, .inr ⟨SqT.of ht, _, rfl, o, CR, dx, [], rfl, ho, G.r.cl, G.r.nA, (by show 0 < 1000; decide), ?_⟩⟩
    rw [put1]
    have ht1 : TI (upd H o (.ins CR dx [("state_numbers", .ref t)])) t ss := (upd_ne nt).trans ht
    have hu1 : TI (upd H o (.ins CR dx [("state_numbers", .ref t)])) u es := (upd_ne nu).trans hu
    refine ⟨_, rfl, u, _, rfl, .inr ⟨SqT.of hu1, _, rfl, o, CR, dx, _, rfl, upd_same, G.r.cl, G.r.nB, (by show 1 < 1000; decide), ?_⟩⟩
    rw [put2 _ _ G.r.ne]
    exact q _ (KeepB.updb.trans KeepB.updb) ⟨dx, t, u, upd_same, (upd_ne nt).trans ht1, (upd_ne nu).trans hu1⟩
theorem big_ok {m : Nat} (h : m ≤ 200000) : m ≤ sizeLine := Nat.le_trans h (by rw [sizeLine_eq]; decide)
set_option maxHeartbeats 4000000 in
theorem okTxt1 (F : Fun K "text" "Split.text" sTxtS f fd) (G : Cl3 K mg CS CM CR) (cN : C8.Cal P w K mg base 1 "numbers_text" spNumT []) : FnOk P w K mg base CX0 (k + 2) f fd ["self"] (spTxt CS CM CR CS isS) := by
  refine F.ok scTxtS (fun vs H Q E h => ?_) (fun cdv A outer s H vs Q E hr h => ?_)
  · obtain ⟨o, x, rfl, _⟩ := h
    rfl
  · obtain ⟨o, x, rfl, hi, ho, sm, q⟩ := h
    cases x with
    | mrg => exact hi.elim
    | ren => exact hi.elim
    | spl st ps =>
      obtain ⟨dx, t, h1, h2⟩ := ho
      obtain ⟨m1, m2⟩ := sm
      refine ⟨_, pss_one (ps_ret (pe_joined (.cons pe_str (.cons (pe_fmt (pe_fld (pv 0) rfl)) (.cons pe_str (.cons (pe_fmt (C8.pe_c cN hr (by omega) (by rfl) (pa_cons (pe_fld (pv 0) rfl) pa_nil))) .nil)))))), ?_⟩
      have z1 : (Str.empty ++ Str.ofString "split ").length = 6 := by decide +kernel
      have z2 : (Str.ofString " ").length = 1 := by decide +kernel
      have l1 := itx_len m1
      have l2 := ntx_len m2
      refine ⟨_, rfl, big_ok (by rw [z1]; decide), _, rfl, o, CS, dx, _, _, rfl, h1, G.s.cl, G.s.nA, lk1 _ _, .inr ⟨st, rfl, log_sm m1, _, rfl, big_ok ?_, ?_⟩⟩
      · show ((Str.empty ++ Str.ofString "split ") ++ itx st).length ≤ 200000
        rw [len_app, z1]
        omega
      refine ⟨_, rfl, big_ok ?_, ?_⟩
      · show ((Str.empty ++ Str.ofString "split ") ++ itx st ++ Str.ofString " ").length ≤ 200000
        rw [len_app, len_app, z1, z2]
        omega
      refine ⟨_, rfl, o, CS, dx, _, _, rfl, h1, G.s.cl, G.s.nB, lk2 _ _ G.s.nb, t, ps, rfl, h2, m2, fun H1 s1 => .inl ⟨_, rfl, big_ok (by omega), _, rfl, big_ok ?_, q H1 s1⟩⟩
      show ((Str.empty ++ Str.ofString "split ") ++ itx st ++ Str.ofString " " ++ ntx ps).length ≤ 200000
      rw [len_app, len_app, len_app, z1, z2]
      omega
set_option maxHeartbeats 4000000 in
theorem okTxt2 (F : Fun K "text" "Merge.text" sTxtM f fd) (G : Cl3 K mg CS CM CR) : FnOk P w K mg base CX0 (k + 1) f fd ["self"] (spTxt CS CM CR CM isM) := by
  refine F.ok scTxtM (fun vs H Q E h => ?_) (fun cdv A outer s H vs Q E hr h => ?_)
  · obtain ⟨o, x, rfl, _⟩ := h
    rfl
  · obtain ⟨o, x, rfl, hi, ho, sm, q⟩ := h
    cases x with
    | spl => exact hi.elim
    | ren => exact hi.elim
    | mrg a b =>
      obtain ⟨dx, h1⟩ := ho
      obtain ⟨m1, m2⟩ := sm
      refine ⟨_, pss_one (ps_ret (pe_joined (.cons pe_str (.cons (pe_fmt (pe_fld (pv 0) rfl)) (.cons pe_str (.cons (pe_fmt (pe_fld (pv 0) rfl)) .nil)))))), ?_⟩
      have z1 : (Str.empty ++ Str.ofString "merge ").length = 6 := by decide +kernel
      have z2 : (Str.ofString " ").length = 1 := by decide +kernel
      have l1 := itx_len m1
      have l2 := itx_len m2
      refine ⟨_, rfl, big_ok (by rw [z1]; decide), _, rfl, o, CM, dx, _, _, rfl, h1, G.m.cl, G.m.nA, lk1 _ _, .inr ⟨a, rfl, log_sm m1, _, rfl, big_ok ?_, ?_⟩⟩
      · show ((Str.empty ++ Str.ofString "merge ") ++ itx a).length ≤ 200000
        rw [len_app, z1]
        omega
      refine ⟨_, rfl, big_ok ?_, ?_⟩
      · show ((Str.empty ++ Str.ofString "merge ") ++ itx a ++ Str.ofString " ").length ≤ 200000
        rw [len_app, len_app, z1, z2]
        omega
      refine ⟨_, rfl, o, CM, dx, _, _, rfl, h1, G.m.cl, G.m.nB, lk2 _ _ G.m.nb, .inr ⟨b, rfl, log_sm m2, _, rfl, big_ok ?_, q H fun _ _ z => z⟩⟩
      show ((Str.empty ++ Str.ofString "merge ") ++ itx a ++ Str.ofString " " ++ itx b).length ≤ 200000
      rw [len_app, len_app, len_app, z1, z2]
      omega
set_option maxHeartbeats 4000000 in
theorem okTxt3 (F : Fun K "text" "Renaming.text" sTxtR f fd) (G : Cl3 K mg CS CM CR) (cN : C8.Cal P w K mg base 1 "numbers_text" spNumT []) : FnOk P w K mg base CX0 (k + 2) f fd ["self"] (spTxt CS CM CR CR isR) := by
  refine F.ok scTxtR (fun vs H Q E h => ?_) (fun cdv A outer s H vs Q E hr h => ?_)
  · obtain ⟨o, x, rfl, _⟩ := h
    rfl
  · obtain ⟨o, x, rfl, hi, ho, sm, q⟩ := h
    cases x with
    | mrg => exact hi.elim
    | spl => exact hi.elim
    | ren ss es =>
      obtain ⟨dx, t, u, h1, h2, h3⟩ := ho
      obtain ⟨m1, m2⟩ := sm
      refine ⟨_, pss_one (ps_ret (pe_joined (.cons pe_str (.cons (pe_fmt (C8.pe_c cN hr (by omega) (by rfl) (pa_cons (pe_fld (pv 0) rfl) pa_nil))) (.cons pe_str (.cons (pe_fmt (C8.pe_c cN hr (by omega) (by rfl) (pa_cons (pe_fld (pv 0) rfl) pa_nil))) .nil)))))), ?_⟩
      have z1 : (Str.empty ++ Str.ofString "rename ").length = 7 := by decide +kernel
      have z2 : (Str.ofString " ").length = 1 := by decide +kernel
      have l1 := ntx_len m1
      have l2 := ntx_len m2
      refine ⟨_, rfl, big_ok (by rw [z1]; decide), _, rfl, o, CR, dx, _, _, rfl, h1, G.r.cl, G.r.nA, lk1 _ _, t, ss, rfl, h2, m1, fun H1 s1 => .inl ⟨_, rfl, big_ok (by omega), _, rfl, big_ok ?_, ?_⟩⟩
      · show ((Str.empty ++ Str.ofString "rename ") ++ ntx ss).length ≤ 200000
        rw [len_app, z1]
        omega
      refine ⟨_, rfl, big_ok ?_, ?_⟩
      · show ((Str.empty ++ Str.ofString "rename ") ++ ntx ss ++ Str.ofString " ").length ≤ 200000
        rw [len_app, len_app, z1, z2]
        omega
      refine ⟨_, rfl, o, CR, dx, _, _, rfl, s1 _ _ h1, G.r.cl, G.r.nB, lk2 _ _ G.r.nb, u, es, rfl, h3.same s1, m2, fun H2 s2 => .inl ⟨_, rfl, big_ok (by omega), _, rfl, big_ok ?_, q H2 (s1.trans s2)⟩⟩
      show ((Str.empty ++ Str.ofString "rename ") ++ ntx ss ++ Str.ofString " " ++ ntx es).length ≤ 200000
      rw [len_app, len_app, len_app, z1, z2]
      omega
end
end Lw

set_option Elab.async false
set_option linter.all false
set_option maxRecDepth 100000
/-! steps from their texts, where all numbers have one digit -/
namespace Lw
open PySem L2
abbrev sIsNum : Stmt := top 12
abbrev sParN : Stmt := top 13
abbrev sParNs : Stmt := top 14
abbrev sParS : Stmt := top 15
def Fz (z : Int) : Prop := 0 ≤ z ∧ z < 10
structure FnL (xs : List Int) : Prop where
  ne : xs ≠ []
  len : xs.length ≤ 40
  all : ∀ z ∈ xs, Fz z
def Sd.Fine : Sd → Prop
  | .spl s ps => Fz s ∧ FnL ps
  | .mrg a b => Fz a ∧ Fz b
  | .ren ss es => FnL ss ∧ FnL es
theorem Fz.cases {z : Int} (h : Fz z) : z = 0 ∨ z = 1 ∨ z = 2 ∨ z = 3 ∨ z = 4 ∨ z = 5 ∨ z = 6 ∨ z = 7 ∨ z = 8 ∨ z = 9 := by
  obtain ⟨h1, h2⟩ := h
  omega
/-- what is seen of the text of a digit -/
structure Dig (z : Int) : Prop where
  tx : itx z = SX.S [48 + z.toNat]
  dg : Txt.isdigit (itx z) = true
  ln : (itx z).length = 1
  it : PySem.intText? (itx z) = some z
  zr : (decide (V.str (itx z) = V.str "0") || !Txt.startswith (itx z) "0") = true
theorem dig {z : Int} (h : Fz z) : Dig z := by
  rcases h.cases with rfl | rfl | rfl | rfl | rfl | rfl | rfl | rfl | rfl | rfl <;> exact ⟨by decide +kernel, by decide +kernel, by decide +kernel, by decide +kernel, by decide +kernel⟩
theorem Fz.sm {z : Int} (h : Fz z) : SmI z := by
  obtain ⟨h1, h2⟩ := h
  exact Nat.lt_of_lt_of_le (show z.natAbs < 10 by omega) (by decide +kernel)
theorem FnL.sm {xs : List Int} (h : FnL xs) : SmL xs := ⟨h.len, fun z hz => (h.all z hz).sm⟩
theorem itx_map {xs : List Int} (h : ∀ z ∈ xs, Fz z) : xs.map itx = (xs.map fun z => [48 + z.toNat]).map SX.S := by
  rw [List.map_map]
  exact List.map_congr_left fun z hz => (dig (h z hz)).tx
theorem comma : (Str.ofString ",") = SX.S [44] := by decide +kernel
theorem space : (Str.ofString " ") = SX.S [32] := by decide +kernel
theorem ntx_S {xs : List Int} (h : ∀ z ∈ xs, Fz z) : ntx xs = SX.S (TL.joinL [44] (xs.map fun z => [48 + z.toNat])) := by
  unfold ntx
  rw [itx_map h, comma, SX.join_S]
theorem split_ntx {xs : List Int} (h : FnL xs) : Txt.split (ntx xs) "," = xs.map itx := by
  rw [ntx_S h.all, comma, SX.split_S (by simp) (by decide), SX.spl_join (by simpa using h.ne), itx_map h.all]
  intro p hp m
  obtain ⟨z, hz, rfl⟩ := List.mem_map.mp hp
  have := List.mem_singleton.mp m
  omega
theorem no_space {xs : List Int} : 32 ∉ TL.joinL [44] (xs.map fun z => [48 + z.toNat]) := by
  induction xs with
  | nil => simp [TL.joinL]
  | cons x xs ih =>
    cases xs with
    | nil =>
      intro m
      have := List.mem_singleton.mp (show 32 ∈ [48 + x.toNat] from m)
      omega
    | cons y ys =>
      intro m
      rcases List.mem_append.mp (show 32 ∈ [48 + x.toNat] ++ ([44] ++ TL.joinL [44] ((y :: ys).map fun z => [48 + z.toNat])) from m) with m | m
      · have := List.mem_singleton.mp m
        omega
      · rcases List.mem_append.mp m with m | m
        · cases List.mem_singleton.mp m
        · exact ih m
/-- three words -/
theorem split3 {a b c : List Nat} (h1 : 32 ∉ a) (h2 : 32 ∉ b) (h3 : 32 ∉ c) : Txt.split (SX.S a ++ SX.S [32] ++ SX.S b ++ SX.S [32] ++ SX.S c) " " = [SX.S a, SX.S b, SX.S c] := by
  have e : SX.S a ++ SX.S [32] ++ SX.S b ++ SX.S [32] ++ SX.S c = SX.S (TL.joinL [32] [a, b, c]) := by
    rw [SX.S_cat, SX.S_cat, SX.S_cat, SX.S_cat]
    simp [TL.joinL]
  rw [e, space, SX.split_S (by simp) (by decide), SX.spl_join (by simp)]
  · rfl
  · intro p hp
    simp only [List.mem_cons, List.not_mem_nil, or_false] at hp
    rcases hp with rfl | rfl | rfl
    · exact h1
    · exact h2
    · exact h3
def Sd.w1 : Sd → Str
  | .spl .. => "split"
  | .mrg .. => "merge"
  | .ren .. => "rename"
def Sd.w2 : Sd → Str
  | .spl s _ => itx s
  | .mrg a _ => itx a
  | .ren ss _ => ntx ss
def Sd.w3 : Sd → Str
  | .spl _ ps => ntx ps
  | .mrg _ b => itx b
  | .ren _ es => ntx es
theorem dig_no {z : Int} : 32 ∉ [48 + z.toNat] := fun m => by
  have := List.mem_singleton.mp m
  omega
theorem split_tx {x : Sd} (h : x.Fine) : Txt.split x.tx " " = [x.w1, x.w2, x.w3] := by
  cases x with
  | spl s ps =>
    obtain ⟨h1, h2⟩ := h
    have e1 : Str.empty ++ (Str.ofString "split ") = SX.S [115, 112, 108, 105, 116] ++ SX.S [32] := by decide +kernel
    have e2 : (Str.ofString "split") = SX.S [115, 112, 108, 105, 116] := by decide +kernel
    show Txt.split (Str.empty ++ (Str.ofString "split ") ++ itx s ++ (Str.ofString " ") ++ ntx ps) " " = [Str.ofString "split", itx s, ntx ps]
    rw [e1, e2, (dig h1).tx, ntx_S h2.all, show (Str.ofString " ") = SX.S [32] from space]
    exact split3 (by decide) dig_no no_space
  | mrg a b =>
    obtain ⟨h1, h2⟩ := h
    have e1 : Str.empty ++ (Str.ofString "merge ") = SX.S [109, 101, 114, 103, 101] ++ SX.S [32] := by decide +kernel
    have e2 : (Str.ofString "merge") = SX.S [109, 101, 114, 103, 101] := by decide +kernel
    show Txt.split (Str.empty ++ (Str.ofString "merge ") ++ itx a ++ (Str.ofString " ") ++ itx b) " " = [Str.ofString "merge", itx a, itx b]
    rw [e1, e2, (dig h1).tx, (dig h2).tx, show (Str.ofString " ") = SX.S [32] from space]
    exact split3 (by decide) dig_no dig_no
  | ren ss es =>
    obtain ⟨h1, h2⟩ := h
    have e1 : Str.empty ++ (Str.ofString "rename ") = SX.S [114, 101, 110, 97, 109, 101] ++ SX.S [32] := by decide +kernel
    have e2 : (Str.ofString "rename") = SX.S [114, 101, 110, 97, 109, 101] := by decide +kernel
    show Txt.split (Str.empty ++ (Str.ofString "rename ") ++ ntx ss ++ (Str.ofString " ") ++ ntx es) " " = [Str.ofString "rename", ntx ss, ntx es]
    rw [e1, e2, ntx_S h1.all, ntx_S h2.all, show (Str.ofString " ") = SX.S [32] from space]
    exact split3 (by decide) no_space no_space
end Lw

set_option Elab.async false
set_option linter.all false
set_option maxRecDepth 100000
namespace Lw
open PySem L2
def spIsNum : Sp := fun vs H Q _ => ∃ z : Int, vs = [.str (itx z), .int 4] ∧ Fz z ∧ Q (.bl true) H
def spParN : Sp := fun vs H Q _ => ∃ z : Int, vs = [.str (itx z)] ∧ Fz z ∧ Q (.int z) H
def spParNs : Sp := fun vs H Q _ => ∃ xs : List Int, vs = [.str (ntx xs), .str ","] ∧ FnL xs ∧ ∀ t H', Same H H' → TI H' t xs → Q (.ref t) H'
def spParS (CS CM CR : Addr) : Sp := fun vs H Q _ => ∃ x : Sd, vs = [.str x.tx] ∧ x.Fine ∧ ∀ o H', Same H H' → H o = none → StAt CS CM CR H' o x → Q (.ref o) H'
theorem same_mk {H H' : Hp} {o dx : Addr} {u v : HO} (ho : H o = none) (hd : H dx = none) (ne : dx ≠ o) (k : KeepB o (upd (upd H dx u) o v) H') : Same H H' := fun c x e => by
  have c1 := ne_of_none e ho
  have c2 := ne_of_none e hd
  exact k c x c1 (by rw [upd_ne c1, upd_ne c2]; exact e)
section
variable {P : Program} {w : World} {K : PySem.W.Frag} {mg : Str → Option Value} {base : Heap} {f CS CM CR : Addr} {fd : FuncData} {k : Nat}
theorem scIsNum : FnScope ["text", "digits"] ["text", "digits"] (defScope sIsNum) := ⟨rfl, rfl, rfl, by decide +kernel, rfl, by decide +kernel, by decide +kernel⟩
theorem scParN : FnScope ["text"] ["text"] (defScope sParN) := ⟨rfl, rfl, rfl, by decide +kernel, rfl, by decide +kernel, by decide +kernel⟩
theorem scParNs : FnScope ["text", "sign", "part"] ["text", "sign"] (defScope sParNs) := ⟨rfl, rfl, rfl, by decide +kernel, rfl, by decide +kernel, by decide +kernel⟩
theorem scParS : FnScope ["text", "words", "kind", "first", "second"] ["text"] (defScope sParS) := ⟨rfl, rfl, rfl, by decide +kernel, rfl, by decide +kernel, by decide +kernel⟩
theorem ok_isnum (F : Fun K "is_number" "is_number" sIsNum f fd) (T : Bi mg) : FnOk P w K mg base CX0 (k + 1) f fd ["text", "digits"] spIsNum := by
  refine F.ok scIsNum (fun vs H Q E h => ?_) (fun cdv A outer s H vs Q E hr h => ?_)
  · obtain ⟨z, rfl, _⟩ := h
    rfl
  · obtain ⟨z, rfl, hz, q⟩ := h
    have d := dig hz
    refine ⟨_, pss_one (ps_ret (pe_and (pe_bm0 PySem.F.plainAttrs_str PySem.F.slot_str_isdigit PySem.F.type_str_isdigit mt_isdigit (pv 0))
      (pe_and (pe_cmpR op_le (pe_callB call_len_str (by rfl) T.len PySem.boot_len (pa_cons (pv 0) pa_nil)) (pv 1) (nomark _))
      (pe_one (pe_or (pe_cmpR op_eq (pv 0) pe_str (nomark _)) (pe_one (pe_not (pe_bm PySem.F.plainAttrs_str PySem.F.slot_str_startswith PySem.F.type_str_startswith mt_startswith (pv 0) (pa_cons pe_str pa_nil))))))))), ?_⟩
    refine ⟨_, rfl, rfl, _, rfl, rfl, True.intro, _, rfl, if_t d.dg ?_⟩
    refine ⟨_, rfl, _, rfl, Nat.le_trans (Nat.le_of_eq d.ln) (by rw [sizeLine_eq]; decide), _, rfl, _, _, rfl, rfl, _, rfl, if_t (decide_eq_true (by rw [d.ln]; decide)) ?_⟩
    refine ⟨_, rfl, rfl, _, rfl, ?_⟩
    have zr := d.zr
    by_cases h0 : decide (V.str (itx z) = V.str "0") = true
    · exact if_t h0 q
    · have h0 : decide (V.str (itx z) = V.str "0") = false := Bool.eq_false_iff.mpr h0
      refine if_f h0 ?_
      rw [h0, Bool.false_or] at zr
      refine ⟨_, rfl, rfl, _, _, rfl, rfl, _, rfl, ?_⟩
      show Q (.bl (!Txt.startswith (itx z) "0")) H
      rw [zr]
      exact q
theorem ok_parn (F : Fun K "parse_number" "parse_number" sParN f fd) (T : Bi mg) {tk : Tok} (mx : mg "MAX_DIGITS" = some (.int 4 tk)) (cN : C8.Cal P w K mg base 1 "is_number" spIsNum []) : FnOk P w K mg base CX0 (k + 2) f fd ["text"] spParN := by
  refine F.ok scParN (fun vs H Q E h => ?_) (fun cdv A outer s H vs Q E hr h => ?_)
  · obtain ⟨z, rfl, _⟩ := h
    rfl
  · obtain ⟨z, rfl, hz, q⟩ := h
    have d := dig hz
    refine ⟨_, pss_cons (ps_if (pt_not (pt_val (C8.pe_c cN hr (by omega) (by rfl) (pa_cons (pv 0) (pa_cons (pe_glob (v := .int 4) (by rfl) mx ⟨_, rfl⟩) pa_nil))))) (pss_one ps_never) pss_nil)
      (pss_one (ps_ret (pe_callTy call_int_str (by rfl) T.int (by decide +kernel) (pa_cons (pv 0) pa_nil)))), ?_⟩
    refine ⟨_, rfl, z, rfl, hz, true, rfl, if_f rfl ?_⟩
    exact ⟨_, rfl, _, z, rfl, d.it, by rw [d.ln]; decide, q⟩
set_option maxHeartbeats 4000000 in
theorem ok_parns (F : Fun K "parse_numbers" "parse_numbers" sParNs f fd) (T : Bi mg) (cN : C8.Cal P w K mg base 2 "parse_number" spParN []) : FnOk P w K mg base CX0 (k + 3) f fd ["text", "sign"] spParNs := by
  refine F.ok scParNs (fun vs H Q E h => ?_) (fun cdv A outer s H vs Q E hr h => ?_)
  · obtain ⟨xs, rfl, _⟩ := h
    rfl
  · obtain ⟨xs, rfl, fx, q⟩ := h
    refine ⟨_, pss_one (ps_ret (pe_callTy call_tuple_of (by rfl) T.tuple (by decide +kernel) (pa_cons
        (pe_lc (own := [("part", 2)]) (g := gName 2) (tt := tYes) (te := tCall spParN [] E0 (tCons (tVar 2) tNil)) rfl scParNs.nd (pi_seqA (pe_bm PySem.F.plainAttrs_str PySem.F.slot_str_split PySem.F.type_str_split mt_split (pv 0) (pa_cons (pv 1) pa_nil)))
          (blkOk_by (N := ["text", "sign", "part"]) (sc := defScope sParNs) (by decide +kernel))
          (fun _ _ _ _ _ => by exact pg_name (i := 2) scParNs.nd rfl (Or.inl rfl))
          (fun _ _ _ _ _ => pts_nil)
          (fun _ _ _ _ _ => by exact C8.pe_c cN hr (by omega) (by rfl) (pa_cons (pv 2) pa_nil))) pa_nil))), ?_⟩
    have hl := ntx_len fx.sm
    refine ⟨_, rfl, rfl, _, rfl, _, _, rfl, rfl, (by decide +kernel), Nat.le_trans (Nat.add_le_add_right hl 2) (by rw [sizeLine_eq]; decide), fun p hp => ?_⟩
    rw [split_ntx fx]
    have s1 := same_upd (o := .lst ((xs.map itx).map V.str)) hp
    have e1 : upd H p (.lst ((xs.map itx).map V.str)) p = some (.lst ((xs.map itx).map V.str)) := upd_same
    generalize upd H p (.lst ((xs.map itx).map V.str)) = H1 at *
    refine ⟨p, _, SqL, rfl, .inl rfl, SqL.of e1, fun J w D hD => ?_⟩
    refine lc_it w (fun i H' => Same H1 H' ∧ H' D = some (.lst ((xs.take i).map V.int))) ⟨same_upd hD, upd_same⟩ (fun i H' _ p => SqL.of (p.1 _ _ e1)) ?_ ?_
    · rintro i x H2 H3 hi ⟨sm, eD⟩ ⟨rfl, gx⟩
      rw [List.getElem?_map, List.getElem?_map] at gx
      obtain ⟨y, hy, rfl⟩ := Option.map_eq_some_iff.mp gx
      obtain ⟨z, hz, rfl⟩ := Option.map_eq_some_iff.mp hy
      have hl2 := fx.len
      refine ⟨rfl, ?_⟩
      refine ⟨_, rfl, z, rfl, fx.all z (List.mem_of_getElem? hz), _, eD, ?_, ?_, ?_⟩
      · rw [List.length_map, List.length_take]
        exact small1000 (by omega)
      · intro b o e
        rw [upd_ne (ne_of_none e hD)]
        exact sm _ _ e
      · rw [upd_same, List.take_add_one, hz, List.map_append]
        rfl
    · rintro H2 ⟨sm, eD⟩
      rw [List.length_map, List.length_map, List.take_length] at eD
      refine ⟨D, _, rfl, .inl ⟨SqL.of eD, fun t ht => ?_⟩⟩
      exact q t _ ((s1.trans sm).trans (same_upd ht)) upd_same
end
section
variable {P : Program} {w : World} {K : PySem.W.Frag} {mg : Str → Option Value} {base : Heap} {f CS CM CR : Addr} {fd : FuncData} {k : Nat}
set_option maxHeartbeats 8000000 in
theorem ok_pars (F : Fun K "parse_step" "parse_step" sParS f fd) (T : Bi mg) (cN : C8.Cal P w K mg base 2 "parse_number" spParN []) (cNs : C8.Cal P w K mg base 3 "parse_numbers" spParNs []) (m1 : C8.Mak P w K mg base 1 "Split" CS (spIni1 CS CM CR) []) (m2 : C8.Mak P w K mg base 1 "Merge" CM (spIni2 CS CM CR) []) (m3 : C8.Mak P w K mg base 1 "Renaming" CR (spIni3 CS CM CR) []) :
    FnOk P w K mg base CX0 (k + 4) f fd ["text"] (spParS CS CM CR) := by
  refine F.ok scParS (fun vs H Q E h => ?_) (fun cdv A outer s H vs Q E hr h => ?_)
  · obtain ⟨x, rfl, _⟩ := h
    rfl
  · obtain ⟨x, rfl, fx, q⟩ := h
    refine ⟨_, pss_cons (ps_set (i := 1) scParS.nd rfl (Or.inl rfl) (pe_bm PySem.F.plainAttrs_str PySem.F.slot_str_split PySem.F.type_str_split mt_split (pv 0) (pa_cons pe_str pa_nil)))
      (pss_cons (ps_if (pt_cmpR op_ne (pe_callB call_len_seq (by rfl) T.len PySem.boot_len (pa_cons (pv 1) pa_nil)) pe_int (nomark _)) (pss_one ps_never) pss_nil)
      (pss_cons (ps_asg (pv 1) (pg_lst rfl (pgs_cons (pg_name (i := 2) scParS.nd rfl (Or.inl rfl)) (pgs_cons (pg_name (i := 3) scParS.nd rfl (Or.inl rfl)) (pgs_cons (pg_name (i := 4) scParS.nd rfl (Or.inl rfl)) pgs_nil)))))
      (pss_cons (ps_if (pt_cmpR op_eq (pv 2) pe_str (nomark _)) (pss_one (ps_ret (C8.pe_mk m1 hr (by omega) (by rfl) (pa_cons (C8.pe_c cN hr (by omega) (by rfl) (pa_cons (pv 3) pa_nil)) (pa_cons (C8.pe_c cNs hr (by omega) (by rfl) (pa_cons (pv 4) (pa_cons pe_str pa_nil))) pa_nil))))) pss_nil)
      (pss_cons (ps_if (pt_cmpR op_eq (pv 2) pe_str (nomark _)) (pss_one (ps_ret (C8.pe_mk m2 hr (by omega) (by rfl) (pa_cons (C8.pe_c cN hr (by omega) (by rfl) (pa_cons (pv 3) pa_nil)) (pa_cons (C8.pe_c cN hr (by omega) (by rfl) (pa_cons (pv 4) pa_nil)) pa_nil))))) pss_nil)
      (pss_cons (ps_if (pt_cmpR op_eq (pv 2) pe_str (nomark _)) (pss_one (ps_ret (C8.pe_mk m3 hr (by omega) (by rfl) (pa_cons (C8.pe_c cNs hr (by omega) (by rfl) (pa_cons (pv 3) (pa_cons pe_str pa_nil))) (pa_cons (C8.pe_c cNs hr (by omega) (by rfl) (pa_cons (pv 4) (pa_cons pe_str pa_nil))) pa_nil))))) pss_nil)
      (pss_one ps_never)))))), ?_⟩
    have hl : x.tx.length ≤ 200000 := by
      cases x with
      | spl st ps =>
        have a := itx_len fx.1.sm
        have b := ntx_len fx.2.sm
        have z1 : (Str.empty ++ Str.ofString "split ").length = 6 := by decide +kernel
        have z2 : (Str.ofString " ").length = 1 := by decide +kernel
        show ((Str.empty ++ Str.ofString "split ") ++ itx st ++ Str.ofString " " ++ ntx ps).length ≤ 200000
        rw [len_app, len_app, len_app, z1, z2]
        omega
      | mrg c d =>
        have a := itx_len fx.1.sm
        have b := itx_len fx.2.sm
        have z1 : (Str.empty ++ Str.ofString "merge ").length = 6 := by decide +kernel
        have z2 : (Str.ofString " ").length = 1 := by decide +kernel
        show ((Str.empty ++ Str.ofString "merge ") ++ itx c ++ Str.ofString " " ++ itx d).length ≤ 200000
        rw [len_app, len_app, len_app, z1, z2]
        omega
      | ren ss es =>
        have a := ntx_len fx.1.sm
        have b := ntx_len fx.2.sm
        have z1 : (Str.empty ++ Str.ofString "rename ").length = 7 := by decide +kernel
        have z2 : (Str.ofString " ").length = 1 := by decide +kernel
        show ((Str.empty ++ Str.ofString "rename ") ++ ntx ss ++ Str.ofString " " ++ ntx es).length ≤ 200000
        rw [len_app, len_app, len_app, z1, z2]
        omega
    refine ⟨_, rfl, rfl, _, _, rfl, rfl, (by decide +kernel), Nat.le_trans (Nat.add_le_add_right hl 2) (by rw [sizeLine_eq]; decide), fun p hp => ?_⟩
    rw [split_tx fx]
    have s1 := same_upd (o := .lst ([x.w1, x.w2, x.w3].map V.str)) hp
    have e1 : upd H p (.lst ([x.w1, x.w2, x.w3].map V.str)) p = some (.lst [.str x.w1, .str x.w2, .str x.w3]) := upd_same
    generalize upd H p (.lst ([x.w1, x.w2, x.w3].map V.str)) = H1 at *
    refine ⟨_, rfl, p, _, rfl, .inl (SqL.of e1), rfl, _, rfl, if_f (show (!decide (V.int ((3 : Nat) : Int) = V.int 3)) = false by decide) ?_⟩
    refine ⟨_, rfl, p, _, rfl, SqL.of e1, rfl, _, _, rfl, _, _, rfl, _, _, rfl, rfl, ?_⟩
    cases x with
    | spl st ps =>
      refine ⟨_, rfl, rfl, _, rfl, if_t (show decide (V.str (Str.ofString "split") = V.str (Str.ofString "split")) = true by decide +kernel) ?_⟩
      refine ⟨_, rfl, st, rfl, fx.1, _, rfl, ps, rfl, fx.2, fun t H2 s2 ht => fun o dx ho hd ne => ?_⟩
      refine ⟨o, dx, t, st, ps, rfl, upd_same, (by show upd _ o _ t = _; rw [upd_ne (ne_of_none ht ho), upd_ne (ne_of_none ht hd)]; exact ht), fun H3 k3 st3 => ⟨rfl, q o H3 ((s1.trans s2).trans (same_mk ho hd ne k3)) ((s1.trans s2).free ho) st3⟩⟩
    | mrg a b =>
      refine ⟨_, rfl, rfl, _, rfl, if_f (show decide (V.str (Str.ofString "merge") = V.str (Str.ofString "split")) = false by decide +kernel) ⟨_, rfl, rfl, _, rfl, if_t (show decide (V.str (Str.ofString "merge") = V.str (Str.ofString "merge")) = true by decide +kernel) ?_⟩⟩
      refine ⟨_, rfl, a, rfl, fx.1, _, rfl, b, rfl, fx.2, fun o dx ho hd ne => ?_⟩
      exact ⟨o, dx, a, b, rfl, upd_same, fun H3 k3 st3 => ⟨rfl, q o H3 (s1.trans (same_mk ho hd ne k3)) (s1.free ho) st3⟩⟩
    | ren ss es =>
      refine ⟨_, rfl, rfl, _, rfl, if_f (show decide (V.str (Str.ofString "rename") = V.str (Str.ofString "split")) = false by decide +kernel) ⟨_, rfl, rfl, _, rfl, if_f (show decide (V.str (Str.ofString "rename") = V.str (Str.ofString "merge")) = false by decide +kernel) ⟨_, rfl, rfl, _, rfl, if_t (show decide (V.str (Str.ofString "rename") = V.str (Str.ofString "rename")) = true by decide +kernel) ?_⟩⟩⟩
      refine ⟨_, rfl, ss, rfl, fx.1, fun t H2 s2 ht => ⟨_, rfl, es, rfl, fx.2, fun u H3 s3 hu => fun o dx ho hd ne => ?_⟩⟩
      have ht := ht.same s3
      refine ⟨o, dx, t, u, ss, es, rfl, upd_same, (by show upd _ o _ t = _; rw [upd_ne (ne_of_none ht ho), upd_ne (ne_of_none ht hd)]; exact ht), (by show upd _ o _ u = _; rw [upd_ne (ne_of_none hu ho), upd_ne (ne_of_none hu hd)]; exact hu), fun H4 k4 st4 => ⟨rfl, q o H4 (((s1.trans s2).trans s3).trans (same_mk ho hd ne k4)) (((s1.trans s2).trans s3).free ho) st4⟩⟩
end
end Lw

set_option Elab.async false
set_option linter.all false
set_option maxRecDepth 100000
/-! shuffled numbers; tables of counts and pairs that can be merged, as far as their shape goes -/
namespace Lw
open PySem L2
abbrev sShuf : Stmt := top 24
abbrev sCnts : Stmt := top 22
abbrev sMgrs : Stmt := top 23
/-- ints from 0 below m -/
def Rng (m : Int) (xs : List Int) : Prop := ∀ z ∈ xs, 0 ≤ z ∧ z < m
def spShuf : Sp := fun vs H Q _ => ∃ (b l : Addr) (ns : List Int) (m : Nat), vs = [.ref b, .int (m : Int)] ∧ BagAt H b l ns ∧ m ≤ 40 ∧
  ∀ (t : Addr) (H' : Hp) (xs : List Int), KeepB b H H' → BagAt H' b l ns → TI H' t xs → xs.length = m → Rng (m : Int) xs → Q (.ref t) H'
section
variable {P : Program} {w : World} {K : PySem.W.Frag} {mg : Str → Option Value} {base : Heap} {f : Addr} {fd : FuncData} {k : Nat}
theorem scShuf : FnScope ["_law_bag_here", "_law_many", "_law_found", "_law_k"] ["_law_bag_here", "_law_many"] (defScope sShuf) := ⟨rfl, rfl, rfl, by decide +kernel, rfl, by decide +kernel, by decide +kernel⟩
set_option maxHeartbeats 4000000 in
theorem ok_shuf (F : Fun K "_law_shuffled" "_law_shuffled" sShuf f fd) (T : Bi mg) (cP : C8.Cal P w K mg base 1 "_law_pull" spPull []) : FnOk P w K mg base CX0 (k + 2) f fd ["_law_bag_here", "_law_many"] spShuf := by
  refine F.ok scShuf (fun vs H Q E h => ?_) (fun cdv A outer s H vs Q E hr h => ?_)
  · obtain ⟨b, l, ns, m, rfl, _⟩ := h
    rfl
  · obtain ⟨b, l, ns, m, rfl, B, hm, q⟩ := h
    refine ⟨_, pss_cons (ps_set (i := 2) scShuf.nd rfl (Or.inl rfl) (pe_lst pa_nil))
      (pss_cons (ps_for PassesOwn.never rfl (pi_range1 (by rfl) T.range (pa_cons (pv 1) pa_nil)) (pg_name (i := 3) scShuf.nd rfl (Or.inl rfl))
        (pss_one (ps_expr (pe_bm PySem.F.plainAttrs_list PySem.F.slot_list_insert PySem.F.type_list_insert mt_insert (pv 2) (pa_cons (C8.pe_c cP hr (by omega) (by rfl) (pa_cons (pv 0) (pa_cons (pe_op op_add (pe_callB call_len_seq (by rfl) T.len PySem.boot_len (pa_cons (pv 2) pa_nil)) pe_int) pa_nil))) (pa_cons (pv 3) pa_nil))))))
      (pss_one (ps_ret (pe_callTy call_tuple_of (by rfl) T.tuple (by decide +kernel) (pa_cons (pv 2) pa_nil))))), ?_⟩
    refine ⟨(by show 0 ≤ sizeLine; exact Nat.zero_le _), fun L hL => ?_⟩
    have nb := B.ne_new hL
    have nl := (ne_of_none B.sc hL).symm
    refine ⟨_, rfl, (m : Int), rfl, by omega, by omega, ?_⟩
    refine for_it (walk_range (lo := 0) (n := ((m : Int)).toNat)) (fun i σ H' => ∃ (v3 : Option V) (xs : List Int), σ = [some (.ref b), some (.int (m : Int)), some (.ref L), v3] ∧ KeepB b H H' ∧ BagAt H' b l ns ∧ H' L = some (.lst (xs.map V.int)) ∧ xs.length = i ∧ Rng (i : Int) xs)
      ⟨none, [], rfl, .of_same (same_upd hL), B.new hL, upd_same, rfl, fun z hz => by cases hz⟩ (fun _ _ _ _ _ => True.intro) ?_ ?_
    · rintro i x σ H1 H2 hi ⟨v3, xs, rfl, k1, B1, e1, hl, rg⟩ ⟨rfl, rfl⟩
      have hi : i < m := by omega
      refine ⟨_, rfl, .inl ⟨rfl, _, SqL.of e1⟩, _, rfl, _, rfl, L, _, rfl, .inl (SqL.of e1), _, _, rfl, rfl, b, l, ns, _, rfl, B1, by rw [List.length_map]; omega, ?_, fun v o v0 v1 BO => ?_⟩
      · rw [List.length_map, hl]
        have : (i : Int) + 1 ≤ 41 := by omega
        exact Int.lt_of_le_of_lt this (by decide)
      have e2 : upd H2 b o L = some (.lst (xs.map V.int)) := (upd_ne nb).trans e1
      have B2 := B1.upd BO
      have k2 := k1.trans (KeepB.updb (o := o))
      generalize upd H2 b o = H3 at *
      rw [List.length_map] at v1
      refine ⟨_, rfl, L, _, v, .int (0 + (i : Int)), rfl, rfl, e2, by rw [List.length_map]; exact small1000 (by omega), v0, Int.lt_of_lt_of_le v1 (by have : (2 : Int) ^ 63 = 9223372036854775808 := rfl; omega), ?_⟩
      refine ⟨_, xs.take v.toNat ++ [(i : Int)] ++ xs.drop v.toNat, rfl, k2.at hL, B2.off nb nl, ?_, ?_, ?_⟩
      · rw [upd_same, List.map_append, List.map_append, List.map_take, List.map_drop, Int.zero_add]
        rfl
      · rw [List.length_append, List.length_append, List.length_take, List.length_drop, List.length_singleton]
        omega
      · intro z hz
        rcases List.mem_append.mp hz with h | h
        · rcases List.mem_append.mp h with h | h
          · have := rg z (List.mem_of_mem_take h)
            omega
          · rw [List.mem_singleton.mp h]
            omega
        · have := rg z (List.mem_of_mem_drop h)
          omega
    · rintro σ H1 ⟨v3, xs, rfl, k1, B1, e1, hl, rg⟩
      rw [Int.toNat_natCast] at hl rg
      refine ⟨_, rfl, L, _, rfl, .inl ⟨SqL.of e1, fun t ht => ?_⟩⟩
      exact q t _ xs (k1.new ht) (B1.new ht) upd_same hl rg
end
end Lw

set_option Elab.async false
set_option linter.all false
set_option maxRecDepth 100000
namespace Lw
open PySem L2
/-- a square table of ints -/
structure TabW (H : Hp) (D : Addr) (rs : List Addr) (n : Nat) : Prop where
  ls : H D = some (.lst (rs.map V.ref))
  len : rs.length = n
  row : ∀ r ∈ rs, ∃ cs : List Int, cs.length = n ∧ H r = some (.lst (cs.map V.int))
theorem TabW.same {H H' : Hp} {D : Addr} {rs : List Addr} {n : Nat} (h : TabW H D rs n) (s : Same H H') : TabW H' D rs n := ⟨s _ _ h.ls, h.len, fun r hr => by
  obtain ⟨cs, h1, h2⟩ := h.row r hr
  exact ⟨cs, h1, s _ _ h2⟩⟩
def spCnts : Sp := fun vs H Q _ => ∃ (p q : Addr) (n : Int) (ts : Es), vs = [.ref p] ∧ PlanAt H p q n ts ∧ n ≤ 40 ∧ ∀ (D : Addr) (H' : Hp) (rs : List Addr), Same H H' → TabW H' D rs n.toNat → Q (.ref D) H'
theorem ixN_of {n : Nat} {i : Int} (h0 : 0 ≤ i) (h : i.toNat < n) : ixN n i = some i.toNat := by
  unfold ixN
  rw [if_pos h0, if_pos (by omega)]
theorem vsOf_at {ts : Es} {i : Nat} {v : V} (h : (vsOf ts)[i]? = some v) : ∃ e, ts[i]? = some e ∧ v = .ref e.1 := by
  unfold vsOf at h
  rw [List.getElem?_map] at h
  obtain ⟨e, he, z⟩ := Option.map_eq_some_iff.mp h
  exact ⟨e, he, z.symm⟩
section
variable {P : Program} {w : World} {K : PySem.W.Frag} {mg : Str → Option Value} {base : Heap} {f : Addr} {fd : FuncData} {k : Nat}
abbrev NCn : List Str := ["_law_plan_here", "_law_table", "_law_state", "_law_source", "_law_target", "_law_row"]
theorem scCnts : FnScope NCn ["_law_plan_here"] (defScope sCnts) := ⟨rfl, rfl, rfl, by decide +kernel, rfl, by decide +kernel, by decide +kernel⟩
set_option maxHeartbeats 4000000 in
theorem ok_cnts (F : Fun K "_law_counts" "_law_counts" sCnts f fd) (T : Bi mg) : FnOk P w K mg base CX0 (k + 1) f fd ["_law_plan_here"] spCnts := by
  refine F.ok scCnts (fun vs H Q E h => ?_) (fun cdv A outer s H vs Q E hr h => ?_)
  · obtain ⟨p, q, n, ts, rfl, _⟩ := h
    rfl
  · obtain ⟨p, q0, n, ts, rfl, PA, hn, q⟩ := h
    have n1 := PA.n1
    refine ⟨_, pss_cons (ps_setLc (i := 1) (own := [("_law_state", 2)]) (g := gName 2) (tt := tYes) (te := tOp rRep (tLst (tCons (tC (.int 0)) tNil)) (tOp (rIxT K) (tVar 0) (tC (.int 0)))) rfl scCnts.nd rfl rfl (sw_true rfl rfl rfl (by decide +kernel))
          (pi_range1 (by rfl) T.range (pa_cons (pe_ix ix_tup (pv 0) pe_int (fun _ _ => rfl)) pa_nil))
          (blkOk_by (N := NCn) (sc := defScope sCnts) (by decide +kernel))
          (fun _ _ _ _ _ => by exact pg_name (i := 2) scCnts.nd rfl (Or.inl rfl))
          (fun _ _ _ _ _ => pts_nil)
          (fun _ _ _ _ _ => by exact pe_op op_rep (pe_lst (pa_cons pe_int pa_nil)) (pe_ix ix_tup (pv 0) pe_int (fun _ _ => rfl))))
      (pss_cons (ps_for PassesOwn.never rfl (pi_seqA (pe_ix ix_tup (pv 0) pe_int (fun _ _ => rfl))) (pg_tup rfl (pgs_cons (pg_name (i := 3) scCnts.nd rfl (.inl rfl)) (pgs_cons (pg_name (i := 4) scCnts.nd rfl (.inl rfl)) pgs_nil)))
        (pss_cons (ps_set (i := 5) scCnts.nd rfl (.inl rfl) (pe_ix ix_list (pv 1) (pv 3) (fun _ _ => rfl)))
        (pss_one (ps_asg (pe_op op_add (pe_ix ix_list (pv 5) (pv 4) (fun _ _ => rfl)) pe_int) (pg_sub (pv 5) (pv 4) set_list)))))
      (pss_one (ps_ret (pv 1)))), ?_⟩
    refine ⟨_, rfl, p, _, _, _, rfl, rfl, SqT.of PA.tp, rfl, n, rfl, by omega, by omega, fun D hD => ?_⟩
    refine lc_it (walk_range (lo := 0) (n := n.toNat)) (fun i H' => ∃ rs : List Addr, rs.length = i ∧ Same H H' ∧ H' D = some (.lst (rs.map V.ref)) ∧ ∀ r ∈ rs, H r = none ∧ r ≠ D ∧ H' r = some (.lst ((List.replicate n.toNat (0 : Int)).map V.int)))
      ⟨[], rfl, same_upd hD, upd_same, fun r hr => by cases hr⟩ (fun _ _ _ _ => True.intro) ?_ ?_
    · rintro i x H0 H1 hi ⟨rs, hrs, sm, eD, hh⟩ ⟨rfl, rfl⟩
      refine ⟨rfl, ?_⟩
      refine ⟨(by show 1 ≤ sizeLine; decide), fun l hl => ?_⟩
      have s1 := same_upd (o := .lst [.int 0]) hl
      refine ⟨_, rfl, p, _, _, _, rfl, rfl, SqT.of (s1 _ _ (sm _ _ PA.tp)), rfl, l, n, _, rfl, rfl, upd_same, by omega, by omega, ?_, fun p2 hp => ?_⟩
      · show 1 * n.toNat ≤ sizeLine
        exact Nat.le_of_lt (small1000 (by omega))
      have s2 := s1.trans (same_upd (o := .lst (List.replicate n.toNat [V.int 0]).flatten) hp)
      have e0 : (List.replicate n.toNat [V.int 0]).flatten = (List.replicate n.toNat (0 : Int)).map V.int := by
        rw [List.flatten_replicate_singleton, List.map_replicate]
      have eD2 := s2 _ _ eD
      have pD : p2 ≠ D := fun z => by
        rw [z, s1 _ _ eD] at hp
        cases hp
      refine ⟨_, eD2, ?_, rs ++ [p2], by simp [hrs], ?_, ?_, ?_⟩
      · rw [List.length_map]
        exact small1000 (by omega)
      · intro c o ec
        rw [upd_ne (ne_of_none ec hD)]
        exact s2 _ _ (sm _ _ ec)
      · rw [upd_same, List.map_append]
        rfl
      · intro r hr
        rcases List.mem_append.mp hr with hr | hr
        · obtain ⟨a1, a2, a3⟩ := hh r hr
          exact ⟨a1, a2, by rw [upd_ne a2]; exact s2 _ _ a3⟩
        · rw [List.mem_singleton.mp hr]
          refine ⟨(sm.trans s1).free hp, pD, ?_⟩
          rw [upd_ne pD, upd_same, e0]
    · rintro H1 ⟨rs, hrs, sm, eD, hh⟩
      refine ⟨_, rfl, p, _, _, _, rfl, rfl, SqT.of (sm _ _ PA.tp), rfl, q0, vsOf ts, SqL, rfl, .inl rfl, SqL.of (sm _ _ PA.ls), fun J w => ?_⟩
      refine for_it w (fun i σ H' => ∃ v3 v4 v5 : Option V, σ = [some (.ref p), some (.ref D), none, v3, v4, v5] ∧ Same H H' ∧ TabW H' D rs n.toNat) ⟨_, _, _, rfl, sm, eD, hrs, fun r hr => ⟨_, List.length_replicate, (hh r hr).2.2⟩⟩ (fun i σ H' _ p => by obtain ⟨_, _, _, _, s, _⟩ := p; exact SqL.of (s _ _ PA.ls)) ?_ ?_
      · rintro i x σ H2 H3 hi ⟨v3, v4, v5, rfl, sm2, tw⟩ ⟨rfl, gx⟩
        obtain ⟨e, he, rfl⟩ := vsOf_at gx
        have mem : e ∈ ts := List.mem_of_getElem? he
        obtain ⟨r1, r2, r3, r4⟩ := PA.va.rg e mem
        have ha : e.2.1.toNat < rs.length := by rw [tw.len]; omega
        obtain ⟨ra, hrr⟩ : ∃ ra, rs[e.2.1.toNat]? = some ra := ⟨_, List.getElem?_eq_getElem ha⟩
        have hmem : ra ∈ rs := List.mem_of_getElem? hrr
        obtain ⟨cs, hcs, hra⟩ := tw.row ra hmem
        have ea : e.2.1 = ((e.2.1.toNat : Nat) : Int) := (Int.toNat_of_nonneg r1).symm
        have eb : e.2.2 = ((e.2.2.toNat : Nat) : Int) := (Int.toNat_of_nonneg r3).symm
        have hb : e.2.2.toNat < cs.length := by omega
        refine ⟨e.1, _, rfl, SqT.of (sm2 _ _ (PA.ed e mem)), rfl, _, _, rfl, _, _, rfl, rfl, ?_⟩
        refine ⟨_, rfl, _, rfl, D, _, _, .ref ra, rfl, rfl, SqL.of tw.ls, ?_, ?_⟩
        · rw [ea]
          refine atI_nat ?_
          rw [List.getElem?_map, hrr]
          rfl
        refine ⟨_, rfl, _, rfl, ra, _, _, .int (cs.getD e.2.2.toNat 0), rfl, rfl, SqL.of hra, ?_, _, _, rfl, rfl, _, rfl, _, rfl, ra, _, _, e.2.2.toNat, rfl, rfl, hra, ?_, ?_⟩
        · rw [eb]
          exact int_at hb
        · rw [List.length_map]
          exact ixN_of r3 hb
        have nD : ra ≠ D := (hh _ hmem).2.1
        refine ⟨_, _, _, rfl, ?_, ?_, tw.len, fun r hr => ?_⟩
        · intro c o ec
          rw [upd_ne (fun z => ?_)]
          · exact sm2 _ _ ec
          · rw [z, (hh _ hmem).1] at ec
            cases ec
        · rw [upd_ne nD.symm]
          exact tw.ls
        · by_cases hs : r = ra
          · refine ⟨cs.set e.2.2.toNat (cs.getD e.2.2.toNat 0 + 1), by rw [List.length_set]; exact hcs, ?_⟩
            rw [hs, upd_same, List.map_set]
          · obtain ⟨cs2, h1, h2⟩ := tw.row r hr
            exact ⟨cs2, h1, by rw [upd_ne hs]; exact h2⟩
      · rintro σ H2 ⟨v3, v4, v5, rfl, sm2, tw⟩
        exact ⟨_, rfl, q D H2 rs sm2 tw⟩
end
end Lw

set_option Elab.async false
set_option linter.all false
set_option maxRecDepth 100000
namespace Lw
open PySem L2
/-- pairs of states below n, the first one smaller -/
structure MgAt (H : Hp) (D : Addr) (us : Es) (n : Int) : Prop where
  ls : H D = some (.lst (vsOf us))
  ed : Ed H us
  rg : ∀ e ∈ us, 0 ≤ e.2.1 ∧ e.2.1 < n ∧ 0 ≤ e.2.2 ∧ e.2.2 < n
theorem MgAt.same {H H' : Hp} {D : Addr} {us : Es} {n : Int} (h : MgAt H D us n) (s : Same H H') : MgAt H' D us n := ⟨s _ _ h.ls, h.ed.same s, h.rg⟩
def spMgrs : Sp := fun vs H Q _ => ∃ (p q : Addr) (n : Int) (ts : Es), vs = [.ref p] ∧ PlanAt H p q n ts ∧ n ≤ 20 ∧ ∀ (D : Addr) (H' : Hp) (us : Es), Same H H' → MgAt H' D us n → us.length ≤ 400 → Q (.ref D) H'
theorem shl_ints (xs : List Int) : SeqAt.shaped (.list (xs.map PyData.int)) = true := by
  show (PyData.canLayAll0 (xs.map PyData.int) && decide (PyData.depthAll (xs.map PyData.int) + 1 ≤ 64)) = true
  rw [lay_ints, dep_ints]
  rfl
theorem PlanAt.same' {H H' : Hp} {p q : Addr} {n : Int} {ts : Es} (h : PlanAt H p q n ts) (s : Same H H') : PlanAt H' p q n ts := { h with tp := s _ _ h.tp, ls := s _ _ h.ls, ed := h.ed.same s }
abbrev NMg : List Str := ["_law_plan_here", "_law_found", "_law_table", "_law_one", "_law_other", "_law_row"]
abbrev scMC : Scope := { kind := .function, names := [(".0", .local), ("_law_other", .cell), ("_law_one", .cell), ("_law_table", .cell)], isGenerator := false, isCoroutine := false }
section
variable {P : Program} {w : World} {K : PySem.W.Frag} {mg : Str → Option Value} {base : Heap} {f : Addr} {fd : FuncData} {k : Nat}
theorem scMgrs : FnScope NMg ["_law_plan_here"] (defScope sMgrs) := ⟨rfl, rfl, rfl, by decide +kernel, rfl, by decide +kernel, by decide +kernel⟩
/-- the row's item at a place, for each row of the table -/
abbrev tCol (K : PySem.W.Frag) (j : Nat) : TE := tLc (iSeqA K (tVar 2)) (gName 5) tYes (tOp (rIxL K) (tVar 5) (tVar j)) [5]
theorem col3 {H : Hp} {T : Addr} {rs : List Addr} {n a : Nat} {v0 v1 v4 v5 : Option V} {Q : VK} (tw : TabW H T rs n) (ha : a < n) (hn : n ≤ 40) (q : ∀ (D : Addr) (H' : Hp) (cs : List Int), Same H H' → H' D = some (.lst (cs.map V.int)) → Q (.ref D) H') :
    tCol K 3 [v0, v1, some (.ref T), some (.int (a : Int)), v4, v5] H Q := by
  refine ⟨_, rfl, T, _, SqL, rfl, .inl rfl, SqL.of tw.ls, fun J w D hD => ?_⟩
  refine lc_it w (fun i H' => Same H H' ∧ ∃ cs : List Int, cs.length = i ∧ H' D = some (.lst (cs.map V.int))) ⟨same_upd hD, [], rfl, upd_same⟩ (fun i H' _ p => SqL.of (p.1 _ _ tw.ls)) ?_ ?_
  · rintro i x H1 H2 hi ⟨sm, cs, hcs, eD⟩ ⟨rfl, gx⟩
    rw [List.getElem?_map] at gx
    obtain ⟨r, hr, rfl⟩ := Option.map_eq_some_iff.mp gx
    obtain ⟨zs, hzs, hrr⟩ := tw.row r (List.mem_of_getElem? hr)
    rw [List.length_map, tw.len] at hi
    refine ⟨rfl, ?_⟩
    refine ⟨_, rfl, _, rfl, r, _, _, .int (zs.getD a 0), rfl, rfl, SqL.of (sm _ _ hrr), int_at (by omega), _, eD, ?_, ?_, cs ++ [zs.getD a 0], by simp [hcs], ?_⟩
    · rw [List.length_map]
      exact small1000 (by omega)
    · intro b o e
      rw [upd_ne (ne_of_none e hD)]
      exact sm _ _ e
    · rw [upd_same, List.map_append]
      rfl
  · rintro H1 ⟨sm, cs, hcs, eD⟩
    exact q D H1 cs sm eD
theorem col4 {H : Hp} {T : Addr} {rs : List Addr} {n a : Nat} {v0 v1 v3 v5 : Option V} {Q : VK} (tw : TabW H T rs n) (ha : a < n) (hn : n ≤ 40) (q : ∀ (D : Addr) (H' : Hp) (cs : List Int), Same H H' → H' D = some (.lst (cs.map V.int)) → Q (.ref D) H') :
    tCol K 4 [v0, v1, some (.ref T), v3, some (.int (a : Int)), v5] H Q := by
  refine ⟨_, rfl, T, _, SqL, rfl, .inl rfl, SqL.of tw.ls, fun J w D hD => ?_⟩
  refine lc_it w (fun i H' => Same H H' ∧ ∃ cs : List Int, cs.length = i ∧ H' D = some (.lst (cs.map V.int))) ⟨same_upd hD, [], rfl, upd_same⟩ (fun i H' _ p => SqL.of (p.1 _ _ tw.ls)) ?_ ?_
  · rintro i x H1 H2 hi ⟨sm, cs, hcs, eD⟩ ⟨rfl, gx⟩
    rw [List.getElem?_map] at gx
    obtain ⟨r, hr, rfl⟩ := Option.map_eq_some_iff.mp gx
    obtain ⟨zs, hzs, hrr⟩ := tw.row r (List.mem_of_getElem? hr)
    rw [List.length_map, tw.len] at hi
    refine ⟨rfl, ?_⟩
    refine ⟨_, rfl, _, rfl, r, _, _, .int (zs.getD a 0), rfl, rfl, SqL.of (sm _ _ hrr), int_at (by omega), _, eD, ?_, ?_, cs ++ [zs.getD a 0], by simp [hcs], ?_⟩
    · rw [List.length_map]
      exact small1000 (by omega)
    · intro b o e
      rw [upd_ne (ne_of_none e hD)]
      exact sm _ _ e
    · rw [upd_same, List.map_append]
      rfl
  · rintro H1 ⟨sm, cs, hcs, eD⟩
    exact q D H1 cs sm eD
theorem cols {H : Hp} {T : Addr} {rs : List Addr} {n a c : Nat} {v0 v1 v5 : Option V} {Q : Bool → Hp → Prop} (tw : TabW H T rs n) (ha : a < n) (hc : c < n) (hn : n ≤ 40) (q : ∀ (b : Bool) (H' : Hp), Same H H' → Q b H') :
    tTest (tOp (rEqD K) (tCol K 3) (tCol K 4)) [v0, v1, some (.ref T), some (.int (a : Int)), some (.int (c : Int)), v5] H Q :=
  col3 (Q := fun x H1 => tCol K 4 [v0, v1, some (.ref T), some (.int (a : Int)), some (.int (c : Int)), v5] H1 fun y H2 => rEqD K x y H2 fun z H3 => ∃ k, z = .bl k ∧ Q k H3) tw ha hn fun D1 H8 cs1 s8 d1 => col4 (tw.same s8) hc hn fun D2 H9 cs2 s9 d2 =>
    ⟨_, _, .lst (SqL.of (s9 _ _ d1)) (dp_ints _), .lst (SqL.of d2) (dp_ints _), shl_ints _, shl_ints _, _, rfl, q _ _ (s8.trans s9)⟩
set_option maxHeartbeats 8000000 in
theorem ok_mgrs (F : Fun K "_law_mergers" "_law_mergers" sMgrs f fd) (T : Bi mg) (cC : C8.Cal P w K mg base 1 "_law_counts" spCnts []) : FnOk P w K mg base CX0 (k + 2) f fd ["_law_plan_here"] spMgrs := by
  refine F.ok scMgrs (fun vs H Q E h => ?_) (fun cdv A outer s H vs Q E hr h => ?_)
  · obtain ⟨p, q, n, ts, rfl, _⟩ := h
    rfl
  · obtain ⟨p, q0, n, ts, rfl, PA, hn, q⟩ := h
    have n1 := PA.n1
    refine ⟨_, pss_cons (ps_asg (pe_tup (pa_cons (pe_lst pa_nil) (pa_cons (C8.pe_c cC hr (by omega) (by rfl) (pa_cons (pv 0) pa_nil)) pa_nil))) (pg_tup rfl (pgs_cons (pg_name (i := 1) scMgrs.nd rfl (.inl rfl)) (pgs_cons (pg_name (i := 2) scMgrs.nd rfl (.inr rfl)) pgs_nil))))
      (pss_cons (ps_for PassesOwn.never rfl (pi_range1 (by rfl) T.range (pa_cons (pe_ix ix_tup (pv 0) pe_int (fun _ _ => rfl)) pa_nil)) (pg_name (i := 3) scMgrs.nd rfl (.inr rfl))
        (pss_one (ps_set (i := 1) scMgrs.nd rfl (.inl rfl) (pe_op op_cat (pv 1)
          (pe_lc (own := [("_law_other", 4)]) (g := gName 4) (tt := tTest (tOp (rEqD K) (tCol K 3) (tCol K 4))) (te := tTup (tCons (tVar 3) (tCons (tVar 4) tNil))) rfl scMgrs.nd
            (pi_range2 (by rfl) T.range (pa_cons (pe_op op_add (pv 3) pe_int) (pa_cons (pe_ix ix_tup (pv 0) pe_int (fun _ _ => rfl)) pa_nil)))
            (blkOk_by (N := NMg) (sc := defScope sMgrs) (by decide +kernel))
            (fun _ _ _ _ _ => by exact pg_name (i := 4) scMgrs.nd rfl (Or.inr rfl))
            (fun _ _ _ _ _ => by exact pts_one (pt_cmpR (op_eqD hr.units)
              (pe_lc (own := [("_law_row", 5)]) (g := gName 5) (tt := tYes) (te := tOp (rIxL K) (tVar 5) (tVar 3)) rfl scMgrs.nd (pi_seqA (pv 2)) (blkOk_by (N := NMg) (sc := scMC) (by decide +kernel)) (fun _ _ _ _ _ => by exact pg_name (i := 5) scMgrs.nd rfl (Or.inl rfl)) (fun _ _ _ _ _ => pts_nil) (fun _ _ _ _ _ => by exact pe_ix ix_list (pv 5) (pv 3) (fun _ _ => rfl)))
              (pe_lc (own := [("_law_row", 5)]) (g := gName 5) (tt := tYes) (te := tOp (rIxL K) (tVar 5) (tVar 4)) rfl scMgrs.nd (pi_seqA (pv 2)) (blkOk_by (N := NMg) (sc := scMC) (by decide +kernel)) (fun _ _ _ _ _ => by exact pg_name (i := 5) scMgrs.nd rfl (Or.inl rfl)) (fun _ _ _ _ _ => pts_nil) (fun _ _ _ _ _ => by exact pe_ix ix_list (pv 5) (pv 4) (fun _ _ => rfl)))
              (nomark _)))
            (fun _ _ _ _ _ => by exact pe_tup (pa_cons (pv 3) (pa_cons (pv 4) pa_nil))))))))
      (pss_one (ps_ret (pv 1)))), ?_⟩
    refine ⟨(by show 0 ≤ sizeLine; exact Nat.zero_le _), fun L hL => ?_⟩
    have s1 := same_upd (o := .lst []) hL
    have e1 : upd H L (.lst []) L = some (.lst []) := upd_same
    generalize upd H L (.lst []) = H1 at *
    refine ⟨_, rfl, p, q0, n, ts, rfl, PA.same' s1, by omega, fun T H2 rs s2 tw => ?_⟩
    refine ⟨(by show 2 ≤ sizeLine; decide), fun tp htp => ?_⟩
    have s3 := same_upd (o := .tup [.ref L, .ref T]) htp
    refine ⟨tp, _, rfl, SqT.of upd_same, rfl, _, _, rfl, _, _, rfl, rfl, ?_⟩
    have tw := tw.same s3
    have sm := (s1.trans s2).trans s3
    have eL := s3 _ _ (s2 _ _ e1)
    generalize upd H2 tp (.tup [.ref L, .ref T]) = H3 at *
    refine ⟨_, rfl, p, _, _, _, rfl, rfl, SqT.of (sm _ _ PA.tp), rfl, n, rfl, by omega, by omega, ?_⟩
    refine for_it (walk_range (lo := 0) (n := n.toNat)) (fun i σ H' => ∃ (v3 : Option V) (D : Addr) (us : Es), σ = [some (.ref p), some (.ref D), some (.ref T), v3, none, none] ∧ Same H H' ∧ TabW H' T rs n.toNat ∧ MgAt H' D us n ∧ us.length ≤ 20 * i)
      ⟨none, L, [], rfl, sm, tw, ⟨eL, Ed.nil, fun e he => by cases he⟩, Nat.zero_le _⟩ (fun _ _ _ _ _ => True.intro) ?_ ?_
    · rintro i x σ H4 H5 hi ⟨v3, D, us, rfl, sm4, tw4, mg4, ln⟩ ⟨rfl, hx⟩
      have hx : x = .int (i : Int) := by
        rw [hx]
        show V.int (0 + (i : Int)) = _
        rw [Int.zero_add]
      subst hx
      refine ⟨_, rfl, _, rfl, _, _, rfl, rfl, _, rfl, p, _, _, _, rfl, rfl, SqT.of (sm4 _ _ PA.tp), rfl, _, _, rfl, ⟨by omega, by omega, by omega, by omega⟩, fun M hM => ?_⟩
      refine lc_it (walk_range (lo := (i : Int) + 1) (n := (n - ((i : Int) + 1)).toNat)) (fun j H' => ∃ vs : Es, vs.length ≤ j ∧ Same H5 H' ∧ H' M = some (.lst (vsOf vs)) ∧ Ed H' vs ∧ ∀ e ∈ vs, 0 ≤ e.2.1 ∧ e.2.1 < n ∧ 0 ≤ e.2.2 ∧ e.2.2 < n)
        ⟨[], Nat.le_refl _, same_upd hM, upd_same, Ed.nil, fun e he => by cases he⟩ (fun _ _ _ _ => True.intro) ?_ ?_
      · rintro j x H6 H7 hj ⟨vs, hvs, sm6, eM, ed6, rg6⟩ ⟨rfl, hx⟩
        have hx : x = .int ((i + 1 + j : Nat) : Int) := by
          rw [hx]
          show V.int ((i : Int) + 1 + (j : Int)) = _
          congr 1
        subst hx
        refine ⟨rfl, ?_⟩
        have tw6 := tw4.same sm6
        show tTest (tOp (rEqD K) (tCol K 3) (tCol K 4)) [some (.ref p), some (.ref D), some (.ref T), some (.int (i : Int)), some (.int ((i + 1 + j : Nat) : Int)), none] H7 _
        refine cols tw6 (by omega) (by omega) (by omega) fun bb H9 s69 => ?_
        split
        · refine ⟨_, rfl, _, rfl, (by show 2 ≤ sizeLine; decide), fun t ht => ?_⟩
          have s10 := s69.trans (same_upd (o := .tup [.int (i : Int), .int ((i + 1 + j : Nat) : Int)]) ht)
          have e10 : upd H9 t (.tup [.int (i : Int), .int ((i + 1 + j : Nat) : Int)]) t = some (.tup [.int (i : Int), .int ((i + 1 + j : Nat) : Int)]) := upd_same
          generalize upd H9 t (.tup [.int (i : Int), .int ((i + 1 + j : Nat) : Int)]) = H10 at *
          have nM : t ≠ M := fun z => by
            rw [z, s69 _ _ eM] at ht
            cases ht
          refine ⟨_, s10 _ _ eM, ?_, vs ++ [(t, (i : Int), ((i + 1 + j : Nat) : Int))], by simp; omega, ?_, ?_, ?_, ?_⟩
          · unfold vsOf
            rw [List.length_map]
            exact small1000 (by omega)
          · intro b o e
            rw [upd_ne (ne_of_none e hM)]
            exact s10 _ _ (sm6 _ _ e)
          · rw [upd_same]
            unfold vsOf
            rw [List.map_append]
            rfl
          · intro e he
            rcases List.mem_append.mp he with he | he
            · have := s10 _ _ (ed6 e he)
              rw [upd_ne fun z => ?_]
              · exact this
              · rw [z, s10 _ _ eM] at this
                cases this
            · rw [List.mem_singleton.mp he, upd_ne nM]
              exact e10
          · intro e he
            rcases List.mem_append.mp he with he | he
            · exact rg6 e he
            · rw [List.mem_singleton.mp he]
              refine ⟨?_, ?_, ?_, ?_⟩ <;> dsimp only <;> omega
        · exact ⟨vs, by omega, sm6.trans s69, s69 _ _ eM, ed6.same s69, rg6⟩
      · rintro H6 ⟨vs, hvs, sm6, eM, ed6, rg6⟩
        refine ⟨D, M, _, _, rfl, rfl, (mg4.same sm6).ls, eM, ?_, fun R hR => ?_⟩
        · unfold vsOf
          rw [List.length_map, List.length_map]
          exact Nat.le_of_lt (small1000 (by omega))
        have s7 := sm6.trans (same_upd (o := .lst (vsOf us ++ vsOf vs)) hR)
        refine ⟨_, R, us ++ vs, rfl, sm4.trans s7, tw4.same s7, ⟨?_, (mg4.ed.same s7).app (ed6.same (same_upd hR)), ?_⟩, ?_⟩
        · rw [upd_same]
          unfold vsOf
          rw [List.map_append]
        · intro e he
          exact (List.mem_append.mp he).elim (mg4.rg e) (rg6 e)
        · rw [List.length_append]
          omega
    · rintro σ H4 ⟨v3, D, us, rfl, sm4, tw4, mg4, ln⟩
      exact ⟨_, rfl, q D H4 us sm4 mg4 (by omega)⟩
end
end Lw

set_option Elab.async false
set_option linter.all false
set_option maxRecDepth 100000
/-! a step that a plan allows: the rows that leave, the states that can be split -/
namespace Lw
open PySem L2
abbrev sStF : Stmt := top 25
def dEs (ts : Es) : List PyData := ts.map fun e => .tuple [.int e.2.1, .int e.2.2]
theorem dEs_at {K : PySem.W.Frag} {H : Hp} : ∀ {ts : Es}, Ed H ts → DpAll K H (vsOf ts) (dEs ts)
  | [], _ => .nil
  | e :: ts, h => .cons (.tup (SqT.of (h e List.mem_cons_self)) (.cons (.int _) (.cons (.int _) .nil))) (dEs_at (ts := ts) fun x hx => h x (List.mem_cons_of_mem _ hx))
theorem dEs_lay : ∀ ts : Es, PyData.canLayAll0 (dEs ts) = true
  | [] => rfl
  | e :: ts => by
    show (true && PyData.canLayAll0 (dEs ts)) = true
    rw [dEs_lay ts]
    rfl
theorem dEs_depth : ∀ ts : Es, PyData.depthAll (dEs ts) ≤ 1
  | [] => Nat.zero_le _
  | e :: ts => by
    show max 1 (PyData.depthAll (dEs ts)) ≤ 1
    exact Nat.max_le.mpr ⟨Nat.le_refl _, dEs_depth ts⟩
theorem shL (ts : Es) : SeqAt.shaped (.list (dEs ts)) = true := by
  show (PyData.canLayAll0 (dEs ts) && decide (PyData.depthAll (dEs ts) + 1 ≤ 64)) = true
  rw [dEs_lay, decide_eq_true (by have := dEs_depth ts; omega)]
  rfl
/-- rows of numbers below m, none of them the bag -/
structure LvAt (b : Addr) (H : Hp) (D : Addr) (ws : List (Addr × List Int)) (m : Int) : Prop where
  ls : H D = some (.lst (ws.map fun e => V.ref e.1))
  nb : D ≠ b
  row : ∀ e ∈ ws, H e.1 = some (.lst (e.2.map V.int)) ∧ e.1 ≠ b ∧ Rng m e.2 ∧ e.2.length ≤ 9
theorem LvAt.keep {b : Addr} {H H' : Hp} {D : Addr} {ws : List (Addr × List Int)} {m : Int} (h : LvAt b H D ws m) (k : KeepB b H H') : LvAt b H' D ws m := ⟨k _ _ h.nb h.ls, h.nb, fun e he => by
  obtain ⟨h1, h2, h3⟩ := h.row e he
  exact ⟨k _ _ h2 h1, h2, h3⟩⟩
theorem LvAt.same {b : Addr} {H H' : Hp} {D : Addr} {ws : List (Addr × List Int)} {m : Int} (h : LvAt b H D ws m) (s : Same H H') : LvAt b H' D ws m := h.keep (.of_same s)
/-- states that can be split -/
def Able (ws : List (Addr × List Int)) (xs : List Int) : Prop := ∀ z ∈ xs, 0 ≤ z ∧ z < 4 ∧ ∃ e, ws[z.toNat]? = some e ∧ 1 < e.2.length
abbrev NSf : List Str := ["_law_bag_here", "_law_plan_here", "_law_size", "_law_pairs", "_law_state", "_law_k", "_law_leaving", "_law_pair", "_law_able", "_law_way", "_law_mergers_here", "_law_one", "_law_other", "_law_part"]
abbrev scF1 : Scope := { kind := .function, names := [(".0", .local), ("_law_state", .cell), ("range", .globalImplicit), ("len", .globalImplicit), ("_law_pairs", .cell)], isGenerator := false, isCoroutine := false }
abbrev scF2 : Scope := { kind := .function, names := [(".0", .local), ("_law_state", .cell), ("len", .globalImplicit), ("_law_leaving", .cell), ("_law_pairs", .cell)], isGenerator := false, isCoroutine := false }
abbrev tLen (K : PySem.W.Frag) (t : TE) : TE := tCB (fun xs H Q => ∃ p ys, xs = [V.ref p] ∧ (SqL K H p ys ∨ SqT K H p ys) ∧ Q (.int ys.length) H) (tCons t tNil)
abbrev tLv1 (K : PySem.W.Frag) : TE := tLc (iRng1 (tCons (tLen K (tVar 3)) tNil)) (gName 5) (tTest (tOp rEq (tOp (rIxT K) (tOp (rIxL K) (tVar 3) (tVar 5)) (tC (.int 0))) (tVar 4))) (tVar 5) [5]
abbrev tIn1 (K : PySem.W.Frag) : TE := tLc (iSeqA K (tVar 3)) (gName 7) (tTest (tOp rEq (tOp (rIxT K) (tVar 7) (tC (.int 1))) (tVar 4))) (tC (.int 1)) [7]
abbrev tAb (K : PySem.W.Frag) : TT := tAnd (tTest (tOp (rI0 fun i j => .bl (decide (j < i))) (tLen K (tOp (rIxL K) (tVar 6) (tVar 4))) (tC (.int 1)))) (tTest (tOp (rI0 fun i j => .bl (decide (i ≤ j))) (tOp (rI0 fun i j => .int (i + j)) (tLen K (tIn1 K)) (tLen K (tVar 3))) (tC (.int 24))))
section
variable {P : Program} {w : World} {K : PySem.W.Frag} {mg : Str → Option Value} {base : Heap} {f : Addr} {fd : FuncData} {k : Nat}
theorem scStF : FnScope NSf ["_law_bag_here", "_law_plan_here"] (defScope sStF) := ⟨rfl, rfl, rfl, by decide +kernel, rfl, by decide +kernel, by decide +kernel⟩
/-- the numbers of the edges that leave a state -/
theorem lv1 {H : Hp} {q : Addr} {ts : Es} {s : Int} {v0 v1 v2 v5 v6 v7 v8 v9 v10 v11 v12 v13 : Option V} {Q : VK} (hq : H q = some (.lst (vsOf ts))) (ed : Ed H ts) (hl : ts.length ≤ 9)
    (h : ∀ (D : Addr) (H' : Hp) (xs : List Int), Same H H' → H D = none → H' D = some (.lst (xs.map V.int)) → Rng (ts.length : Int) xs → xs.length ≤ 9 → Q (.ref D) H') :
    tLv1 K [v0, v1, v2, some (.ref q), some (.int s), v5, v6, v7, v8, v9, v10, v11, v12, v13] H Q := by
  have ln : (vsOf ts).length = ts.length := by
    unfold vsOf
    rw [List.length_map]
  refine ⟨_, rfl, q, _, rfl, .inl (SqL.of hq), _, rfl, by omega, by omega, fun D hD => ?_⟩
  refine lc_it (walk_range (lo := 0) (n := ((vsOf ts).length : Int).toNat)) (fun i H' => Same H H' ∧ ∃ xs : List Int, H' D = some (.lst (xs.map V.int)) ∧ xs.length ≤ i ∧ Rng (ts.length : Int) xs) ⟨same_upd hD, [], upd_same, Nat.le_refl _, fun z hz => by cases hz⟩ (fun _ _ _ _ => True.intro) ?_ ?_
  · rintro i x H1 H2 hi ⟨sm, xs, eD, hx, rg⟩ ⟨rfl, hxx⟩
    have hxx : x = .int (i : Int) := by
      rw [hxx]
      show V.int (0 + (i : Int)) = _
      rw [Int.zero_add]
    subst hxx
    have hi : i < ts.length := by omega
    obtain ⟨e, he⟩ : ∃ e, ts[i]? = some e := ⟨_, List.getElem?_eq_getElem hi⟩
    refine ⟨rfl, ?_⟩
    refine ⟨_, rfl, _, rfl, q, _, _, .ref e.1, rfl, rfl, SqL.of (sm _ _ hq), atI_nat ?_, e.1, _, _, .int e.2.1, rfl, rfl, SqT.of (sm _ _ (ed e (List.mem_of_getElem? he))), rfl, _, rfl, rfl, _, rfl, ?_⟩
    · unfold vsOf
      rw [List.getElem?_map, he]
      rfl
    dsimp only
    split
    · refine ⟨_, rfl, _, eD, ?_, ?_, xs ++ [(i : Int)], ?_, ?_, ?_⟩
      · rw [List.length_map]
        exact small1000 (by omega)
      · intro b o e
        rw [upd_ne (ne_of_none e hD)]
        exact sm _ _ e
      · rw [upd_same, List.map_append]
        rfl
      · rw [List.length_append, List.length_singleton]
        omega
      · intro z hz
        rcases List.mem_append.mp hz with hz | hz
        · exact rg z hz
        · rw [List.mem_singleton.mp hz]
          omega
    · exact ⟨sm, xs, eD, by omega, rg⟩
  · rintro H1 ⟨sm, xs, eD, hx, rg⟩
    exact h D H1 xs sm hD eD rg (by omega)
/-- ones for the edges that enter a state -/
theorem in1 {H : Hp} {q : Addr} {ts : Es} {s : Int} {v0 v1 v2 v5 v6 v7 v8 v9 v10 v11 v12 v13 : Option V} {Q : VK} (hq : H q = some (.lst (vsOf ts))) (ed : Ed H ts) (hl : ts.length ≤ 9)
    (h : ∀ (D : Addr) (H' : Hp) (xs : List V), Same H H' → H' D = some (.lst xs) → Q (.ref D) H') :
    tIn1 K [v0, v1, v2, some (.ref q), some (.int s), v5, v6, v7, v8, v9, v10, v11, v12, v13] H Q := by
  have ln : (vsOf ts).length = ts.length := by
    unfold vsOf
    rw [List.length_map]
  refine ⟨_, rfl, q, _, SqL, rfl, .inl rfl, SqL.of hq, fun J w D hD => ?_⟩
  refine lc_it w (fun i H' => Same H H' ∧ ∃ xs : List V, H' D = some (.lst xs) ∧ xs.length ≤ i) ⟨same_upd hD, [], upd_same, Nat.le_refl _⟩ (fun i H' _ p => SqL.of (p.1 _ _ hq)) ?_ ?_
  · rintro i x H1 H2 hi ⟨sm, xs, eD, hx⟩ ⟨rfl, gx⟩
    obtain ⟨e, he, rfl⟩ := vsOf_at gx
    refine ⟨rfl, ?_⟩
    refine ⟨_, rfl, e.1, _, _, .int e.2.2, rfl, rfl, SqT.of (sm _ _ (ed e (List.mem_of_getElem? he))), rfl, _, rfl, rfl, _, rfl, ?_⟩
    dsimp only
    split
    · refine ⟨_, eD, ?_, ?_, xs ++ [.int 1], upd_same, ?_⟩
      · exact small1000 (by omega)
      · intro b o e
        rw [upd_ne (ne_of_none e hD)]
        exact sm _ _ e
      · rw [List.length_append, List.length_singleton]
        omega
    · exact ⟨sm, xs, eD, by omega⟩
  · rintro H1 ⟨sm, xs, eD, hx⟩
    exact h D H1 xs sm eD
end
end Lw

set_option Elab.async false
set_option linter.all false
set_option maxRecDepth 100000
namespace Lw
open PySem L2
theorem PlanAt.keep {H H' : Hp} {p q b l : Addr} {ns : List Int} {n : Int} {ts : Es} (h : PlanAt H p q n ts) (B : BagAt H b l ns) (k : KeepB b H H') : PlanAt H' p q n ts := ⟨k _ _ (B.ne_tup h.tp) h.tp, k _ _ (B.ne_vs h.ls) h.ls, h.ed.keep B k, h.va, h.n1⟩
theorem MgAt.keep {H H' : Hp} {D b l : Addr} {ns : List Int} {us : Es} {n : Int} (h : MgAt H D us n) (B : BagAt H b l ns) (k : KeepB b H H') : MgAt H' D us n := ⟨k _ _ (B.ne_vs h.ls) h.ls, h.ed.keep B k, h.rg⟩
def spStF : Sp := fun vs H Q _ => ∃ (b l p q : Addr) (ns : List Int) (n : Int) (ts : Es), vs = [.ref b, .ref p] ∧ BagAt H b l ns ∧ PlanAt H p q n ts ∧ n ≤ 4 ∧ ts.length ≤ 9 ∧
  ∀ (d : Addr) (H' : Hp) (x : Sd), KeepB b H H' → BagAt H' b l ns → SdAt H' d x → x.Fine → Q (.ref d) H'
theorem ne_es (us : Es) : (!PyData.eqv (.list (dEs us)) (.list [])) = !us.isEmpty := by
  cases us <;> rfl
theorem ne_is (xs : List Int) : (!PyData.eqv (.list (xs.map PyData.int)) (.list [])) = !xs.isEmpty := by
  cases xs <;> rfl
theorem three : 3 ≤ sizeLine := by decide
theorem fine_rng {xs : List Int} {m : Nat} (h : Rng (m : Int) xs) (hl : xs.length = m) (h1 : 1 ≤ m) (h9 : m ≤ 9) : FnL xs := ⟨fun z => by
  rw [z] at hl
  simp at hl
  omega, by omega, fun z hz => by
  have := h z hz
  exact ⟨this.1, by omega⟩⟩
theorem yes_if {σ : St} {H : Hp} {A B : Hp → Prop} (h : A H) : tYes σ H (fun b H => if b = true then A H else B H) := by
  show (if true = true then A H else B H)
  exact if_t rfl h
/-- what is known at the choice -/
structure Ch (b l : Addr) (ns : List Int) (H : Hp) (p q : Addr) (n : Int) (ts : Es) (Lv : Addr) (ws : List (Addr × List Int)) (A : Addr) (zs : List Int) (M : Addr) (us : Es) : Prop where
  bag : BagAt H b l ns
  pl : PlanAt H p q n ts
  lv : LvAt b H Lv ws (ts.length : Int)
  ab : H A = some (.lst (zs.map V.int))
  na : A ≠ b
  al : Able ws zs
  mg : MgAt H M us n
  nm : M ≠ b
  lu : us.length ≤ 400
  lz : zs.length ≤ 4
theorem Ch.keep {b l : Addr} {ns : List Int} {H H' : Hp} {p q : Addr} {n : Int} {ts : Es} {Lv : Addr} {ws : List (Addr × List Int)} {A : Addr} {zs : List Int} {M : Addr} {us : Es} (c : Ch b l ns H p q n ts Lv ws A zs M us) (k : KeepB b H H') (B : BagAt H' b l ns) : Ch b l ns H' p q n ts Lv ws A zs M us :=
  { c with bag := B, pl := c.pl.keep c.bag k, lv := c.lv.keep k, ab := k _ _ c.na c.ab, mg := c.mg.keep c.bag k }
theorem Ch.same {b l : Addr} {ns : List Int} {H H' : Hp} {p q : Addr} {n : Int} {ts : Es} {Lv : Addr} {ws : List (Addr × List Int)} {A : Addr} {zs : List Int} {M : Addr} {us : Es} (c : Ch b l ns H p q n ts Lv ws A zs M us) (s : Same H H') : Ch b l ns H' p q n ts Lv ws A zs M us := c.keep (.of_same s) (c.bag.same s)
abbrev tPu (m : Int) : TE := tCall spPull [] E0 (tCons (tVar 0) (tCons (tC (.int m)) tNil))
section
variable {P : Program} {w : World} {K : PySem.W.Frag} {mg : Str → Option Value} {base : Heap} {f : Addr} {fd : FuncData} {k : Nat}
theorem abL {H : Hp} {q : Addr} {ts : Es} {s : Int} {v0 v1 v2 v5 v6 v7 v8 v9 v10 v11 v12 v13 : Option V} {Q : VK} (hq : H q = some (.lst (vsOf ts))) (ed : Ed H ts) (hl : ts.length ≤ 9) (h : ∀ (b : Bool) (H' : Hp), Same H H' → Q (.bl b) H') :
    tOp (rI0 fun i j => .bl (decide (i ≤ j))) (tOp (rI0 fun i j => .int (i + j)) (tLen K (tIn1 K)) (tLen K (tVar 3))) (tC (.int 24)) [v0, v1, v2, some (.ref q), some (.int s), v5, v6, v7, v8, v9, v10, v11, v12, v13] H Q := by
  have g := in1 (K := K) (v0 := v0) (v1 := v1) (v2 := v2) (v5 := v5) (v6 := v6) (v7 := v7) (v8 := v8) (v9 := v9) (v10 := v10) (v11 := v11) (v12 := v12) (v13 := v13) (s := s) hq ed hl
    (Q := fun x H1 => ∃ p ys, [x] = [V.ref p] ∧ (SqL K H1 p ys ∨ SqT K H1 p ys) ∧ tLen K (tVar 3) [v0, v1, v2, some (.ref q), some (.int s), v5, v6, v7, v8, v9, v10, v11, v12, v13] H1 fun y H2 => rI0 (fun i j => .int (i + j)) (.int (ys.length : Int)) y H2 fun z H3 => rI0 (fun i j => .bl (decide (i ≤ j))) z (.int 24) H3 Q)
    fun D2 H4 ys s4 e4 => ⟨D2, ys, rfl, .inl (SqL.of e4), _, rfl, q, _, rfl, .inl (SqL.of (s4 _ _ hq)), _, _, rfl, rfl, _, _, rfl, rfl, h _ _ s4⟩
  exact g
set_option maxHeartbeats 16000000 in
theorem ok_stf (F : Fun K "_law_step_for" "_law_step_for" sStF f fd) (T : Bi mg) (cP : C8.Cal P w K mg base 1 "_law_pull" spPull []) (cO : C8.Cal P w K mg base 2 "_law_of" (spOf K) []) (cM : C8.Cal P w K mg base 2 "_law_mergers" spMgrs []) (cS : C8.Cal P w K mg base 2 "_law_shuffled" spShuf []) :
    FnOk P w K mg base CX0 (k + 3) f fd ["_law_bag_here", "_law_plan_here"] spStF := by
  refine F.ok scStF (fun vs H Q E h => ?_) (fun cdv A outer s H vs Q E hr h => ?_)
  · obtain ⟨b, l, p, q, ns, n, ts, rfl, _⟩ := h
    rfl
  · obtain ⟨b, l, p, q, ns, n, ts, rfl, B, PA, hn, ht9, qq⟩ := h
    have n1 := PA.n1
    have lvs : (vsOf ts).length = ts.length := by
      unfold vsOf
      rw [List.length_map]
    have t1 : 1 ≤ ts.length := by
      obtain ⟨e, he, _⟩ := PA.va.sr 0 (Int.le_refl 0) (by omega)
      exact List.length_pos_of_mem he
    refine ⟨_, pss_cons (ps_asg (pv 1) (pg_tup rfl (pgs_cons (pg_name (i := 2) scStF.nd rfl (.inl rfl)) (pgs_cons (pg_name (i := 3) scStF.nd rfl (.inr rfl)) pgs_nil))))
      (pss_cons (ps_set (i := 6) scStF.nd rfl (.inr rfl)
        (pe_lc (own := [("_law_state", 4)]) (g := gName 4) (tt := tYes) (te := tLv1 K) rfl scStF.nd (pi_range1 (by rfl) T.range (pa_cons (pv 2) pa_nil)) (blkOk_by (N := NSf) (sc := defScope sStF) (by decide +kernel))
          (fun _ _ _ _ _ => by exact pg_name (i := 4) scStF.nd rfl (Or.inr rfl)) (fun _ _ _ _ _ => pts_nil)
          (fun _ _ _ _ _ => by exact (pe_lc (own := [("_law_k", 5)]) (g := gName 5) (tt := tTest (tOp rEq (tOp (rIxT K) (tOp (rIxL K) (tVar 3) (tVar 5)) (tC (.int 0))) (tVar 4))) (te := tVar 5) rfl scStF.nd (pi_range1 (by rfl) T.range (pa_cons (pe_callB call_len_seq (by rfl) T.len PySem.boot_len (pa_cons (pv 3) pa_nil)) pa_nil)) (blkOk_by (N := NSf) (sc := scF1) (by decide +kernel))
            (fun _ _ _ _ _ => by exact pg_name (i := 5) scStF.nd rfl (Or.inl rfl))
            (fun _ _ _ _ _ => by exact pts_one (pt_cmpR op_eq (pe_ix ix_tup (pe_ix ix_list (pv 3) (pv 5) (fun _ _ => rfl)) pe_int (fun _ _ => rfl)) (pv 4) (nomark _)))
            (fun _ _ _ _ _ => by exact pv 5)))))
      (C8.pss_cut (ps_setLc (i := 8) (own := [("_law_state", 4)]) (g := gName 4) (tt := tAb K) (te := tVar 4) rfl scStF.nd rfl rfl (sw_true rfl rfl rfl (by decide +kernel)) (pi_range1 (by rfl) T.range (pa_cons (pv 2) pa_nil)) (blkOk_by (N := NSf) (sc := defScope sStF) (by decide +kernel))
          (fun _ _ _ _ _ => by exact pg_name (i := 4) scStF.nd rfl (Or.inr rfl))
          (fun _ _ _ _ _ => by exact pts_one (PW.pt (pw_and (pt_cmpR op_gt (pe_callB call_len_seq (by rfl) T.len PySem.boot_len (pa_cons (pe_ix ix_list (pv 6) (pv 4) (fun _ _ => rfl)) pa_nil)) pe_int (nomark _))
            (pw_and1 (pt_cmpR op_le (pe_op op_add (pe_callB call_len_seq (by rfl) T.len PySem.boot_len (pa_cons
                (pe_lc (own := [("_law_pair", 7)]) (g := gName 7) (tt := tTest (tOp rEq (tOp (rIxT K) (tVar 7) (tC (.int 1))) (tVar 4))) (te := tC (.int 1)) rfl scStF.nd (pi_seqA (pv 3)) (blkOk_by (N := NSf) (sc := scF2) (by decide +kernel))
                  (fun _ _ _ _ _ => by exact pg_name (i := 7) scStF.nd rfl (Or.inl rfl))
                  (fun _ _ _ _ _ => by exact pts_one (pt_cmpR op_eq (pe_ix ix_tup (pv 7) pe_int (fun _ _ => rfl)) (pv 4) (nomark _)))
                  (fun _ _ _ _ _ => by exact pe_int)) pa_nil)) (pe_callB call_len_seq (by rfl) T.len PySem.boot_len (pa_cons (pv 3) pa_nil))) pe_int (nomark _))))))
          (fun _ _ _ _ _ => by exact pv 4))
      (C8.pss_cut (ps_par (i := 9) (j := 10) (by rfl) scStF.nd rfl rfl (by decide) rfl rfl (pa_cons (C8.pe_c cP hr (by omega) (by rfl) (pa_cons (pv 0) (pa_cons pe_int pa_nil))) (pa_cons (C8.pe_c cM hr (by omega) (by rfl) (pa_cons (pv 1) pa_nil)) pa_nil)) (by rfl))
      (C8.pss_cut (ps_if (PW.pt (pw_and (pt_cmpR op_lt (pv 9) pe_int (nomark _)) (pw_and1 (pt_cmpR (op_neD hr.units) (pv 10) (pe_lst pa_nil) (nomark _)))))
          (pss_cons (ps_asg (C8.pe_c cO hr (by omega) (by rfl) (pa_cons (pv 0) (pa_cons (pv 10) pa_nil))) (pg_tup rfl (pgs_cons (pg_name (i := 11) scStF.nd rfl (.inl rfl)) (pgs_cons (pg_name (i := 12) scStF.nd rfl (.inl rfl)) pgs_nil))))
          (pss_one (ps_ret (pe_tup (pa_cons pe_str (pa_cons (pv 11) (pa_cons (pv 12) pa_nil))))))) pss_nil)
      (C8.pss_cut (ps_if (PW.pt (pw_and (pt_cmpR op_lt (pv 9) pe_int (nomark _)) (pw_and (pt_cmpR (op_neD hr.units) (pv 8) (pe_lst pa_nil) (nomark _)) (pw_and1 (pt_cmpR op_lt (pv 2) pe_int (nomark _))))))
          (pss_cons (ps_set (i := 4) scStF.nd rfl (.inl rfl) (C8.pe_c cO hr (by omega) (by rfl) (pa_cons (pv 0) (pa_cons (pv 8) pa_nil))))
          (pss_cons (ps_setLc (i := 13) (own := [("_law_k", 5)]) (g := gName 5) (tt := tTest (tOp rEq (tPu 2) (tC (.int 0)))) (te := tVar 5) rfl scStF.nd rfl rfl (sw_true rfl rfl rfl (by decide +kernel)) (pi_seqA (pe_ix ix_list (pv 6) (pv 4) (fun _ _ => rfl))) (blkOk_by (N := NSf) (sc := defScope sStF) (by decide +kernel))
            (fun _ _ _ _ _ => by exact pg_name (i := 5) scStF.nd rfl (Or.inl rfl))
            (fun _ _ _ _ _ => by exact pts_one (pt_cmpR op_eq (C8.pe_c cP hr (by omega) (by rfl) (pa_cons (pv 0) (pa_cons pe_int pa_nil))) pe_int (nomark _)))
            (fun _ _ _ _ _ => by exact pv 5))
          (C8.pss_cut (ps_set (i := 13) scStF.nd rfl (.inl rfl) (pe_ifExp (pt_chain op_lt op_lt pe_int (pe_callB call_len_seq (by rfl) T.len PySem.boot_len (pa_cons (pv 13) pa_nil)) (pe_callB call_len_seq (by rfl) T.len PySem.boot_len (pa_cons (pe_ix ix_list (pv 6) (pv 4) (fun _ _ => rfl)) pa_nil))) (pv 13) (pe_slice sl_list (pe_ix ix_list (pv 6) (pv 4) (fun _ _ => rfl)) (po_some pe_int) po_none)))
          (pss_one (ps_ret (pe_tup (pa_cons pe_str (pa_cons (pv 4) (pa_cons (pe_callTy call_tuple_of (by rfl) T.tuple (by decide +kernel) (pa_cons (pv 13) pa_nil)) pa_nil))))))))) pss_nil)
      (pss_one (ps_ret (pe_tup (pa_cons pe_str (pa_cons (C8.pe_c cS hr (by omega) (by rfl) (pa_cons (pv 0) (pa_cons (pv 2) pa_nil))) (pa_cons (C8.pe_c cS hr (by omega) (by rfl) (pa_cons (pv 0) (pa_cons (pe_callB call_len_seq (by rfl) T.len PySem.boot_len (pa_cons (pv 3) pa_nil)) pa_nil))) pa_nil))))))))))), ?_⟩
    refine ⟨_, rfl, p, _, rfl, SqT.of PA.tp, rfl, _, _, rfl, _, _, rfl, rfl, ?_⟩
    -- the rows that leave
    refine ⟨_, rfl, n, rfl, by omega, by omega, fun D hD => ?_⟩
    have nD := B.ne_new hD
    refine lc_it (walk_range (lo := 0) (n := n.toNat)) (fun i H' => ∃ ws : List (Addr × List Int), ws.length = i ∧ Same H H' ∧ LvAt b H' D ws (ts.length : Int) ∧ ∀ e ∈ ws, e.1 ≠ D) ⟨[], rfl, same_upd hD, ⟨upd_same, nD, fun e he => by cases he⟩, fun e he => by cases he⟩ (fun _ _ _ _ => True.intro) ?_ ?_
    · rintro i x H1 H2 hi ⟨ws, hws, sm, lv, nd⟩ ⟨rfl, rfl⟩
      refine ⟨rfl, ?_⟩
      refine yes_if ?_
      show tLv1 K [some (.ref b), some (.ref p), some (.int n), some (.ref q), some (.int (0 + (i : Int))), none, none, none, none, none, none, none, none, none] H2 _
      refine lv1 (sm _ _ PA.ls) (PA.ed.same sm) ht9 fun D1 H3 xs s3 hD1 e1 rg hx => ?_
      have lv3 := lv.same s3
      have n1D : D1 ≠ D := fun z => by
        rw [z, lv.ls] at hD1
        cases hD1
      refine ⟨_, lv3.ls, ?_, ws ++ [(D1, xs)], by simp [hws], ?_, ⟨?_, nD, ?_⟩, ?_⟩
      · rw [List.length_map]
        exact small1000 (by omega)
      · intro c o ec
        rw [upd_ne (ne_of_none ec hD)]
        exact s3 _ _ (sm _ _ ec)
      · rw [upd_same, List.map_append]
        rfl
      · intro e he
        rcases List.mem_append.mp he with he | he
        · rw [upd_ne (nd e he)]
          exact lv3.row e he
        · rw [List.mem_singleton.mp he, upd_ne n1D]
          exact ⟨e1, (B.same sm).ne_new hD1, rg, hx⟩
      · intro e he
        rcases List.mem_append.mp he with he | he
        · exact nd e he
        · rw [List.mem_singleton.mp he]
          exact n1D
    rintro H1 ⟨ws, hws, sm1, lv, -⟩
    -- the states that can be split
    refine ⟨fun σ H' => ∃ (C : Addr) (zs : List Int), σ = [some (.ref b), some (.ref p), some (.int n), some (.ref q), none, none, some (.ref D), none, some (.ref C), none, none, none, none, none] ∧ Same H H' ∧ LvAt b H' D ws (ts.length : Int) ∧ H' C = some (.lst (zs.map V.int)) ∧ C ≠ b ∧ Able ws zs ∧ zs.length ≤ 4, ?_, ?_⟩
    · refine ⟨_, rfl, n, rfl, by omega, by omega, fun C hC => ?_⟩
      have nC := (B.same sm1).ne_new hC
      refine lc_it (walk_range (lo := 0) (n := n.toNat)) (fun i H' => ∃ zs : List Int, Same H1 H' ∧ H' C = some (.lst (zs.map V.int)) ∧ zs.length ≤ i ∧ Able ws zs) ⟨[], same_upd hC, upd_same, Nat.le_refl _, fun e he => by cases he⟩ (fun _ _ _ _ => True.intro) ?_ ?_
      · rintro i x H2 H3 hi ⟨zs, s2, eC, hz, ab⟩ ⟨rfl, hx⟩
        have hx : x = .int (i : Int) := by
          rw [hx]
          show V.int (0 + (i : Int)) = _
          rw [Int.zero_add]
        subst hx
        obtain ⟨e, he⟩ : ∃ e, ws[i]? = some e := ⟨_, List.getElem?_eq_getElem (by omega)⟩
        have lv2 := lv.same s2
        refine ⟨rfl, ?_⟩
        refine ⟨_, rfl, _, rfl, D, _, _, .ref e.1, rfl, rfl, SqL.of lv2.ls, atI_nat ?_, e.1, _, rfl, .inl (SqL.of (lv2.row e (List.mem_of_getElem? he)).1), _, _, rfl, rfl, _, rfl, ite2 (fun h1 => ?_) (fun h1 => ?_)⟩
        · rw [List.getElem?_map, he]
          rfl
        · have h1 := of_decide_eq_true h1
          rw [List.length_map] at h1
          refine abL (sm1.trans s2 _ _ PA.ls) (PA.ed.same (sm1.trans s2)) ht9 fun bb H4 s4 => ⟨_, rfl, ite2 (fun h2 => ?_) (fun h2 => ?_)⟩
          · refine ⟨_, rfl, _, s4 _ _ eC, ?_, zs ++ [(i : Int)], ?_, ?_, ?_, ?_⟩
            · rw [List.length_map]
              exact small1000 (by omega)
            · intro c o ec
              rw [upd_ne (ne_of_none ec hC)]
              exact s4 _ _ (s2 _ _ ec)
            · rw [upd_same, List.map_append]
              rfl
            · rw [List.length_append, List.length_singleton]
              omega
            · intro z hz
              rcases List.mem_append.mp hz with hz | hz
              · exact ab z hz
              · rw [List.mem_singleton.mp hz]
                exact ⟨by omega, by omega, e, by rw [Int.toNat_natCast]; exact he, by omega⟩
          · exact ⟨zs, s2.trans s4, s4 _ _ eC, by omega, ab⟩
        · exact if_f rfl ⟨zs, s2, eC, by omega, ab⟩
      · rintro H2 ⟨zs, s2, eC, hz, ab⟩
        exact ⟨C, zs, rfl, sm1.trans s2, lv.same s2, eC, nC, ab, by omega⟩
    rintro _ H2 ⟨C, zs, rfl, sm2, lv, eC, nC, ab, lz⟩
    have B2 := B.same sm2
    -- the way
    refine ⟨fun σ H' => ∃ (v : Int) (M : Addr) (us : Es), σ = [some (.ref b), some (.ref p), some (.int n), some (.ref q), none, none, some (.ref D), none, some (.ref C), some (.int v), some (.ref M), none, none, none] ∧ KeepB b H H' ∧ Ch b l ns H' p q n ts D ws C zs M us, ?_, ?_⟩
    · refine ⟨_, rfl, b, l, ns, 5, rfl, B2, by decide, by decide, fun v o v0 v1 BO => ?_⟩
      have B3 := B2.upd BO
      have k3 : KeepB b H (upd H2 b o) := (KeepB.of_same sm2).trans .updb
      have lv := lv.keep (KeepB.updb (o := o))
      have eC := KeepB.updb (o := o) _ _ nC eC
      generalize upd H2 b o = H3 at *
      refine ⟨_, rfl, p, q, n, ts, rfl, PA.keep B k3, by omega, fun M H4 us s4 ma hu => ?_⟩
      refine ⟨_, _, rfl, v, M, us, rfl, k3.trans (.of_same s4), ?_⟩
      have B5 := B3.same s4
      exact ⟨B5, (PA.keep B k3).same' s4, lv.same s4, s4 _ _ eC, nC, ab, ma, B5.ne_vs ma.ls, hu, lz⟩
    rintro _ H3 ⟨v, M, us, rfl, k3, ch⟩
    -- a merge
    refine ⟨fun σ H' => σ = [some (.ref b), some (.ref p), some (.int n), some (.ref q), none, none, some (.ref D), none, some (.ref C), some (.int v), some (.ref M), none, none, none] ∧ KeepB b H H' ∧ Ch b l ns H' p q n ts D ws C zs M us, ?_, ?_⟩
    · refine ⟨_, rfl, _, _, rfl, rfl, _, rfl, ite2 (fun h1 => ?_) (fun h1 => if_f rfl ⟨rfl, k3, ch⟩)⟩
      refine ⟨_, rfl, (by show 0 ≤ sizeLine; exact Nat.zero_le _), fun z hz => ?_⟩
      have s4 := same_upd (o := .lst []) hz
      have k4 := k3.trans (.of_same s4)
      have ch := ch.same s4
      refine ⟨_, _, .lst (SqL.of ch.mg.ls) (dEs_at ch.mg.ed), .lst (SqL.of upd_same) .nil, shL us, rfl, _, rfl, ?_⟩
      generalize upd H3 z (.lst []) = H4 at *
      rw [ne_es]
      cases us with
      | nil => exact if_f rfl ⟨rfl, k4, ch⟩
      | cons u0 us =>
        refine if_t rfl ?_
        refine ⟨_, rfl, _, rfl, b, l, M, ns, _, rfl, ch.bag, SqL.of ch.mg.ls, ch.nm, by unfold vsOf; simp, ?_, fun i v o hv BO => ?_⟩
        · unfold vsOf
          rw [List.length_map]
          exact Nat.le_trans ch.lu (by decide)
        obtain ⟨e, he, rfl⟩ := vsOf_at hv
        have mem := List.mem_of_getElem? he
        have ch5 := ch.keep (KeepB.updb (o := o)) (ch.bag.upd BO)
        have k5 := k4.trans (KeepB.updb (o := o))
        generalize upd H4 b o = H5 at *
        refine ⟨e.1, _, rfl, SqT.of (ch5.mg.ed e mem), rfl, _, _, rfl, _, _, rfl, rfl, ?_⟩
        refine ⟨_, rfl, _, rfl, three, fun d hd => ?_⟩
        have r := ch5.mg.rg e mem
        exact qq d _ (.mrg e.2.1 e.2.2) (k5.new hd) (ch5.bag.new hd) upd_same ⟨⟨r.1, by omega⟩, ⟨r.2.2.1, by omega⟩⟩
    rintro _ H4 ⟨rfl, k4, ch⟩
    -- a split
    refine ⟨fun σ H' => σ = [some (.ref b), some (.ref p), some (.int n), some (.ref q), none, none, some (.ref D), none, some (.ref C), some (.int v), some (.ref M), none, none, none] ∧ KeepB b H H' ∧ Ch b l ns H' p q n ts D ws C zs M us, ?_, ?_⟩
    · refine ⟨_, rfl, _, _, rfl, rfl, _, rfl, ite2 (fun h1 => ?_) (fun h1 => if_f rfl ⟨rfl, k4, ch⟩)⟩
      refine ⟨_, rfl, (by show 0 ≤ sizeLine; exact Nat.zero_le _), fun z hz => ?_⟩
      have s5 := same_upd (o := .lst []) hz
      have k5 := k4.trans (.of_same s5)
      have ch := ch.same s5
      refine ⟨_, _, .lst (SqL.of ch.ab) (dp_ints _), .lst (SqL.of upd_same) .nil, shl_ints _, rfl, _, rfl, ?_⟩
      generalize upd H4 z (.lst []) = H5 at *
      rw [ne_is]
      by_cases hz0 : zs = []
      · exact if_f (by rw [hz0]; rfl) (if_f rfl ⟨rfl, k5, ch⟩)
      refine if_t (by cases zs with | nil => exact absurd rfl hz0 | cons => rfl) ?_
      refine ⟨_, rfl, _, _, rfl, rfl, _, rfl, if_t (decide_eq_true (by omega)) ?_⟩
      refine ⟨_, rfl, _, rfl, b, l, C, ns, _, rfl, ch.bag, SqL.of ch.ab, ch.na, by simpa using hz0, ?_, fun i v2 o hv BO => ?_⟩
      · rw [List.length_map]
        exact Nat.le_trans ch.lz (by decide)
      rw [List.getElem?_map] at hv
      obtain ⟨st, hst, rfl⟩ := Option.map_eq_some_iff.mp hv
      obtain ⟨st0, st4, e, he, hel⟩ := ch.al st (List.mem_of_getElem? hst)
      have mem := List.mem_of_getElem? he
      have ch6 := ch.keep (KeepB.updb (o := o)) (ch.bag.upd BO)
      have k6 := k5.trans (KeepB.updb (o := o))
      generalize upd H5 b o = H6 at *
      have est : st = ((st.toNat : Nat) : Int) := (Int.toNat_of_nonneg st0).symm
      have hat : ∀ {α : Type} (f : Addr × List Int → α), True := fun _ => True.intro
      have aix : atI (ws.map fun e => V.ref e.1) st = some (.ref e.1) := by
        rw [est]
        refine atI_nat ?_
        rw [List.getElem?_map, he]
        rfl
      obtain ⟨r1, r2, r3, r4⟩ := ch6.lv.row e mem
      refine ⟨_, rfl, _, rfl, D, _, _, .ref e.1, rfl, rfl, SqL.of ch6.lv.ls, aix, e.1, _, SqL, rfl, .inl rfl, SqL.of r1, fun J w D3 hD3 => ?_⟩
      have n3 := ch6.bag.ne_new hD3
      refine lc_it w (fun i H' => KeepB b H6 H' ∧ BagAt H' b l ns ∧ ∃ ys : List Int, H' D3 = some (.lst (ys.map V.int)) ∧ ys.length ≤ i ∧ ∀ y ∈ ys, y ∈ e.2) ⟨.of_same (same_upd hD3), ch6.bag.new hD3, [], upd_same, Nat.le_refl _, fun y hy => by cases hy⟩ (fun i H' _ p => SqL.of (p.1 _ _ r2 r1)) ?_ ?_
      · rintro i x H7 H8 hi ⟨k7, B7, ys, e7, l7, m7⟩ ⟨rfl, gx⟩
        rw [List.getElem?_map] at gx
        obtain ⟨y, hy, rfl⟩ := Option.map_eq_some_iff.mp gx
        rw [List.length_map] at hi
        refine ⟨rfl, ?_⟩
        refine ⟨_, rfl, b, l, ns, 2, rfl, B7, by decide, by decide, fun pv po p0 p1 BO => ?_⟩
        have B8 := B7.upd BO
        have k8 := k7.trans (KeepB.updb (o := po))
        have e8 := KeepB.updb (o := po) _ _ n3 e7
        generalize upd H8 b po = H9 at *
        refine ⟨rfl, _, rfl, ite2 (fun h => ?_) (fun h => ⟨k8, B8, ys, e8, by omega, m7⟩)⟩
        refine ⟨_, rfl, _, e8, ?_, k8.at hD3, B8.off n3 (ne_of_none ch6.bag.sc hD3).symm, ys ++ [y], ?_, ?_, ?_⟩
        · rw [List.length_map]
          exact small1000 (by omega)
        · rw [upd_same, List.map_append]
          rfl
        · rw [List.length_append, List.length_singleton]
          omega
        · intro u hu
          rcases List.mem_append.mp hu with hu | hu
          · exact m7 u hu
          · rw [List.mem_singleton.mp hu]
            exact List.mem_of_getElem? hy
      rintro H7 ⟨k7, B7, ys, e7, l7, m7⟩
      have ch7 := ch6.keep k7 B7
      have k7 := k6.trans k7
      obtain ⟨r1, r2, r3, r4⟩ := ch7.lv.row e mem
      refine ⟨fun σ H' => ∃ (D4 : Addr) (ys : List Int), σ = [some (.ref b), some (.ref p), some (.int n), some (.ref q), some (.int st), none, some (.ref D), none, some (.ref C), some (.int v), some (.ref M), none, none, some (.ref D4)] ∧ KeepB b H H' ∧ BagAt H' b l ns ∧ H' D4 = some (.lst (ys.map V.int)) ∧ FnL ys, ?_, ?_⟩
      · have fin : ∀ ys : List Int, ys ≠ [] → (∀ y ∈ ys, y ∈ e.2) → ys.length ≤ 9 → FnL ys := fun ys h1 h2 h3 => ⟨h1, by omega, fun y hy => by
          have := r3 y (h2 y hy)
          exact ⟨this.1, by omega⟩⟩
        refine ⟨_, rfl, D3, _, rfl, .inl (SqL.of e7), _, _, rfl, rfl, _, rfl, ite2 (fun h1 => ?_) (fun h1 => ?_)⟩
        · refine ⟨_, rfl, _, rfl, D, _, _, .ref e.1, rfl, rfl, SqL.of ch7.lv.ls, aix, e.1, _, rfl, .inl (SqL.of r1), _, _, rfl, rfl, _, rfl, ite2 (fun h2 => ?_) (fun h2 => ?_)⟩
          · refine ⟨_, rfl, D3, ys, rfl, k7, B7, e7, fin ys (fun z => ?_) m7 (by rw [List.length_map] at l7; omega)⟩
            rw [z] at h1
            cases h1
          · refine ⟨_, rfl, _, rfl, D, _, _, .ref e.1, rfl, rfl, SqL.of ch7.lv.ls, aix, _, rfl, e.1, _, rfl, SqL.of r1, fun D4 hD4 => ?_⟩
            refine ⟨D4, e.2.drop 1, rfl, k7.new hD4, B7.new hD4, ?_, fin _ ?_ (fun y hy => List.mem_of_mem_drop hy) (by rw [List.length_drop]; omega)⟩
            · rw [upd_same]
              have := cut_hi (xs := e.2.map V.int) (k := 1) (by rw [List.length_map]; omega)
              rw [List.map_drop, ← this]
              rfl
            · intro z
              have := congrArg List.length z
              rw [List.length_drop] at this
              simp at this
              omega
        · refine ⟨_, rfl, if_f rfl ?_⟩
          refine ⟨_, rfl, _, rfl, D, _, _, .ref e.1, rfl, rfl, SqL.of ch7.lv.ls, aix, _, rfl, e.1, _, rfl, SqL.of r1, fun D4 hD4 => ?_⟩
          refine ⟨D4, e.2.drop 1, rfl, k7.new hD4, B7.new hD4, ?_, fin _ ?_ (fun y hy => List.mem_of_mem_drop hy) (by rw [List.length_drop]; omega)⟩
          · rw [upd_same]
            have := cut_hi (xs := e.2.map V.int) (k := 1) (by rw [List.length_map]; omega)
            rw [List.map_drop, ← this]
            rfl
          · intro z
            have := congrArg List.length z
            rw [List.length_drop] at this
            simp at this
            omega
      · rintro _ H8 ⟨D4, ys, rfl, k8, B8, e8, fy⟩
        refine ⟨_, rfl, _, rfl, D4, _, rfl, .inl ⟨SqL.of e8, fun t ht => ?_⟩⟩
        have k9 := k8.new (o := .tup (ys.map V.int)) ht
        have B9 := B8.new (o := .tup (ys.map V.int)) ht
        refine ⟨three, fun d hd => ?_⟩
        exact qq d _ (.spl st ys) (k9.new hd) (B9.new hd) ⟨t, upd_same, same_upd hd _ _ upd_same⟩ ⟨⟨st0, by omega⟩, fy⟩
    rintro _ H5 ⟨rfl, k5, ch⟩
    -- a renaming
    refine ⟨_, rfl, _, rfl, b, l, ns, n.toNat, (congrArg (fun z => [V.ref b, V.int z]) (Int.toNat_of_nonneg (by omega)).symm), ch.bag, by omega, fun t H6 xs k6 B6 ti hl rg => ?_⟩
    have ch6 := ch.keep k6 B6
    refine ⟨_, rfl, _, rfl, q, _, rfl, .inl (SqL.of ch6.pl.ls), b, l, ns, _, rfl, B6, by omega, fun u H7 ys k7 B7 tj hl2 rg2 => ?_⟩
    refine ⟨three, fun d hd => ?_⟩
    rw [lvs] at hl2 rg2
    exact qq d _ (.ren xs ys) (((k5.trans k6).trans k7).new hd) (B7.new hd) ⟨t, u, upd_same, (ti.keep B6 k7).same (same_upd hd), tj.same (same_upd hd)⟩ ⟨fine_rng rg hl (by omega) (by omega), fine_rng rg2 hl2 t1 ht9⟩
end
end Lw

set_option Elab.async false
set_option linter.all false
set_option maxRecDepth 100000
/-! the object and the text of a described step -/
namespace Lw
open PySem L2
abbrev sStp : Stmt := top 26
abbrev sStT : Stmt := top 28
def spStp (CS CM CR : Addr) : Sp := fun vs H Q _ => ∃ (d : Addr) (x : Sd), vs = [.ref d] ∧ SdAt H d x ∧ ∀ o H', Same H H' → H o = none → StAt CS CM CR H' o x → Q (.ref o) H'
def spStT : Sp := fun vs H Q _ => ∃ (d : Addr) (x : Sd), vs = [.ref d] ∧ SdAt H d x ∧ x.Sm ∧ ∀ H', Same H H' → Q (.str x.tx) H'
/-- a part of a step, and its text -/
def PartAt (H : Hp) (v : V) (tx : Str) : Prop := (∃ z, v = .int z ∧ SmI z ∧ tx = itx z) ∨ (∃ t xs, v = .ref t ∧ TI H t xs ∧ SmL xs ∧ tx = ntx xs)
theorem PartAt.same {H H' : Hp} {v : V} {tx : Str} (h : PartAt H v tx) (s : Same H H') : PartAt H' v tx := h.imp id fun ⟨t, xs, a, b, c⟩ => ⟨t, xs, a, b.same s, c⟩
theorem PartAt.len {H : Hp} {v : V} {tx : Str} (h : PartAt H v tx) : tx.length ≤ 80000 := by
  rcases h with ⟨z, _, m, rfl⟩ | ⟨t, xs, _, _, m, rfl⟩
  · exact Nat.le_trans (itx_len m) (by decide)
  · exact ntx_len m
theorem join3 (x a b : Str) : Txt.join " " [x, a, b] = x ++ Str.ofString " " ++ a ++ Str.ofString " " ++ b := by
  have e := SX.join_S [32] [x.cps.toList, a.cps.toList, b.cps.toList]
  simp only [List.map_cons, List.map_nil, SX.S_tl] at e
  rw [show (Str.ofString " ") = SX.S [32] from space]
  refine e.trans ?_
  rw [← SX.S_tl x, ← SX.S_tl a, ← SX.S_tl b]
  rw [SX.S_cat, SX.S_cat, SX.S_cat, SX.S_cat]
  simp [TL.joinL, SX.S_tl]
abbrev rStrI : List V → Hp → VK → Prop := fun xs H Q => ∃ i, xs = [.int i] ∧ i.natAbs.log2 < 1920 ∧ Q (.str (toString i)) H
abbrev rJoin (K : PySem.W.Frag) : V → List V → Hp → VK → Prop := fun x xs H Q => ∃ a p, ∃ ys : List Str, x = .str a ∧ xs = [.ref p] ∧ (SqL K H p (ys.map V.str) ∨ SqT K H p (ys.map V.str)) ∧ (ys.map (·.length)).sum + ys.length * a.length ≤ 16777216 ∧ Q (.str (Txt.join a ys)) H
abbrev tNums (K : PySem.W.Frag) : TE := tLc (iSeqA K (tVar 2)) (gName 3) tYes (tCB rStrI (tCons (tVar 3) tNil)) [3]
abbrev tWrd (K : PySem.W.Frag) : TE := tIf (tB (tCB (rIsi K) (tCons (tVar 2) (tCons (tC (.ty "tuple")) tNil)))) (tBM K "str" (rJoin K) (tC (.str ",")) (tCons (tNums K) tNil)) (tCB rStrI (tCons (tVar 2) tNil))
abbrev NSt : List Str := ["_law_step_here", "_law_parts", "_law_part", "_law_k", "_law_words"]
abbrev scT1 : Scope := { kind := .function, names := [(".0", .local), ("_law_part", .local), ("isinstance", .globalImplicit), ("tuple", .globalImplicit), ("str", .globalImplicit)], isGenerator := false, isCoroutine := false }
section
variable {P : Program} {w : World} {K : PySem.W.Frag} {mg : Str → Option Value} {base : Heap} {f CS CM CR : Addr} {fd : FuncData} {k : Nat}
theorem scStp : FnScope ["_law_step_here"] ["_law_step_here"] (defScope sStp) := ⟨rfl, rfl, rfl, by decide +kernel, rfl, by decide +kernel, by decide +kernel⟩
theorem scStT : FnScope NSt ["_law_step_here"] (defScope sStT) := ⟨rfl, rfl, rfl, by decide +kernel, rfl, by decide +kernel, by decide +kernel⟩
set_option maxHeartbeats 4000000 in
theorem ok_stp (F : Fun K "_law_step" "_law_step" sStp f fd) (m1 : C8.Mak P w K mg base 1 "Split" CS (spIni1 CS CM CR) []) (m2 : C8.Mak P w K mg base 1 "Merge" CM (spIni2 CS CM CR) []) (m3 : C8.Mak P w K mg base 1 "Renaming" CR (spIni3 CS CM CR) []) :
    FnOk P w K mg base CX0 (k + 3) f fd ["_law_step_here"] (spStp CS CM CR) := by
  refine F.ok scStp (fun vs H Q E h => ?_) (fun cdv A outer s H vs Q E hr h => ?_)
  · obtain ⟨d, x, rfl, _⟩ := h
    rfl
  · obtain ⟨d, x, rfl, hd, q⟩ := h
    refine ⟨_, pss_cons (ps_if (pt_cmpR op_eq (pe_ix ix_tup (pv 0) pe_int (fun _ _ => rfl)) pe_str (nomark _)) (pss_one (ps_ret (C8.pe_mk m1 hr (by omega) (by rfl) (pa_cons (pe_ix ix_tup (pv 0) pe_int (fun _ _ => rfl)) (pa_cons (pe_ix ix_tup (pv 0) pe_int (fun _ _ => rfl)) pa_nil))))) pss_nil)
      (pss_one (ps_ret (pe_ifExp (pt_cmpR op_eq (pe_ix ix_tup (pv 0) pe_int (fun _ _ => rfl)) pe_str (nomark _)) (C8.pe_mk m2 hr (by omega) (by rfl) (pa_cons (pe_ix ix_tup (pv 0) pe_int (fun _ _ => rfl)) (pa_cons (pe_ix ix_tup (pv 0) pe_int (fun _ _ => rfl)) pa_nil))) (C8.pe_mk m3 hr (by omega) (by rfl) (pa_cons (pe_ix ix_tup (pv 0) pe_int (fun _ _ => rfl)) (pa_cons (pe_ix ix_tup (pv 0) pe_int (fun _ _ => rfl)) pa_nil)))))), ?_⟩
    cases x with
    | spl st ps =>
      obtain ⟨t, h1, ht⟩ := hd
      refine ⟨_, rfl, d, _, _, _, rfl, rfl, SqT.of h1, rfl, rfl, _, rfl, if_t (show decide (V.str (Str.ofString "split") = V.str (Str.ofString "split")) = true by decide +kernel) ?_⟩
      refine ⟨_, rfl, d, _, _, _, rfl, rfl, SqT.of h1, rfl, _, rfl, d, _, _, _, rfl, rfl, SqT.of h1, rfl, fun o dx ho hd ne => ?_⟩
      refine ⟨o, dx, t, st, ps, rfl, upd_same, (by show upd _ o _ t = _; rw [upd_ne (ne_of_none ht ho), upd_ne (ne_of_none ht hd)]; exact ht), fun H3 k3 st3 => ⟨rfl, q o H3 (same_mk ho hd ne k3) ho st3⟩⟩
    | mrg a b =>
      have h1 : H d = _ := hd
      refine ⟨_, rfl, d, _, _, _, rfl, rfl, SqT.of h1, rfl, rfl, _, rfl, if_f (show decide (V.str (Str.ofString "merge") = V.str (Str.ofString "split")) = false by decide +kernel) ?_⟩
      refine ⟨_, rfl, d, _, _, _, rfl, rfl, SqT.of h1, rfl, rfl, _, rfl, if_t (show decide (V.str (Str.ofString "merge") = V.str (Str.ofString "merge")) = true by decide +kernel) ?_⟩
      refine ⟨_, rfl, d, _, _, _, rfl, rfl, SqT.of h1, rfl, _, rfl, d, _, _, _, rfl, rfl, SqT.of h1, rfl, fun o dx ho hd ne => ?_⟩
      exact ⟨o, dx, a, b, rfl, upd_same, fun H3 k3 st3 => ⟨rfl, q o H3 (same_mk ho hd ne k3) ho st3⟩⟩
    | ren ss es =>
      obtain ⟨t, u, h1, ht, hu⟩ := hd
      refine ⟨_, rfl, d, _, _, _, rfl, rfl, SqT.of h1, rfl, rfl, _, rfl, if_f (show decide (V.str (Str.ofString "rename") = V.str (Str.ofString "split")) = false by decide +kernel) ?_⟩
      refine ⟨_, rfl, d, _, _, _, rfl, rfl, SqT.of h1, rfl, rfl, _, rfl, if_f (show decide (V.str (Str.ofString "rename") = V.str (Str.ofString "merge")) = false by decide +kernel) ?_⟩
      refine ⟨_, rfl, d, _, _, _, rfl, rfl, SqT.of h1, rfl, _, rfl, d, _, _, _, rfl, rfl, SqT.of h1, rfl, fun o dx ho hd ne => ?_⟩
      refine ⟨o, dx, t, u, ss, es, rfl, upd_same, (by show upd _ o _ t = _; rw [upd_ne (ne_of_none ht ho), upd_ne (ne_of_none ht hd)]; exact ht), (by show upd _ o _ u = _; rw [upd_ne (ne_of_none hu ho), upd_ne (ne_of_none hu hd)]; exact hu), fun H4 k4 st4 => ⟨rfl, q o H4 (same_mk ho hd ne k4) ho st4⟩⟩
/-- one word -/
theorem wrd {H : Hp} {v : V} {tx : Str} {v0 v1 v3 v4 : Option V} {Q : VK} (h : PartAt H v tx) (q : ∀ H', Same H H' → Q (.str tx) H') : tWrd K [v0, v1, some v, v3, v4] H Q := by
  rcases h with ⟨z, rfl, m, rfl⟩ | ⟨t, xs, rfl, ht, m, rfl⟩
  · refine ⟨_, rfl, _, _, _, _, false, rfl, .ty "tuple", .base (.int z), kit_ty (by decide +kernel), _, rfl, if_f rfl ?_⟩
    exact ⟨_, rfl, z, rfl, log_sm m, q H fun _ _ e => e⟩
  · refine ⟨_, rfl, _, _, _, _, true, rfl, .ty "tuple", .base (.tup ht), kit_ty (by decide +kernel), _, rfl, if_t rfl ?_⟩
    refine ⟨rfl, _, rfl, t, _, SqT, rfl, .inr rfl, SqT.of ht, fun J w D hD => ?_⟩
    refine lc_it w (fun i H' => Same H H' ∧ H' D = some (.lst (((xs.take i).map itx).map V.str))) ⟨same_upd hD, upd_same⟩ (fun i H' _ p => SqT.of (p.1 _ _ ht)) ?_ ?_
    · rintro i x H1 H2 hi ⟨sm1, eD⟩ ⟨rfl, gx⟩
      rw [List.getElem?_map] at gx
      obtain ⟨z, hz, rfl⟩ := Option.map_eq_some_iff.mp gx
      refine ⟨rfl, ?_⟩
      have hl := m.len
      refine ⟨_, rfl, z, rfl, log_sm (m.all z (List.mem_of_getElem? hz)), _, eD, ?_, ?_, ?_⟩
      · rw [List.length_map, List.length_map, List.length_take]
        exact small1000 (by omega)
      · intro b o e
        rw [upd_ne (ne_of_none e hD)]
        exact sm1 _ _ e
      · rw [upd_same, List.take_add_one, hz, List.map_append, List.map_append]
        rfl
    · rintro H1 ⟨sm1, eD⟩
      rw [List.length_map, List.take_length] at eD
      refine ⟨_, D, xs.map itx, rfl, rfl, .inl (SqL.of eD), ?_, q H1 sm1⟩
      have h1 := sum_itx m.all
      have h2 := m.len
      rw [List.length_map]
      have h3 : (Str.ofString ",").length = 1 := by decide +kernel
      rw [h3]
      omega
/-- the parts of a described step -/
theorem parts {H : Hp} {d : Addr} {x : Sd} (h : SdAt H d x) (m : x.Sm) : ∃ u v, H d = some (.tup [.str x.w1, u, v]) ∧ PartAt H u x.w2 ∧ PartAt H v x.w3 := by
  cases x with
  | spl s ps =>
    obtain ⟨t, h1, ht⟩ := h
    exact ⟨_, _, h1, .inl ⟨s, rfl, m.1, rfl⟩, .inr ⟨t, ps, rfl, ht, m.2, rfl⟩⟩
  | mrg a b => exact ⟨_, _, h, .inl ⟨a, rfl, m.1, rfl⟩, .inl ⟨b, rfl, m.2, rfl⟩⟩
  | ren ss es =>
    obtain ⟨t, u, h1, ht, hu⟩ := h
    exact ⟨_, _, h1, .inr ⟨t, ss, rfl, ht, m.1, rfl⟩, .inr ⟨u, es, rfl, hu, m.2, rfl⟩⟩
theorem tx_join (x : Sd) : Txt.join " " [x.w1, x.w2, x.w3] = x.tx := by
  rw [join3]
  cases x with
  | spl s ps =>
    show Str.ofString "split" ++ Str.ofString " " ++ itx s ++ Str.ofString " " ++ ntx ps = Str.empty ++ Str.ofString "split " ++ itx s ++ Str.ofString " " ++ ntx ps
    rw [show Str.ofString "split" ++ Str.ofString " " = Str.empty ++ Str.ofString "split " by decide +kernel]
  | mrg a b =>
    show Str.ofString "merge" ++ Str.ofString " " ++ itx a ++ Str.ofString " " ++ itx b = Str.empty ++ Str.ofString "merge " ++ itx a ++ Str.ofString " " ++ itx b
    rw [show Str.ofString "merge" ++ Str.ofString " " = Str.empty ++ Str.ofString "merge " by decide +kernel]
  | ren ss es =>
    show Str.ofString "rename" ++ Str.ofString " " ++ ntx ss ++ Str.ofString " " ++ ntx es = Str.empty ++ Str.ofString "rename " ++ ntx ss ++ Str.ofString " " ++ ntx es
    rw [show Str.ofString "rename" ++ Str.ofString " " = Str.empty ++ Str.ofString "rename " by decide +kernel]
theorem w1_len (x : Sd) : x.w1.length ≤ 6 := by
  cases x
  · show (Str.ofString "split").length ≤ 6; decide +kernel
  · show (Str.ofString "merge").length ≤ 6; decide +kernel
  · show (Str.ofString "rename").length ≤ 6; decide +kernel
set_option maxHeartbeats 4000000 in
theorem ok_stt (F : Fun K "_law_step_text" "_law_step_text" sStT f fd) (T : Bi mg) : FnOk P w K mg base CX0 (k + 1) f fd ["_law_step_here"] spStT := by
  refine F.ok scStT (fun vs H Q E h => ?_) (fun cdv A outer s H vs Q E hr h => ?_)
  · obtain ⟨d, x, rfl, _⟩ := h
    rfl
  · obtain ⟨d, x, rfl, hd, m, q⟩ := h
    obtain ⟨u, v, h1, pu, pw⟩ := parts hd m
    refine ⟨_, pss_cons (ps_set (i := 1) scStT.nd rfl (.inl rfl) (pe_lst (pa_cons (pe_ix ix_tup (pv 0) pe_int (fun _ _ => rfl)) (pa_cons (pe_ix ix_tup (pv 0) pe_int (fun _ _ => rfl)) pa_nil))))
      (pss_cons (ps_setLc (i := 4) (own := [("_law_part", 2)]) (g := gName 2) (tt := tYes) (te := tWrd K) rfl scStT.nd rfl rfl (sw_true rfl rfl rfl (by decide +kernel)) (pi_seqA (pv 1)) (blkOk_by (N := NSt) (sc := defScope sStT) (by decide +kernel))
        (fun _ _ _ _ _ => by exact pg_name (i := 2) scStT.nd rfl (Or.inl rfl)) (fun _ _ _ _ _ => pts_nil)
        (fun _ _ _ _ _ => by exact (pe_ifExp (pt_val (pe_callB call_isi (by rfl) T.isi (by decide +kernel) (pa_cons (pv 2) (pa_cons (pe_bltn (v := .ty "tuple") (by rfl) T.tuple (by decide +kernel) rfl) pa_nil))))
          (pe_bm PySem.F.plainAttrs_str PySem.F.slot_str_join PySem.F.type_str_join mt_join pe_str (pa_cons
            (pe_lc (own := [("_law_k", 3)]) (g := gName 3) (tt := tYes) (te := tCB rStrI (tCons (tVar 3) tNil)) rfl scStT.nd (pi_seqA (pv 2)) (blkOk_by (N := NSt) (sc := scT1) (by decide +kernel))
              (fun _ _ _ _ _ => by exact pg_name (i := 3) scStT.nd rfl (Or.inl rfl)) (fun _ _ _ _ _ => pts_nil)
              (fun _ _ _ _ _ => by exact pe_callTy call_str_int (by rfl) T.str (by decide +kernel) (pa_cons (pv 3) pa_nil))) pa_nil))
          (pe_callTy call_str_int (by rfl) T.str (by decide +kernel) (pa_cons (pv 2) pa_nil)))))
      (pss_one (ps_ret (pe_bm PySem.F.plainAttrs_str PySem.F.slot_str_join PySem.F.type_str_join mt_join pe_str (pa_cons (pe_op op_cat (pe_lst (pa_cons (pe_ix ix_tup (pv 0) pe_int (fun _ _ => rfl)) pa_nil)) (pv 4)) pa_nil))))), ?_⟩
    refine ⟨_, rfl, d, _, _, _, rfl, rfl, SqT.of h1, rfl, _, rfl, d, _, _, _, rfl, rfl, SqT.of h1, rfl, (by show 2 ≤ sizeLine; decide), fun p hp => ?_⟩
    have s1 := same_upd (o := .lst [u, v]) hp
    have e1 : upd H p (.lst [u, v]) p = some (.lst [u, v]) := upd_same
    generalize upd H p (.lst [u, v]) = H1 at *
    refine ⟨_, rfl, p, _, SqL, rfl, .inl rfl, SqL.of e1, fun J w D hD => ?_⟩
    refine lc_it w (fun i H' => Same H1 H' ∧ H' D = some (.lst ((([x.w2, x.w3] : List Str).take i).map V.str))) ⟨same_upd hD, upd_same⟩ (fun i H' _ p => SqL.of (p.1 _ _ e1)) ?_ ?_
    · rintro i y H2 H3 hi ⟨s2, eD⟩ ⟨rfl, gx⟩
      have hi : i < 2 := hi
      refine ⟨rfl, yes_if ?_⟩
      have go : ∀ tx : Str, PartAt H3 y tx → (([x.w2, x.w3] : List Str).take (i + 1)) = (([x.w2, x.w3] : List Str).take i) ++ [tx] → tWrd K [some (.ref d), some (.ref p), some y, none, none] H3 fun y H4 => ∃ acc, H4 D = some (.lst acc) ∧ acc.length < sizeLine ∧ Same H1 (upd H4 D (.lst (acc ++ [y]))) ∧ upd H4 D (.lst (acc ++ [y])) D = some (.lst ((([x.w2, x.w3] : List Str).take (i + 1)).map V.str)) := by
        intro tx pt e
        refine wrd pt fun H4 s4 => ?_
        refine ⟨_, s4 _ _ eD, ?_, ?_, ?_⟩
        · rw [List.length_map, List.length_take]
          exact small1000 (by omega)
        · intro c o ec
          rw [upd_ne (ne_of_none ec hD)]
          exact s4 _ _ (s2 _ _ ec)
        · rw [upd_same, e, List.map_append]
          rfl
      have s3 := s1.trans s2
      match i, hi, gx with
      | 0, _, gx => exact go x.w2 (by rw [← Option.some.inj gx]; exact pu.same s3) rfl
      | 1, _, gx => exact go x.w3 (by rw [← Option.some.inj gx]; exact pw.same s3) rfl
    · rintro H2 ⟨s2, eD⟩
      have s3 := s1.trans s2
      refine ⟨rfl, _, rfl, d, _, _, _, rfl, rfl, SqT.of (s3 _ _ h1), rfl, (by show 1 ≤ sizeLine; decide), fun l hl => ?_⟩
      have s4 := s3.trans (same_upd (o := .lst [.str x.w1]) hl)
      have e4 := same_upd (o := .lst [.str x.w1]) hl _ _ eD
      have e5 : upd H2 l (.lst [.str x.w1]) l = some (.lst [.str x.w1]) := upd_same
      generalize upd H2 l (.lst [.str x.w1]) = H4 at *
      refine ⟨_, rfl, l, D, _, _, rfl, rfl, e5, e4, (by show 3 ≤ sizeLine; decide), fun r hr => ?_⟩
      have s6 := s4.trans (same_upd (o := .lst [.str x.w1, .str x.w2, .str x.w3]) hr)
      refine ⟨_, r, [x.w1, x.w2, x.w3], rfl, rfl, .inl (SqL.of upd_same), ?_, ?_⟩
      · have a := w1_len x
        have b := pu.len
        have c := pw.len
        have h3 : (Str.ofString " ").length = 1 := by decide +kernel
        show (x.w1.length + (x.w2.length + (x.w3.length + 0))) + 3 * (Str.ofString " ").length ≤ 16777216
        rw [h3]
        omega
      · rw [tx_join]
        exact q _ s6
end
end Lw

set_option Elab.async false
set_option linter.all false
set_option maxRecDepth 100000
/-! a step with odd numbers -/
namespace Lw
open PySem L2
abbrev sOdd : Stmt := top 27
def spOdd : Sp := fun vs H Q _ => ∃ (b l p q : Addr) (ns : List Int) (n : Int) (ts : Es), vs = [.ref b, .ref p] ∧ BagAt H b l ns ∧ PlanAt H p q n ts ∧ n ≤ 4 ∧ ts.length ≤ 9 ∧
  ∀ (d : Addr) (H' : Hp) (x : Sd), KeepB b H H' → BagAt H' b l ns → SdAt H' d x → x.Sm → Q (.ref d) H'
/-- a list of described steps -/
structure SL (b : Addr) (H : Hp) (L : Addr) (ds : List (Addr × Sd)) : Prop where
  ls : H L = some (.lst (ds.map fun e => V.ref e.1))
  nb : L ≠ b
  al : ∀ e ∈ ds, SdAt H e.1 e.2 ∧ e.2.Sm
theorem SL.keep {b l L : Addr} {H H' : Hp} {ns : List Int} {ds : List (Addr × Sd)} (h : SL b H L ds) (B : BagAt H b l ns) (k : KeepB b H H') : SL b H' L ds := ⟨k _ _ h.nb h.ls, h.nb, fun e he => ⟨(h.al e he).1.keep B k, (h.al e he).2⟩⟩
theorem sm_small {z : Int} (h1 : -1 ≤ z) (h2 : z ≤ 1000) : SmI z := Nat.lt_of_lt_of_le (show z.natAbs < 1001 by omega) (by decide +kernel)
theorem sm_big : SmI (10 ^ (20 : Int).toNat) := by
  show ((10 : Int) ^ (20 : Int).toNat).natAbs < 10 ^ 100
  decide +kernel
theorem sm_rng {xs : List Int} {m : Int} (h : Rng m xs) (hm : m ≤ 1000) : ∀ z ∈ xs, SmI z := fun z hz => by
  have := h z hz
  exact sm_small (by omega) (by omega)
/-- a piece of a list of ints -/
theorem cut_ints (es : List Int) (lo hi : Option Int) : ∃ fs : List Int, cutV (es.map V.int) lo hi = fs.map V.int ∧ fs.length ≤ es.length ∧ ∀ z ∈ fs, z ∈ es := by
  unfold cutV
  rw [← List.map_drop, ← List.map_take]
  refine ⟨_, rfl, ?_, fun z hz => List.mem_of_mem_drop (List.mem_of_mem_take hz)⟩
  rw [List.length_take, List.length_drop]
  omega
abbrev NOd : List Str := ["_law_bag_here", "_law_plan_here", "_law_size", "_law_many", "_law_k", "_law_some", "_law_odd", "_law_edges", "_law_steps"]
theorem four' : 4 ≤ sizeLine := by decide
theorem two' : 2 ≤ sizeLine := by decide
section
variable {P : Program} {w : World} {K : PySem.W.Frag} {mg : Str → Option Value} {base : Heap} {f : Addr} {fd : FuncData} {k : Nat}
theorem scOdd : FnScope NOd ["_law_bag_here", "_law_plan_here"] (defScope sOdd) := ⟨rfl, rfl, rfl, by decide +kernel, rfl, by decide +kernel, by decide +kernel⟩
theorem srt {w' : World} {H : Hp} {S : Addr} {xs : List Int} {Q : VK} (h : H S = some (.lst (xs.map V.int))) (hl : xs.length ≤ 60) (q : ∀ (p : Addr) (ys : List Int) (H' : Hp), Same H H' → H' p = some (.lst (ys.map V.int)) → ys.length ≤ xs.length → (∀ z ∈ ys, z ∈ xs) → Q (.ref p) H') :
    SetL.rSetL K w' [.ref S] H (fun v H1 => rSortedSet w' [v] H1 Q) := by
  refine ⟨S, xs, rfl, SqL.of h, hl, fun st c hst hc => ?_⟩
  have s7 := same_upd (o := SetO w' st (fun j => decide (j ∈ xs)) c) hst
  refine ⟨st, _, c, rfl, upd_same, by omega, fun ys p pw my ly hp => ?_⟩
  exact q p ys _ (s7.trans (same_upd hp)) upd_same (by omega) fun z hz => of_decide_eq_true ((my z).mp hz)
set_option maxHeartbeats 16000000 in
theorem ok_odd (F : Fun K "_law_odd_step" "_law_odd_step" sOdd f fd) (T : Bi mg) (tS : mg "set" = none) (tO : mg "sorted" = none) (cP : C8.Cal P w K mg base 1 "_law_pull" spPull []) (cO : C8.Cal P w K mg base 2 "_law_of" (spOf K) []) (cS : C8.Cal P w K mg base 2 "_law_shuffled" spShuf []) :
    FnOk P w K mg base CX0 (k + 3) f fd ["_law_bag_here", "_law_plan_here"] spOdd := by
  refine F.ok scOdd (fun vs H Q E h => ?_) (fun cdv A outer s H vs Q E hr h => ?_)
  · obtain ⟨b, l, p, q, ns, n, ts, rfl, _⟩ := h
    rfl
  · obtain ⟨b, l, p, q, ns, n, ts, rfl, B, PA, hn, ht9, qq⟩ := h
    have n1 := PA.n1
    have lvs : (vsOf ts).length = ts.length := by
      unfold vsOf
      rw [List.length_map]
    have t1 : 1 ≤ ts.length := by
      obtain ⟨e, he, _⟩ := PA.va.sr 0 (Int.le_refl 0) (by omega)
      exact List.length_pos_of_mem he
    refine ⟨_, pss_cons (ps_asg (pe_tup (pa_cons (pe_ix ix_tup (pv 1) pe_int (fun _ _ => rfl)) (pa_cons (pe_callB call_len_seq (by rfl) T.len PySem.boot_len (pa_cons (pe_ix ix_tup (pv 1) pe_int (fun _ _ => rfl)) pa_nil)) pa_nil))) (pg_tup rfl (pgs_cons (pg_name (i := 2) scOdd.nd rfl (.inl rfl)) (pgs_cons (pg_name (i := 3) scOdd.nd rfl (.inr rfl)) pgs_nil))))
      (C8.pss_cut (ps_setLc (i := 5) (own := [("_law_k", 4)]) (g := gName 4) (tt := tYes) (te := tCall spPull [] E0 (tCons (tVar 0) (tCons (tVar 3) tNil))) rfl scOdd.nd rfl rfl (sw_true rfl rfl rfl (by decide +kernel)) (pi_range1 (by rfl) T.range (pa_cons (C8.pe_c cP hr (by omega) (by rfl) (pa_cons (pv 0) (pa_cons pe_int pa_nil))) pa_nil)) (blkOk_by (N := NOd) (sc := defScope sOdd) (by decide +kernel))
          (fun _ _ _ _ _ => by exact pg_name (i := 4) scOdd.nd rfl (Or.inl rfl)) (fun _ _ _ _ _ => pts_nil)
          (fun _ _ _ _ _ => by exact C8.pe_c cP hr (by omega) (by rfl) (pa_cons (pv 0) (pa_cons (pv 3) pa_nil))))
      (C8.pss_cut (ps_set (i := 6) scOdd.nd rfl (.inl rfl) (C8.pe_c cO hr (by omega) (by rfl) (pa_cons (pv 0) (pa_cons (pe_lst (pa_cons (pe_un un_neg pe_int) (pa_cons (pv 2) (pa_cons (pe_op op_pow pe_int pe_int) (pa_cons (C8.pe_c cP hr (by omega) (by rfl) (pa_cons (pv 0) (pa_cons (pv 2) pa_nil))) pa_nil))))) pa_nil))))
      (pss_cons (ps_set (i := 7) scOdd.nd rfl (.inl rfl) (pe_callTy call_list_of (by rfl) T.list (by decide +kernel) (pa_cons (C8.pe_c cS hr (by omega) (by rfl) (pa_cons (pv 0) (pa_cons (pv 3) pa_nil))) pa_nil)))
      (C8.pss_cut (ps_if (pt_cmpR op_eq (C8.pe_c cP hr (by omega) (by rfl) (pa_cons (pv 0) (pa_cons pe_int pa_nil))) pe_int (nomark _))
          (pss_one (ps_set (i := 7) scOdd.nd rfl (.inl rfl) (pe_op op_cat (pe_slice sl_list (pv 7) po_none (po_some (pe_un un_neg pe_int))) (pe_lst (pa_cons (C8.pe_c cO hr (by omega) (by rfl) (pa_cons (pv 0) (pa_cons (pe_lst (pa_cons pe_int (pa_cons (pv 3) (pa_cons (pe_un un_neg pe_int) (pa_cons (pe_op op_pow pe_int pe_int) pa_nil))))) pa_nil))) pa_nil))))) pss_nil)
      (C8.pss_cut (ps_set (i := 8) scOdd.nd rfl (.inl rfl) (pe_lst (pa_cons (pe_tup (pa_cons pe_str (pa_cons (pv 6) (pa_cons (pe_callTy call_tuple_of (by rfl) T.tuple (by decide +kernel) (pa_cons (pe_callB (cr_sortedSet rfl) (by rfl) tO (by decide +kernel) (pa_cons (pe_callTy (SetL.cr_setL rfl) (by rfl) tS (by decide +kernel) (pa_cons (pv 5) pa_nil)) pa_nil)) pa_nil)) pa_nil))))
          (pa_cons (pe_tup (pa_cons pe_str (pa_cons (C8.pe_c cP hr (by omega) (by rfl) (pa_cons (pv 0) (pa_cons (pv 2) pa_nil))) (pa_cons (pe_callTy call_tuple_of (by rfl) T.tuple (by decide +kernel) (pa_cons (pv 5) pa_nil)) pa_nil)))) pa_nil))))
      (C8.pss_cut (ps_set (i := 8) scOdd.nd rfl (.inl rfl) (pe_op op_cat (pv 8) (pe_lst (pa_cons (pe_tup (pa_cons pe_str (pa_cons (pv 6) (pa_cons (C8.pe_c cP hr (by omega) (by rfl) (pa_cons (pv 0) (pa_cons (pv 2) pa_nil))) pa_nil))))
          (pa_cons (pe_tup (pa_cons pe_str (pa_cons (C8.pe_c cP hr (by omega) (by rfl) (pa_cons (pv 0) (pa_cons (pv 2) pa_nil))) (pa_cons (C8.pe_c cP hr (by omega) (by rfl) (pa_cons (pv 0) (pa_cons (pv 2) pa_nil))) pa_nil)))) pa_nil)))))
      (pss_one (ps_ret (C8.pe_c cO hr (by omega) (by rfl) (pa_cons (pv 0) (pa_cons (pe_op op_cat (pv 8) (pe_lst (pa_cons (pe_tup (pa_cons pe_str (pa_cons (C8.pe_c cS hr (by omega) (by rfl) (pa_cons (pv 0) (pa_cons (pv 2) pa_nil))) (pa_cons (pe_callTy call_tuple_of (by rfl) T.tuple (by decide +kernel) (pa_cons (pv 7) pa_nil)) pa_nil))))
          (pa_cons (pe_tup (pa_cons pe_str (pa_cons (pe_tup (pa_cons pe_int (pa_cons pe_int pa_nil))) (pa_cons (pe_tup (pa_cons pe_int pa_nil)) pa_nil)))) pa_nil)))) pa_nil))))))))))), ?_⟩
    refine ⟨_, rfl, p, _, _, _, rfl, rfl, SqT.of PA.tp, rfl, _, rfl, p, _, _, _, rfl, rfl, SqT.of PA.tp, rfl, q, _, rfl, .inl (SqL.of PA.ls), two', fun tp htp => ?_⟩
    refine ⟨tp, _, rfl, SqT.of upd_same, rfl, _, _, rfl, _, _, rfl, rfl, ?_⟩
    rw [lvs]
    have s1 := same_upd (o := .tup [.int n, .int (ts.length : Int)]) htp
    have B := B.same s1
    generalize upd H tp (.tup [.int n, .int (ts.length : Int)]) = H1 at *
    -- some edges
    refine ⟨fun σ H' => ∃ (S : Addr) (xs : List Int), σ = [some (.ref b), some (.ref p), some (.int n), some (.int (ts.length : Int)), none, some (.ref S), none, none, none] ∧ KeepB b H H' ∧ BagAt H' b l ns ∧ H' S = some (.lst (xs.map V.int)) ∧ S ≠ b ∧ xs.length ≤ 4 ∧ Rng (ts.length : Int) xs, ?_, ?_⟩
    · refine ⟨_, rfl, b, l, ns, 4, rfl, B, by decide, by decide, fun v o v0 v1 BO => ⟨v, rfl, by omega, by omega, fun D hD => ?_⟩⟩
      have B2 := B.upd BO
      have k2 : KeepB b H (upd H1 b o) := (KeepB.of_same s1).trans .updb
      generalize upd H1 b o = H2 at *
      have nD := B2.ne_new hD
      refine lc_it (walk_range (lo := 0) (n := v.toNat)) (fun i H' => ∃ xs : List Int, KeepB b H2 H' ∧ BagAt H' b l ns ∧ H' D = some (.lst (xs.map V.int)) ∧ xs.length ≤ i ∧ Rng (ts.length : Int) xs) ⟨[], .of_same (same_upd hD), B2.new hD, upd_same, Nat.le_refl _, fun z hz => by cases hz⟩ (fun _ _ _ _ => True.intro) ?_ ?_
      · rintro i x H3 H4 hi ⟨xs, k3, B3, eD, lx, rg⟩ ⟨rfl, rfl⟩
        refine ⟨rfl, ?_⟩
        refine ⟨_, rfl, _, rfl, b, l, ns, _, rfl, B3, by omega, by omega, fun u o2 u0 u1 BO2 => ?_⟩
        have B4 := B3.upd BO2
        have k4 := k3.trans (KeepB.updb (o := o2))
        have eD := KeepB.updb (o := o2) _ _ nD eD
        generalize upd H4 b o2 = H5 at *
        refine ⟨_, eD, ?_, xs ++ [u], k4.at hD, B4.off nD (ne_of_none B2.sc hD).symm, ?_, ?_, ?_⟩
        · rw [List.length_map]
          exact small1000 (by omega)
        · rw [upd_same, List.map_append]
          rfl
        · rw [List.length_append, List.length_singleton]
          omega
        · intro z hz
          rcases List.mem_append.mp hz with hz | hz
          · exact rg z hz
          · rw [List.mem_singleton.mp hz]
            exact ⟨u0, u1⟩
      · rintro H3 ⟨xs, k3, B3, eD, lx, rg⟩
        exact ⟨D, xs, rfl, k2.trans k3, B3, eD, nD, by omega, rg⟩
    rintro _ H2 ⟨S, xs, rfl, k2, B2, eS, nS, lx, rgx⟩
    -- an odd state
    refine ⟨fun σ H' => ∃ (od : Int), σ = [some (.ref b), some (.ref p), some (.int n), some (.int (ts.length : Int)), none, some (.ref S), some (.int od), none, none] ∧ KeepB b H H' ∧ BagAt H' b l ns ∧ H' S = some (.lst (xs.map V.int)) ∧ SmI od, ?_, ?_⟩
    · refine ⟨_, rfl, _, rfl, _, rfl, _, _, rfl, rfl, ⟨by decide, by decide, by decide⟩, _, rfl, _, rfl, b, l, ns, n, rfl, B2, by omega, by omega, fun v o v0 v1 BO => ⟨four', fun t ht => ?_⟩⟩
      have B3 := B2.upd BO
      have k3 := k2.trans (KeepB.updb (o := o))
      have eS := KeepB.updb (o := o) _ _ nS eS
      generalize upd H2 b o = H3 at *
      refine ⟨b, l, t, ns, _, rfl, B3.new ht, SqL.of upd_same, B3.ne_new ht, by simp, (by show 4 ≤ 1000; decide), fun i u o2 hu BO2 => ?_⟩
      have B4 := (B3.new (o := .lst [.int (-1), .int n, .int (10 ^ (20 : Int).toNat), .int v]) ht).upd BO2
      have k4 := (k3.new (o := .lst [.int (-1), .int n, .int (10 ^ (20 : Int).toNat), .int v]) ht).trans (KeepB.updb (o := o2))
      have eS := KeepB.updb (o := o2) _ _ nS (same_upd (o := .lst [.int (-1), .int n, .int (10 ^ (20 : Int).toNat), .int v]) ht _ _ eS)
      have go : ∃ z, u = .int z ∧ SmI z := by
        match i, hu with
        | 0, hu => exact ⟨-1, (Option.some.inj hu).symm, sm_small (by decide) (by decide)⟩
        | 1, hu => exact ⟨n, (Option.some.inj hu).symm, sm_small (by omega) (by omega)⟩
        | 2, hu => exact ⟨_, (Option.some.inj hu).symm, sm_big⟩
        | 3, hu => exact ⟨v, (Option.some.inj hu).symm, sm_small (by omega) (by omega)⟩
        | i + 4, hu => cases hu
      obtain ⟨z, rfl, sz⟩ := go
      exact ⟨z, rfl, k4, B4, eS, sz⟩
    rintro _ H3 ⟨od, rfl, k3, B3, eS, so⟩
    -- the edges
    refine ⟨_, rfl, _, rfl, b, l, ns, ts.length, rfl, B3, by omega, fun t H4 es k4 B4 ti hl rg => ?_⟩
    have eS := k4 _ _ nS eS
    have k4 := k3.trans k4
    refine ⟨t, _, rfl, .inr (SqT.of ti), fun Eg hE => ?_⟩
    have eE : upd H4 Eg (.lst (es.map V.int)) Eg = some (.lst (es.map V.int)) := upd_same
    have nE := B4.ne_new hE
    have B5 := B4.new (o := .lst (es.map V.int)) hE
    have k5 := k4.new (o := .lst (es.map V.int)) hE
    have eS := same_upd (o := .lst (es.map V.int)) hE _ _ eS
    have smE : SmL es := ⟨by omega, sm_rng rg (by omega)⟩
    generalize upd H4 Eg (.lst (es.map V.int)) = H5 at *
    refine ⟨fun σ H' => ∃ (G : Addr) (fs : List Int), σ = [some (.ref b), some (.ref p), some (.int n), some (.int (ts.length : Int)), none, some (.ref S), some (.int od), some (.ref G), none] ∧ KeepB b H H' ∧ BagAt H' b l ns ∧ H' S = some (.lst (xs.map V.int)) ∧ H' G = some (.lst (fs.map V.int)) ∧ G ≠ b ∧ SmL fs, ?_, ?_⟩
    · refine ⟨_, rfl, b, l, ns, 2, rfl, B5, by decide, by decide, fun v o v0 v1 BO => ?_⟩
      have B6 := B5.upd BO
      have k6 := k5.trans (KeepB.updb (o := o))
      have eS := KeepB.updb (o := o) _ _ nS eS
      have eE := KeepB.updb (o := o) _ _ nE eE
      generalize upd H5 b o = H6 at *
      refine ⟨rfl, _, rfl, ite2 (fun h => ?_) (fun h => ⟨Eg, es, rfl, k6, B6, eS, eE, nE, smE⟩)⟩
      obtain ⟨fs, hfs, lfs, mfs⟩ := cut_ints es none (some (-1))
      refine ⟨_, rfl, _, rfl, _, rfl, Eg, _, rfl, SqL.of eE, fun G1 hG1 => ?_⟩
      rw [hfs]
      have B7 := B6.new (o := .lst (fs.map V.int)) hG1
      have k7 := k6.new (o := .lst (fs.map V.int)) hG1
      have eS := same_upd (o := .lst (fs.map V.int)) hG1 _ _ eS
      have eG : upd H6 G1 (.lst (fs.map V.int)) G1 = some (.lst (fs.map V.int)) := upd_same
      have nG := B6.ne_new hG1
      generalize upd H6 G1 (.lst (fs.map V.int)) = H7 at *
      refine ⟨_, rfl, _, rfl, _, rfl, _, _, rfl, rfl, ⟨by decide, by decide, by decide⟩, four', fun t2 ht2 => ?_⟩
      refine ⟨b, l, t2, ns, _, rfl, B7.new ht2, SqL.of upd_same, B7.ne_new ht2, by simp, (by show 4 ≤ 1000; decide), fun i u o2 hu BO2 => ?_⟩
      have B8 := (B7.new (o := .lst [.int 0, .int (ts.length : Int), .int (-1), .int (10 ^ (20 : Int).toNat)]) ht2).upd BO2
      have k8 := (k7.new (o := .lst [.int 0, .int (ts.length : Int), .int (-1), .int (10 ^ (20 : Int).toNat)]) ht2).trans (KeepB.updb (o := o2))
      have eS := KeepB.updb (o := o2) _ _ nS (same_upd (o := .lst [.int 0, .int (ts.length : Int), .int (-1), .int (10 ^ (20 : Int).toNat)]) ht2 _ _ eS)
      have eG := KeepB.updb (o := o2) _ _ nG (same_upd (o := .lst [.int 0, .int (ts.length : Int), .int (-1), .int (10 ^ (20 : Int).toNat)]) ht2 _ _ eG)
      generalize upd (upd H7 t2 (.lst [.int 0, .int (ts.length : Int), .int (-1), .int (10 ^ (20 : Int).toNat)])) b o2 = H8 at *
      have go : ∃ z, u = .int z ∧ SmI z := by
        match i, hu with
        | 0, hu => exact ⟨0, (Option.some.inj hu).symm, sm_small (by decide) (by decide)⟩
        | 1, hu => exact ⟨_, (Option.some.inj hu).symm, sm_small (by omega) (by omega)⟩
        | 2, hu => exact ⟨-1, (Option.some.inj hu).symm, sm_small (by decide) (by decide)⟩
        | 3, hu => exact ⟨_, (Option.some.inj hu).symm, sm_big⟩
        | i + 4, hu => cases hu
      obtain ⟨z, rfl, sz⟩ := go
      refine ⟨(by show 1 ≤ sizeLine; decide), fun t3 ht3 => ?_⟩
      have B9 := B8.new (o := .lst [.int z]) ht3
      have k9 := k8.new (o := .lst [.int z]) ht3
      have eS := same_upd (o := .lst [.int z]) ht3 _ _ eS
      have eG := same_upd (o := .lst [.int z]) ht3 _ _ eG
      have e3 : upd H8 t3 (.lst [.int z]) t3 = some (.lst [.int z]) := upd_same
      generalize upd H8 t3 (.lst [.int z]) = H9 at *
      refine ⟨G1, t3, _, _, rfl, rfl, eG, e3, ?_, fun G2 hG2 => ?_⟩
      · rw [List.length_map]
        exact Nat.le_of_lt (small1000 (by show fs.length + 1 ≤ 1000; omega))
      refine ⟨G2, fs ++ [z], rfl, k9.new hG2, B9.new hG2, same_upd hG2 _ _ eS, ?_, B9.ne_new hG2, ⟨?_, ?_⟩⟩
      · rw [upd_same, List.map_append]
        rfl
      · rw [List.length_append, List.length_singleton]
        omega
      · intro y hy
        rcases List.mem_append.mp hy with hy | hy
        · exact smE.all y (mfs y hy)
        · rw [List.mem_singleton.mp hy]
          exact sz
    rintro _ H6 ⟨G, fs, rfl, k6, B6, eS, eG, nG, smF⟩
    have smX : SmL xs := ⟨by omega, sm_rng rgx (by omega)⟩
    -- two splits
    refine ⟨fun σ H' => ∃ (L : Addr) (ds : List (Addr × Sd)), σ = [some (.ref b), some (.ref p), some (.int n), some (.int (ts.length : Int)), none, some (.ref S), some (.int od), some (.ref G), some (.ref L)] ∧ KeepB b H H' ∧ BagAt H' b l ns ∧ H' G = some (.lst (fs.map V.int)) ∧ SL b H' L ds ∧ ds.length = 2, ?_, ?_⟩
    · refine ⟨_, rfl, _, rfl, ?_⟩
      dsimp only [tNil]
      refine srt eS (by omega) fun so1 ys H8 s8 e8 ly my => ?_
      have smY : SmL ys := ⟨by omega, fun z hz => smX.all z (my z hz)⟩
      refine ⟨so1, _, rfl, .inl ⟨SqL.of e8, fun t1 ht1 => ⟨three, fun d1 hd1 => ?_⟩⟩⟩
      have s9 := s8.trans (same_upd (o := .tup (ys.map V.int)) ht1)
      have e9 : TI (upd H8 t1 (.tup (ys.map V.int))) t1 ys := upd_same
      generalize upd H8 t1 (.tup (ys.map V.int)) = H9 at *
      have a1 : SdAt (upd H9 d1 (.tup [.str "split", .int od, .ref t1])) d1 (.spl od ys) := ⟨t1, upd_same, e9.same (same_upd hd1)⟩
      have s10 := s9.trans (same_upd (o := .tup [.str "split", .int od, .ref t1]) hd1)
      generalize upd H9 d1 (.tup [.str "split", .int od, .ref t1]) = H10 at *
      have B10 := B6.same s10
      refine ⟨_, rfl, _, rfl, b, l, ns, n, rfl, B10, by omega, by omega, fun v o v0 v1 BO => ?_⟩
      have B11 := B10.upd BO
      have k11 := (k6.trans (.of_same s10)).trans (KeepB.updb (o := o))
      have eS := KeepB.updb (o := o) _ _ nS (s10 _ _ eS)
      have eG := KeepB.updb (o := o) _ _ nG (s10 _ _ eG)
      have a1 := a1.keep B10 (KeepB.updb (o := o))
      generalize upd H10 b o = H11 at *
      refine ⟨_, rfl, S, _, rfl, .inl ⟨SqL.of eS, fun t2 ht2 => ⟨three, fun d2 hd2 => ?_⟩⟩⟩
      have s12 := same_upd (o := .tup (xs.map V.int)) ht2
      have e12 : TI (upd H11 t2 (.tup (xs.map V.int))) t2 xs := upd_same
      generalize upd H11 t2 (.tup (xs.map V.int)) = H12 at *
      have a2 : SdAt (upd H12 d2 (.tup [.str "split", .int v, .ref t2])) d2 (.spl v xs) := ⟨t2, upd_same, e12.same (same_upd hd2)⟩
      have s13 := s12.trans (same_upd (o := .tup [.str "split", .int v, .ref t2]) hd2)
      generalize upd H12 d2 (.tup [.str "split", .int v, .ref t2]) = H13 at *
      refine ⟨two', fun L hL => ?_⟩
      have B13 := B11.same s13
      have s14 := same_upd (o := .lst [.ref d1, .ref d2]) hL
      refine ⟨L, [(d1, .spl od ys), (d2, .spl v xs)], rfl, (k11.trans (.of_same s13)).new hL, B13.new hL, s14 _ _ (s13 _ _ eG), ⟨upd_same, B13.ne_new hL, fun e he => ?_⟩, rfl⟩
      rcases List.mem_cons.mp he with rfl | he
      · exact ⟨(a1.same s13).same s14, so, smY⟩
      · rw [List.mem_singleton.mp he]
        exact ⟨a2.same s14, sm_small (by omega) (by omega), smX⟩
    rintro _ H7 ⟨L, ds, rfl, k7, B7, eG, sl, ld⟩
    -- two merges
    refine ⟨fun σ H' => ∃ (L : Addr) (ds : List (Addr × Sd)), σ = [some (.ref b), some (.ref p), some (.int n), some (.int (ts.length : Int)), none, some (.ref S), some (.int od), some (.ref G), some (.ref L)] ∧ KeepB b H H' ∧ BagAt H' b l ns ∧ H' G = some (.lst (fs.map V.int)) ∧ SL b H' L ds ∧ ds.length = 4, ?_, ?_⟩
    · refine ⟨_, rfl, _, rfl, _, rfl, _, rfl, b, l, ns, n, rfl, B7, by omega, by omega, fun v o v0 v1 BO => ⟨three, fun d1 hd1 => ?_⟩⟩
      have B8 := B7.upd BO
      have k8 := k7.trans (KeepB.updb (o := o))
      have eG := KeepB.updb (o := o) _ _ nG eG
      have sl := sl.keep B7 (KeepB.updb (o := o))
      generalize upd H7 b o = H8 at *
      have s9 := same_upd (o := .tup [.str "merge", .int od, .int v]) hd1
      have a1 : SdAt (upd H8 d1 (.tup [.str "merge", .int od, .int v])) d1 (.mrg od v) := upd_same
      have B9 := B8.same s9
      have k9 := k8.trans (.of_same s9)
      have eG := s9 _ _ eG
      have sl := sl.keep B8 (.of_same s9)
      generalize upd H8 d1 (.tup [.str "merge", .int od, .int v]) = H9 at *
      refine ⟨_, rfl, _, rfl, b, l, ns, n, rfl, B9, by omega, by omega, fun v2 o2 v20 v21 BO2 => ?_⟩
      have B10 := B9.upd BO2
      have k10 := k9.trans (KeepB.updb (o := o2))
      have eG := KeepB.updb (o := o2) _ _ nG eG
      have sl := sl.keep B9 (KeepB.updb (o := o2))
      have a1 := a1.keep B9 (KeepB.updb (o := o2))
      generalize upd H9 b o2 = H10 at *
      refine ⟨_, rfl, _, rfl, b, l, ns, n, rfl, B10, by omega, by omega, fun v3 o3 v30 v31 BO3 => ⟨three, fun d2 hd2 => ?_⟩⟩
      have B11 := B10.upd BO3
      have k11 := k10.trans (KeepB.updb (o := o3))
      have eG := KeepB.updb (o := o3) _ _ nG eG
      have sl := sl.keep B10 (KeepB.updb (o := o3))
      have a1 := a1.keep B10 (KeepB.updb (o := o3))
      generalize upd H10 b o3 = H11 at *
      have s12 := same_upd (o := .tup [.str "merge", .int v2, .int v3]) hd2
      have a2 : SdAt (upd H11 d2 (.tup [.str "merge", .int v2, .int v3])) d2 (.mrg v2 v3) := upd_same
      have B12 := B11.same s12
      have k12 := k11.trans (.of_same s12)
      have eG := s12 _ _ eG
      have sl := sl.keep B11 (.of_same s12)
      have a1 := a1.same s12
      generalize upd H11 d2 (.tup [.str "merge", .int v2, .int v3]) = H12 at *
      refine ⟨two', fun M hM => ?_⟩
      have s13 := same_upd (o := .lst [.ref d1, .ref d2]) hM
      have eM : upd H12 M (.lst [.ref d1, .ref d2]) M = some (.lst [.ref d1, .ref d2]) := upd_same
      have B13 := B12.same s13
      have k13 := k12.trans (.of_same s13)
      have eG := s13 _ _ eG
      have sl := sl.keep B12 (.of_same s13)
      have a1 := a1.same s13
      have a2 := a2.same s13
      generalize upd H12 M (.lst [.ref d1, .ref d2]) = H13 at *
      refine ⟨L, M, _, _, rfl, rfl, sl.ls, eM, ?_, fun N hN => ?_⟩
      · rw [List.length_map, ld]
        exact four'
      have s14 := same_upd (o := .lst ((ds.map fun e => V.ref e.1) ++ [.ref d1, .ref d2])) hN
      refine ⟨N, ds ++ [(d1, .mrg od v), (d2, .mrg v2 v3)], rfl, k13.trans (.of_same s14), B13.same s14, s14 _ _ eG, ⟨?_, B13.ne_new hN, fun e he => ?_⟩, by rw [List.length_append, ld]; rfl⟩
      · rw [upd_same, List.map_append]
        rfl
      rcases List.mem_append.mp he with he | he
      · exact ⟨(sl.al e he).1.same s14, (sl.al e he).2⟩
      rcases List.mem_cons.mp he with rfl | he
      · exact ⟨a1.same s14, so, sm_small (by omega) (by omega)⟩
      · rw [List.mem_singleton.mp he]
        exact ⟨a2.same s14, sm_small (by omega) (by omega), sm_small (by omega) (by omega)⟩
    rintro _ H8 ⟨L, ds, rfl, k8, B8, eG, sl, ld⟩
    -- one of six
    refine ⟨_, rfl, _, rfl, _, rfl, _, rfl, b, l, ns, n.toNat, (congrArg (fun z => [V.ref b, V.int z]) (Int.toNat_of_nonneg (by omega)).symm), B8, by omega, fun t1 H9 ss k9 B9 ti hl2 rg2 => ?_⟩
    have eG := k9 _ _ nG eG
    have sl := sl.keep B8 k9
    have k9 := k8.trans k9
    refine ⟨_, rfl, G, _, rfl, .inl ⟨SqL.of eG, fun t2 ht2 => ⟨three, fun d1 hd1 => ?_⟩⟩⟩
    have s10 := same_upd (o := .tup (fs.map V.int)) ht2
    have e10 : TI (upd H9 t2 (.tup (fs.map V.int))) t2 fs := upd_same
    generalize upd H9 t2 (.tup (fs.map V.int)) = H10 at *
    have s11 := s10.trans (same_upd (o := .tup [.str "rename", .ref t1, .ref t2]) hd1)
    have a1 : SdAt (upd H10 d1 (.tup [.str "rename", .ref t1, .ref t2])) d1 (.ren ss fs) := ⟨t1, t2, upd_same, ti.same s11, e10.same (same_upd hd1)⟩
    generalize upd H10 d1 (.tup [.str "rename", .ref t1, .ref t2]) = H11 at *
    refine ⟨two', fun t3 ht3 => ⟨(by show 1 ≤ sizeLine; decide), fun t4 ht4 => ⟨three, fun d2 hd2 => ⟨two', fun M hM => ?_⟩⟩⟩⟩
    have s12 := same_upd (o := .tup [.int 0, .int 0]) ht3
    have e12 : TI (upd H11 t3 (.tup [.int 0, .int 0])) t3 [0, 0] := upd_same
    generalize upd H11 t3 (.tup [.int 0, .int 0]) = H12 at *
    have s13 := same_upd (o := .tup [.int 0]) ht4
    have e13 : TI (upd H12 t4 (.tup [.int 0])) t4 [0] := upd_same
    generalize upd H12 t4 (.tup [.int 0]) = H13 at *
    have s14 := same_upd (o := .tup [.str "rename", .ref t3, .ref t4]) hd2
    have a2 : SdAt (upd H13 d2 (.tup [.str "rename", .ref t3, .ref t4])) d2 (.ren [0, 0] [0]) := ⟨t3, t4, upd_same, (e12.same s13).same s14, e13.same s14⟩
    have s24 := (s12.trans s13).trans s14
    generalize upd H13 d2 (.tup [.str "rename", .ref t3, .ref t4]) = H14 at *
    have s15 := same_upd (o := .lst [.ref d1, .ref d2]) hM
    have eM : upd H14 M (.lst [.ref d1, .ref d2]) M = some (.lst [.ref d1, .ref d2]) := upd_same
    generalize upd H14 M (.lst [.ref d1, .ref d2]) = H15 at *
    have sA := (s11.trans s24).trans s15
    have B15 := B9.same sA
    have k15 := k9.trans (.of_same sA)
    have sl := sl.keep B9 (.of_same sA)
    have a1 := (a1.same s24).same s15
    have a2 := a2.same s15
    refine ⟨L, M, _, _, rfl, rfl, sl.ls, eM, ?_, fun N hN => ?_⟩
    · rw [List.length_map, ld]
      show 6 ≤ sizeLine
      decide
    have s16 := same_upd (o := .lst ((ds.map fun e => V.ref e.1) ++ [.ref d1, .ref d2])) hN
    have eN : upd H15 N (.lst ((ds.map fun e => V.ref e.1) ++ [.ref d1, .ref d2])) N = some (.lst ((ds ++ [(d1, Sd.ren ss fs), (d2, Sd.ren [0, 0] [0])]).map fun e => V.ref e.1)) := by
      rw [upd_same, List.map_append]
      rfl
    have al : ∀ e ∈ ds ++ [(d1, Sd.ren ss fs), (d2, Sd.ren [0, 0] [0])], SdAt (upd H15 N (.lst ((ds.map fun e => V.ref e.1) ++ [.ref d1, .ref d2]))) e.1 e.2 ∧ e.2.Sm := fun e he => by
      rcases List.mem_append.mp he with he | he
      · exact ⟨(sl.al e he).1.same s16, (sl.al e he).2⟩
      rcases List.mem_cons.mp he with rfl | he
      · exact ⟨a1.same s16, ⟨by omega, sm_rng rg2 (by omega)⟩, smF⟩
      · rw [List.mem_singleton.mp he]
        refine ⟨a2.same s16, ⟨by decide, fun z hz => ?_⟩, ⟨by decide, fun z hz => ?_⟩⟩
        · simp at hz
          rw [hz]
          exact sm_small (by decide) (by decide)
        · rw [List.mem_singleton.mp hz]
          exact sm_small (by decide) (by decide)
    have B16 := B15.same s16
    have k16 := k15.trans (.of_same s16)
    have nN := B15.ne_new hN
    generalize upd H15 N (.lst ((ds.map fun e => V.ref e.1) ++ [.ref d1, .ref d2])) = H16 at *
    have l6 : (ds ++ [(d1, Sd.ren ss fs), (d2, Sd.ren [0, 0] [0])]).length = 6 := by
      rw [List.length_append, ld]
      rfl
    generalize ds ++ [(d1, Sd.ren ss fs), (d2, Sd.ren [0, 0] [0])] = es2 at *
    refine ⟨b, l, N, ns, _, rfl, B16, SqL.of eN, nN, ?_, by rw [List.length_map, l6]; decide, fun i u o hu BO => ?_⟩
    · intro z
      have := congrArg List.length z
      rw [List.length_map, l6] at this
      cases this
    rw [List.getElem?_map] at hu
    obtain ⟨e, he, rfl⟩ := Option.map_eq_some_iff.mp hu
    obtain ⟨a, m⟩ := al e (List.mem_of_getElem? he)
    exact qq e.1 _ e.2 (k16.trans .updb) (B16.upd BO) (a.keep B16 .updb) m
end
end Lw

set_option Elab.async false
set_option linter.all false
set_option maxRecDepth 100000
/-! equality of steps -/
namespace Lw
open PySem L2
abbrev sEqS : Stmt := inClass (top 7) 1
abbrev sEqM : Stmt := inClass (top 8) 1
abbrev sEqR : Stmt := inClass (top 9) 1
def clsOf (CS CM CR : Addr) : Sd → Addr
  | .spl .. => CS
  | .mrg .. => CM
  | .ren .. => CR
def Sd.eqb : Sd → Sd → Bool
  | .spl s ps, .spl s2 ps2 => decide (s = s2) && decide (ps = ps2)
  | .mrg a b, .mrg a2 b2 => decide (a = a2) && decide (b = b2)
  | .ren ss es, .ren ss2 es2 => decide (ss = ss2) && decide (es = es2)
  | _, _ => false
theorem Sd.eqb_iff : ∀ x y : Sd, x.eqb y = true ↔ x = y
  | .spl s ps, .spl s2 ps2 => by simp [Sd.eqb]
  | .mrg a b, .mrg a2 b2 => by simp [Sd.eqb]
  | .ren ss es, .ren ss2 es2 => by simp [Sd.eqb]
  | .spl .., .mrg .. => by simp [Sd.eqb]
  | .spl .., .ren .. => by simp [Sd.eqb]
  | .mrg .., .spl .. => by simp [Sd.eqb]
  | .mrg .., .ren .. => by simp [Sd.eqb]
  | .ren .., .spl .. => by simp [Sd.eqb]
  | .ren .., .mrg .. => by simp [Sd.eqb]
/-- what is known of a class for isinstance -/
structure Is3 (K : PySem.W.Frag) (CS CM CR : Addr) : Prop where
  s : C8.InsC K CS
  m : C8.InsC K CM
  r : C8.InsC K CR
  sm : PySem.W.kitOne K (.ref CM) (.ref CS) = some false
  sr : PySem.W.kitOne K (.ref CR) (.ref CS) = some false
  ms : PySem.W.kitOne K (.ref CS) (.ref CM) = some false
  mr : PySem.W.kitOne K (.ref CR) (.ref CM) = some false
  rs : PySem.W.kitOne K (.ref CS) (.ref CR) = some false
  rm : PySem.W.kitOne K (.ref CM) (.ref CR) = some false
/-- self == y, self of the class at C -/
def spSEq (K : PySem.W.Frag) (CS CM CR C : Addr) (is : Sd → Prop) : Sp := fun vs H Q _ => ∃ (o : Addr) (x : Sd) (y : V), vs = [.ref o, y] ∧ is x ∧ StAt CS CM CR H o x ∧
  ((∃ (o2 : Addr) (x2 : Sd), y = .ref o2 ∧ StAt CS CM CR H o2 x2 ∧ Q (.bl (x.eqb x2)) H) ∨ ((∃ t, TyX K H y t ∧ PySem.W.kitOne K t (.ref C) = some false) ∧ Q (.bl false) H))
theorem spSEq_mono {K : PySem.W.Frag} {CS CM CR C : Addr} {is : Sd → Prop} (vs : List V) (H : Hp) (Q Q' : VK) (E : XK) (h : ∀ v H', Q v H' → Q' v H') (s : spSEq K CS CM CR C is vs H Q E) : spSEq K CS CM CR C is vs H Q' E := by
  obtain ⟨o, x, y, h1, h2, h3, h4⟩ := s
  exact ⟨o, x, y, h1, h2, h3, h4.imp (fun ⟨a, b, c, d, q⟩ => ⟨a, b, c, d, h _ _ q⟩) fun ⟨a, q⟩ => ⟨a, h _ _ q⟩⟩
theorem dec_i (i j : Int) : decide (V.int i = V.int j) = decide (i = j) := by
  by_cases h : i = j
  · rw [h, decide_eq_true rfl, decide_eq_true rfl]
  · rw [decide_eq_false h, decide_eq_false fun z => h (by injection z)]
section
variable {P : Program} {w : World} {K : PySem.W.Frag} {mg : Str → Option Value} {base : Heap} {f CS CM CR : Addr} {fd : FuncData} {k : Nat}
theorem scEqS : FnScope ["self", "other"] ["self", "other"] (defScope sEqS) := ⟨rfl, rfl, rfl, by decide +kernel, rfl, by decide +kernel, by decide +kernel⟩
theorem scEqM : FnScope ["self", "other"] ["self", "other"] (defScope sEqM) := ⟨rfl, rfl, rfl, by decide +kernel, rfl, by decide +kernel, by decide +kernel⟩
theorem scEqR : FnScope ["self", "other"] ["self", "other"] (defScope sEqR) := ⟨rfl, rfl, rfl, by decide +kernel, rfl, by decide +kernel, by decide +kernel⟩
theorem ty_ins {H : Hp} {C o dx : Addr} {fs : List (Str × V)} (c : C8.InsC K C) (h : H o = some (.ins C dx fs)) : TyX K H (.ref o) (.ref C) := .base (.ins h c.cl c.ha c.hn c.htk c.hm)
theorem eqv_tup (xs ys : List Int) : PyData.eqv (.tuple (xs.map PyData.int)) (.tuple (ys.map PyData.int)) = decide (xs = ys) := eqv_ints _ _
set_option maxHeartbeats 4000000 in
theorem okEq1 (F : Fun K "__eq__" "Split.__eq__" sEqS f fd) (T : Bi mg) (G : Cl3 K mg CS CM CR) (S : Is3 K CS CM CR) : FnOk P w K mg base CX0 (k + 1) f fd ["self", "other"] (spSEq K CS CM CR CS isS) := by
  refine F.ok scEqS (fun vs H Q E h => ?_) (fun cdv A outer s H vs Q E hr h => ?_)
  · obtain ⟨o, x, y, rfl, _⟩ := h
    rfl
  · obtain ⟨o, x, y, rfl, hi, ho, hh⟩ := h
    cases x with
    | mrg => exact hi.elim
    | ren => exact hi.elim
    | spl st ps =>
      obtain ⟨dx, t, h1, h2⟩ := ho
      refine ⟨_, pss_one (ps_ret (pe_and (pe_callB call_isi (by rfl) T.isi (by decide +kernel) (pa_cons (pv 1) (pa_cons (pe_glob (v := .ref CS) (by rfl) G.s.mgC rfl) pa_nil)))
        (pe_and (pe_cmpR op_eq (pe_fld (pv 0) rfl) (pe_fld (pv 1) rfl) (nomark _)) (pe_one (pe_cmpR (op_eqD hr.units) (pe_fld (pv 0) rfl) (pe_fld (pv 1) rfl) (nomark _)))))), ?_⟩
      rcases hh with ⟨o2, x2, rfl, ho2, q⟩ | ⟨⟨ty, hty, hk⟩, q⟩
      · cases x2 with
        | mrg => obtain ⟨dx2, e1⟩ := ho2; exact ⟨_, rfl, _, _, _, _, false, rfl, .own _, ty_ins S.m e1, S.sm, false, rfl, iteF q⟩
        | ren => obtain ⟨dx2, t2, u2, e1, _⟩ := ho2; exact ⟨_, rfl, _, _, _, _, false, rfl, .own _, ty_ins S.r e1, S.sr, false, rfl, iteF q⟩
        | spl st2 ps2 =>
          obtain ⟨dx2, t2, e1, e2⟩ := ho2
          refine ⟨_, rfl, _, _, _, _, true, rfl, .own _, ty_ins S.s e1, S.s.me, true, rfl, iteT ?_⟩
          refine ⟨_, rfl, o, CS, dx, _, _, rfl, h1, G.s.cl, G.s.nA, lk1 _ _, _, rfl, o2, CS, dx2, _, _, rfl, e1, G.s.cl, G.s.nA, lk1 _ _, rfl, _, rfl, ?_⟩
          have q : Q (.bl (decide (st = st2) && decide (ps = ps2))) H := q
          by_cases hn : st = st2
          · refine if_t (decide_eq_true (by rw [hn])) ?_
            refine ⟨_, rfl, o, CS, dx, _, _, rfl, h1, G.s.cl, G.s.nB, lk2 _ _ G.s.nb, _, rfl, o2, CS, dx2, _, _, rfl, e1, G.s.cl, G.s.nB, lk2 _ _ G.s.nb, _, _, .tup (SqT.of h2) (dp_ints _), .tup (SqT.of e2) (dp_ints _), sh_ints _, sh_ints _, ?_⟩
            rw [decide_eq_true hn, Bool.true_and, ← eqv_tup] at q
            exact q
          · refine if_f (decide_eq_false (fun z => hn (by injection z))) ?_
            rw [decide_eq_false hn, Bool.false_and] at q
            exact q
      · exact ⟨_, rfl, _, _, _, _, false, rfl, .own _, hty, hk, false, rfl, iteF q⟩
set_option maxHeartbeats 4000000 in
theorem okEq2 (F : Fun K "__eq__" "Merge.__eq__" sEqM f fd) (T : Bi mg) (G : Cl3 K mg CS CM CR) (S : Is3 K CS CM CR) : FnOk P w K mg base CX0 (k + 1) f fd ["self", "other"] (spSEq K CS CM CR CM isM) := by
  refine F.ok scEqM (fun vs H Q E h => ?_) (fun cdv A outer s H vs Q E hr h => ?_)
  · obtain ⟨o, x, y, rfl, _⟩ := h
    rfl
  · obtain ⟨o, x, y, rfl, hi, ho, hh⟩ := h
    cases x with
    | spl => exact hi.elim
    | ren => exact hi.elim
    | mrg a b =>
      obtain ⟨dx, h1⟩ := ho
      refine ⟨_, pss_one (ps_ret (pe_and (pe_callB call_isi (by rfl) T.isi (by decide +kernel) (pa_cons (pv 1) (pa_cons (pe_glob (v := .ref CM) (by rfl) G.m.mgC rfl) pa_nil)))
        (pe_and (pe_cmpR op_eq (pe_fld (pv 0) rfl) (pe_fld (pv 1) rfl) (nomark _)) (pe_one (pe_cmpR op_eq (pe_fld (pv 0) rfl) (pe_fld (pv 1) rfl) (nomark _)))))), ?_⟩
      rcases hh with ⟨o2, x2, rfl, ho2, q⟩ | ⟨⟨ty, hty, hk⟩, q⟩
      · cases x2 with
        | spl => obtain ⟨dx2, t2, e1, _⟩ := ho2; exact ⟨_, rfl, _, _, _, _, false, rfl, .own _, ty_ins S.s e1, S.ms, false, rfl, iteF q⟩
        | ren => obtain ⟨dx2, t2, u2, e1, _⟩ := ho2; exact ⟨_, rfl, _, _, _, _, false, rfl, .own _, ty_ins S.r e1, S.mr, false, rfl, iteF q⟩
        | mrg a2 b2 =>
          obtain ⟨dx2, e1⟩ := ho2
          refine ⟨_, rfl, _, _, _, _, true, rfl, .own _, ty_ins S.m e1, S.m.me, true, rfl, iteT ?_⟩
          refine ⟨_, rfl, o, CM, dx, _, _, rfl, h1, G.m.cl, G.m.nA, lk1 _ _, _, rfl, o2, CM, dx2, _, _, rfl, e1, G.m.cl, G.m.nA, lk1 _ _, rfl, _, rfl, ?_⟩
          have q : Q (.bl (decide (a = a2) && decide (b = b2))) H := q
          by_cases hn : a = a2
          · refine if_t (decide_eq_true (by rw [hn])) ?_
            refine ⟨_, rfl, o, CM, dx, _, _, rfl, h1, G.m.cl, G.m.nB, lk2 _ _ G.m.nb, _, rfl, o2, CM, dx2, _, _, rfl, e1, G.m.cl, G.m.nB, lk2 _ _ G.m.nb, rfl, ?_⟩
            rw [decide_eq_true hn, Bool.true_and] at q
            rw [dec_i]
            exact q
          · refine if_f (decide_eq_false (fun z => hn (by injection z))) ?_
            rw [decide_eq_false hn, Bool.false_and] at q
            exact q
      · exact ⟨_, rfl, _, _, _, _, false, rfl, .own _, hty, hk, false, rfl, iteF q⟩
set_option maxHeartbeats 4000000 in
theorem okEq3 (F : Fun K "__eq__" "Renaming.__eq__" sEqR f fd) (T : Bi mg) (G : Cl3 K mg CS CM CR) (S : Is3 K CS CM CR) : FnOk P w K mg base CX0 (k + 1) f fd ["self", "other"] (spSEq K CS CM CR CR isR) := by
  refine F.ok scEqR (fun vs H Q E h => ?_) (fun cdv A outer s H vs Q E hr h => ?_)
  · obtain ⟨o, x, y, rfl, _⟩ := h
    rfl
  · obtain ⟨o, x, y, rfl, hi, ho, hh⟩ := h
    cases x with
    | spl => exact hi.elim
    | mrg => exact hi.elim
    | ren ss es =>
      obtain ⟨dx, t, u, h1, h2, h3⟩ := ho
      refine ⟨_, pss_one (ps_ret (pe_and (pe_callB call_isi (by rfl) T.isi (by decide +kernel) (pa_cons (pv 1) (pa_cons (pe_glob (v := .ref CR) (by rfl) G.r.mgC rfl) pa_nil)))
        (pe_and (pe_cmpR (op_eqD hr.units) (pe_fld (pv 0) rfl) (pe_fld (pv 1) rfl) (nomark _)) (pe_one (pe_cmpR (op_eqD hr.units) (pe_fld (pv 0) rfl) (pe_fld (pv 1) rfl) (nomark _)))))), ?_⟩
      rcases hh with ⟨o2, x2, rfl, ho2, q⟩ | ⟨⟨ty, hty, hk⟩, q⟩
      · cases x2 with
        | spl => obtain ⟨dx2, t2, e1, _⟩ := ho2; exact ⟨_, rfl, _, _, _, _, false, rfl, .own _, ty_ins S.s e1, S.rs, false, rfl, iteF q⟩
        | mrg => obtain ⟨dx2, e1⟩ := ho2; exact ⟨_, rfl, _, _, _, _, false, rfl, .own _, ty_ins S.m e1, S.rm, false, rfl, iteF q⟩
        | ren ss2 es2 =>
          obtain ⟨dx2, t2, u2, e1, e2, e3⟩ := ho2
          refine ⟨_, rfl, _, _, _, _, true, rfl, .own _, ty_ins S.r e1, S.r.me, true, rfl, iteT ?_⟩
          refine ⟨_, rfl, o, CR, dx, _, _, rfl, h1, G.r.cl, G.r.nA, lk1 _ _, _, rfl, o2, CR, dx2, _, _, rfl, e1, G.r.cl, G.r.nA, lk1 _ _, _, _, .tup (SqT.of h2) (dp_ints _), .tup (SqT.of e2) (dp_ints _), sh_ints _, sh_ints _, _, rfl, ?_⟩
          rw [eqv_tup]
          have q : Q (.bl (decide (ss = ss2) && decide (es = es2))) H := q
          by_cases hn : ss = ss2
          · refine if_t (decide_eq_true hn) ?_
            refine ⟨_, rfl, o, CR, dx, _, _, rfl, h1, G.r.cl, G.r.nB, lk2 _ _ G.r.nb, _, rfl, o2, CR, dx2, _, _, rfl, e1, G.r.cl, G.r.nB, lk2 _ _ G.r.nb, _, _, .tup (SqT.of h3) (dp_ints _), .tup (SqT.of e3) (dp_ints _), sh_ints _, sh_ints _, ?_⟩
            rw [decide_eq_true hn, Bool.true_and, ← eqv_tup] at q
            exact q
          · refine if_f (decide_eq_false hn) ?_
            rw [decide_eq_false hn, Bool.false_and] at q
            exact q
      · exact ⟨_, rfl, _, _, _, _, false, rfl, .own _, hty, hk, false, rfl, iteF q⟩
end
end Lw

set_option Elab.async false
set_option linter.all false
set_option maxRecDepth 100000
/-! steps of any of the three classes: ==, !=, in, text(); described steps as data -/
namespace Lw
open PySem PySem.Spec PyProof.Rows L2
/-! ### x in t, t a tuple of data -/
def rInT (K : PySem.W.Frag) : R2 := fun x y H Q => ∃ d ds, Dp K H x d ∧ Dp K H y (.tuple ds) ∧ SeqAt.shaped d = true ∧ SeqAt.shaped (.tuple ds) = true ∧ Q (.bl (ds.any fun z => PyData.eqv z d)) H
theorem op_inT {X : Cx} (hu : X.A.units + 65 < cLine) : OpR X (compareOp .In) (rInT X.K) := by
  rintro pins s σ H x y v u Q I rx ry ⟨d, ds, hd, hy, sd, sy, q⟩
  obtain ⟨ps, rd⟩ := Dp.reads I d x v hd rx
  obtain ⟨qs, ry⟩ := Dp.reads I (.tuple ds) y u hy ry
  exact SeqAt.in_tuple_reads ry rd (SeqAt.canLay_of_shaped sy) (SeqAt.canLay_of_shaped sd) (room_in_shaped sd hu) ⟨.bl _, H, I, rfl, q⟩
/-! ### data -/
def dI (xs : List Int) : PyData := .tuple (xs.map PyData.int)
def Sd.ds : Sd → List PyData
  | .spl s ps => [.int s, dI ps]
  | .mrg a b => [.int a, .int b]
  | .ren ss es => [dI ss, dI es]
def Sd.dat (x : Sd) : PyData := .tuple (.str x.w1 :: x.ds)
theorem dat_at {K : PySem.W.Frag} {H : Hp} {d : Addr} {x : Sd} (h : SdAt H d x) : Dp K H (.ref d) x.dat := by
  cases x with
  | spl s ps =>
    obtain ⟨t, h1, h2⟩ := h
    exact .tup (SqT.of h1) (.cons (.str _) (.cons (.int s) (.cons (.tup (SqT.of h2) (dp_ints _)) .nil)))
  | mrg a b => exact .tup (SqT.of h) (.cons (.str _) (.cons (.int a) (.cons (.int b) .nil)))
  | ren ss es =>
    obtain ⟨t, u, h1, h2, h3⟩ := h
    exact .tup (SqT.of h1) (.cons (.str _) (.cons (.tup (SqT.of h2) (dp_ints _)) (.cons (.tup (SqT.of h3) (dp_ints _)) .nil)))
theorem tail_at {K : PySem.W.Frag} {H : Hp} {d p : Addr} {x : Sd} {vs : List V} (h : SdAt H d x) (hd : H d = some (.tup vs)) (hp : H p = some (.tup (vs.drop 1))) : Dp K H (.ref p) (.tuple x.ds) := by
  cases x with
  | spl s ps =>
    obtain ⟨t, h1, h2⟩ := h
    rw [hd] at h1
    injection h1 with h1
    injection h1 with h1
    rw [h1] at hp
    exact .tup (SqT.of hp) (.cons (.int s) (.cons (.tup (SqT.of h2) (dp_ints _)) .nil))
  | mrg a b =>
    have h1 : H d = _ := h
    rw [hd] at h1
    injection h1 with h1
    injection h1 with h1
    rw [h1] at hp
    exact .tup (SqT.of hp) (.cons (.int a) (.cons (.int b) .nil))
  | ren ss es =>
    obtain ⟨t, u, h1, h2, h3⟩ := h
    rw [hd] at h1
    injection h1 with h1
    injection h1 with h1
    rw [h1] at hp
    exact .tup (SqT.of hp) (.cons (.tup (SqT.of h2) (dp_ints _)) (.cons (.tup (SqT.of h3) (dp_ints _)) .nil))
theorem lay_dI (xs : List Int) : (dI xs).canLay0 = true := by
  show PyData.canLayAll0 (xs.map PyData.int) = true
  exact lay_ints _
theorem dep_dI (xs : List Int) : (dI xs).depth = 1 := by
  show PyData.depthAll (xs.map PyData.int) + 1 = 1
  rw [dep_ints]
theorem sh_ds (x : Sd) : SeqAt.shaped (.tuple x.ds) = true := by
  cases x with
  | spl s ps =>
    show ((true && ((dI ps).canLay0 && true)) && decide (max 0 (max (dI ps).depth 0) + 1 ≤ 64)) = true
    rw [lay_dI, dep_dI]
    rfl
  | mrg a b => rfl
  | ren ss es =>
    show (((dI ss).canLay0 && ((dI es).canLay0 && true)) && decide (max (dI ss).depth (max (dI es).depth 0) + 1 ≤ 64)) = true
    rw [lay_dI, dep_dI, lay_dI, dep_dI]
    rfl
theorem w1_ok (x : Sd) : (PyData.str x.w1).canLay0 = true := by
  cases x
  · show (PyData.str (Str.ofString "split")).canLay0 = true; decide +kernel
  · show (PyData.str (Str.ofString "merge")).canLay0 = true; decide +kernel
  · show (PyData.str (Str.ofString "rename")).canLay0 = true; decide +kernel
theorem sh_dat (x : Sd) : SeqAt.shaped x.dat = true := by
  have h := sh_ds x
  have h : (PyData.canLayAll0 x.ds && decide (PyData.depthAll x.ds + 1 ≤ 64)) = true := h
  obtain ⟨h1, h2⟩ := Bool.and_eq_true_iff.mp h
  show (((PyData.str x.w1).canLay0 && PyData.canLayAll0 x.ds) && decide (max 0 (PyData.depthAll x.ds) + 1 ≤ 64)) = true
  rw [w1_ok, h1, Nat.zero_max]
  exact h2
theorem eq_w {a b : Str} {xs ys : List PyData} (h : (a == b) = false) : PyData.eqv (.tuple (.str a :: xs)) (.tuple (.str b :: ys)) = false := by
  show ((a == b) && PyData.eqvAll xs ys) = false
  rw [h]
  rfl
theorem eq_dI (xs ys : List Int) : PyData.eqv (dI xs) (dI ys) = decide (xs = ys) := eqv_ints _ _
theorem eqI (a b : Int) : (a == b) = decide (a = b) := by
  by_cases h : a = b <;> simp [h]
theorem eq_dat (x y : Sd) : PyData.eqv x.dat y.dat = x.eqb y := by
  cases x with
  | spl s ps =>
    cases y with
    | spl s2 ps2 =>
      show ((Str.ofString "split" == Str.ofString "split") && ((s == s2) && (PyData.eqv (dI ps) (dI ps2) && true))) = (decide (s = s2) && decide (ps = ps2))
      rw [eq_dI, eqI, Bool.and_true, show (Str.ofString "split" == Str.ofString "split") = true by decide +kernel, Bool.true_and]
    | mrg =>
      exact eq_w (a := Str.ofString "split") (b := Str.ofString "merge") (by decide +kernel)
    | ren =>
      exact eq_w (a := Str.ofString "split") (b := Str.ofString "rename") (by decide +kernel)
  | mrg a b =>
    cases y with
    | spl =>
      exact eq_w (a := Str.ofString "merge") (b := Str.ofString "split") (by decide +kernel)
    | mrg a2 b2 =>
      show ((Str.ofString "merge" == Str.ofString "merge") && ((a == a2) && ((b == b2) && true))) = (decide (a = a2) && decide (b = b2))
      rw [eqI, eqI, Bool.and_true, show (Str.ofString "merge" == Str.ofString "merge") = true by decide +kernel, Bool.true_and]
    | ren =>
      exact eq_w (a := Str.ofString "merge") (b := Str.ofString "rename") (by decide +kernel)
  | ren ss es =>
    cases y with
    | spl =>
      exact eq_w (a := Str.ofString "rename") (b := Str.ofString "split") (by decide +kernel)
    | mrg =>
      exact eq_w (a := Str.ofString "rename") (b := Str.ofString "merge") (by decide +kernel)
    | ren ss2 es2 =>
      show ((Str.ofString "rename" == Str.ofString "rename") && (PyData.eqv (dI ss) (dI ss2) && (PyData.eqv (dI es) (dI es2) && true))) = (decide (ss = ss2) && decide (es = es2))
      rw [eq_dI, eq_dI, Bool.and_true, show (Str.ofString "rename" == Str.ofString "rename") = true by decide +kernel, Bool.true_and]
/-! ### the classes -/
/-- what is known of one of the three classes -/
structure KC (P : Program) (w : World) (K : PySem.W.Frag) (mg : Str → Option Value) (base : Heap) (CS CM CR C : Addr) (is : Sd → Prop) : Prop where
  eq : ∃ f fd, PySem.W.findIn K (.ref C) "__eq__" = some (some (.ref f)) ∧ PySem.W.isFn K (.ref f) = true ∧ FnOk P w K mg base CX0 1 f fd ["self", "other"] (spSEq K CS CM CR C is) ∧ Binds K fd ["self", "other"] []
  ne : PySem.W.findIn K (.ref C) "__ne__" = some (some (.builtin "object.__ne__"))
  cls : ∃ nm q N bs bm hdct sn sub ab col dd k0 k1 k2 k3 k5 newId, K.lookup C = some (excClassObj nm q C N bs bm hdct sn sub ab col dd k0 k1 k2 k3 k5 newId) ∧ bm.contains (.type "object") = true
  ns : NoSubS K C
  kn : PySem.W.kitOne K (.type "NoneType") (.ref C) = some false
  ki : PySem.W.kitOne K (.type "int") (.ref C) = some false
  kt : PySem.W.kitOne K (.type "tuple") (.ref C) = some false
  ks : PySem.W.kitOne K (.type "str") (.ref C) = some false
  fS : PySem.W.notFirst K C (.ref CS) = true
  fM : PySem.W.notFirst K C (.ref CM) = true
  fR : PySem.W.notFirst K C (.ref CR) = true
section
variable {P : Program} {w : World} {K : PySem.W.Frag} {mg : Str → Option Value} {base : Heap} {CS CM CR : Addr}
abbrev tTxt (CS CM CR : Addr) (te : TE) : TE := fun σ H Q => tMeth CS "text" (spTxt CS CM CR CS isS) [] E0 te tNil σ H Q ∨ (tMeth CM "text" (spTxt CS CM CR CM isM) [] E0 te tNil σ H Q ∨ tMeth CR "text" (spTxt CS CM CR CR isR) [] E0 te tNil σ H Q)
theorem lkN {a b m : Str} {x y : V} (h1 : (m == a) = false) (h2 : (m == b) = false) : (fl2 a b x y).lookup m = none := by
  unfold fl2
  simp [List.lookup, h1, h2]
/-- x.text(), x at the i-th slot -/
theorem txt_any {i : Nat} {σ : L2.St} {H : Hp} {Q : VK} {o : Addr} {x : Sd} (hi : ∀ (R : VK), R (.ref o) H → tVar i σ H R) (h : StAt CS CM CR H o x) (m : x.Sm) (q : ∀ H', Same H H' → Q (.str x.tx) H') : tTxt CS CM CR (tVar i) σ H Q := by
  cases x with
  | spl s ps =>
    obtain ⟨dx, t, h1, h2⟩ := h
    exact .inl (hi _ ⟨o, dx, _, rfl, h1, lkN (by decide +kernel) (by decide +kernel), o, .spl s ps, rfl, True.intro, ⟨dx, t, h1, h2⟩, m, q⟩)
  | mrg a b =>
    obtain ⟨dx, h1⟩ := h
    exact .inr (.inl (hi _ ⟨o, dx, _, rfl, h1, lkN (by decide +kernel) (by decide +kernel), o, .mrg a b, rfl, True.intro, ⟨dx, h1⟩, m, q⟩))
  | ren ss es =>
    obtain ⟨dx, t, u, h1, h2, h3⟩ := h
    exact .inr (.inr (hi _ ⟨o, dx, _, rfl, h1, lkN (by decide +kernel) (by decide +kernel), o, .ren ss es, rfl, True.intro, ⟨dx, t, u, h1, h2, h3⟩, m, q⟩))
abbrev rEq3 (K : PySem.W.Frag) (CS CM CR : Addr) : R2 := fun x y H Q => rEqX K CS (spSEq K CS CM CR CS isS) E0 x y H Q ∨ (rEqX K CM (spSEq K CS CM CR CM isM) E0 x y H Q ∨ rEqX K CR (spSEq K CS CM CR CR isR) E0 x y H Q)
abbrev rNe3 (K : PySem.W.Frag) (CS CM CR : Addr) : R2 := fun x y H Q => rNeX K CS (spSEq K CS CM CR CS isS) E0 x y H Q ∨ (rNeX K CM (spSEq K CS CM CR CM isM) E0 x y H Q ∨ rNeX K CR (spSEq K CS CM CR CR isR) E0 x y H Q)
abbrev rIn3 (K : PySem.W.Frag) (CS CM CR : Addr) : R2 := fun x y H Q => rInS CS (spSEq K CS CM CR CS isS) E0 x y H Q ∨ (rInS CM (spSEq K CS CM CR CM isM) E0 x y H Q ∨ rInS CR (spSEq K CS CM CR CR isR) E0 x y H Q)
theorem cls_at {H : Hp} {o : Addr} {y : Sd} (h : StAt CS CM CR H o y) : ∃ C dx fs, H o = some (.ins C dx fs) ∧ (C = CS ∨ C = CM ∨ C = CR) := by
  cases y with
  | spl => obtain ⟨dx, t, h1, _⟩ := h; exact ⟨_, _, _, h1, .inl rfl⟩
  | mrg => obtain ⟨dx, h1⟩ := h; exact ⟨_, _, _, h1, .inr (.inl rfl)⟩
  | ren => obtain ⟨dx, t, u, h1, _⟩ := h; exact ⟨_, _, _, h1, .inr (.inr rfl)⟩
theorem KC.nf {C D : Addr} {is : Sd → Prop} (k : KC P w K mg base CS CM CR C is) (h : D = CS ∨ D = CM ∨ D = CR) : PySem.W.notFirst K C (.ref D) = true := by
  rcases h with rfl | rfl | rfl
  · exact k.fS
  · exact k.fM
  · exact k.fR
theorem eq_any {H : Hp} {Q : VK} {a b : Addr} {x y : Sd} (k1 : KC P w K mg base CS CM CR CS isS) (k2 : KC P w K mg base CS CM CR CM isM) (k3 : KC P w K mg base CS CM CR CR isR) (h : StAt CS CM CR H a x) (g : StAt CS CM CR H b y) (q : Q (.bl (x.eqb y)) H) : rEq3 K CS CM CR (.ref a) (.ref b) H Q := by
  obtain ⟨D, dy, gs, hb, hD⟩ := cls_at g
  cases x with
  | spl s ps =>
    obtain ⟨dx, t, h1, h2⟩ := h
    exact .inl ⟨a, b, dx, dy, _, gs, D, rfl, rfl, h1, hb, k1.nf hD, a, .spl s ps, _, rfl, True.intro, ⟨dx, t, h1, h2⟩, .inl ⟨b, y, rfl, g, _, rfl, q⟩⟩
  | mrg s ps =>
    obtain ⟨dx, h1⟩ := h
    exact .inr (.inl ⟨a, b, dx, dy, _, gs, D, rfl, rfl, h1, hb, k2.nf hD, a, .mrg s ps, _, rfl, True.intro, ⟨dx, h1⟩, .inl ⟨b, y, rfl, g, _, rfl, q⟩⟩)
  | ren s ps =>
    obtain ⟨dx, t, u, h1, h2, h3⟩ := h
    exact .inr (.inr ⟨a, b, dx, dy, _, gs, D, rfl, rfl, h1, hb, k3.nf hD, a, .ren s ps, _, rfl, True.intro, ⟨dx, t, u, h1, h2, h3⟩, .inl ⟨b, y, rfl, g, _, rfl, q⟩⟩)
theorem ne_any {H : Hp} {Q : VK} {a b : Addr} {x y : Sd} (k1 : KC P w K mg base CS CM CR CS isS) (k2 : KC P w K mg base CS CM CR CM isM) (k3 : KC P w K mg base CS CM CR CR isR) (h : StAt CS CM CR H a x) (g : StAt CS CM CR H b y) (q : Q (.bl (!x.eqb y)) H) : rNe3 K CS CM CR (.ref a) (.ref b) H Q := by
  obtain ⟨D, dy, gs, hb, hD⟩ := cls_at g
  cases x with
  | spl s ps =>
    obtain ⟨dx, t, h1, h2⟩ := h
    exact .inl ⟨a, b, dx, dy, _, gs, D, rfl, rfl, h1, hb, k1.nf hD, a, .spl s ps, _, rfl, True.intro, ⟨dx, t, h1, h2⟩, .inl ⟨b, y, rfl, g, _, rfl, q⟩⟩
  | mrg s ps =>
    obtain ⟨dx, h1⟩ := h
    exact .inr (.inl ⟨a, b, dx, dy, _, gs, D, rfl, rfl, h1, hb, k2.nf hD, a, .mrg s ps, _, rfl, True.intro, ⟨dx, h1⟩, .inl ⟨b, y, rfl, g, _, rfl, q⟩⟩)
  | ren s ps =>
    obtain ⟨dx, t, u, h1, h2, h3⟩ := h
    exact .inr (.inr ⟨a, b, dx, dy, _, gs, D, rfl, rfl, h1, hb, k3.nf hD, a, .ren s ps, _, rfl, True.intro, ⟨dx, t, u, h1, h2, h3⟩, .inl ⟨b, y, rfl, g, _, rfl, q⟩⟩)
/-- a thing of another kind -/
theorem odd_in {H : Hp} {C a : Addr} {is : Sd → Prop} {x : Sd} (k : KC P w K mg base CS CM CR C is) (hx : is x) (h : StAt CS CM CR H a x) {y : V} (hy : (∃ z, y = .str z) ∨ y = .non ∨ (∃ i, y = .int i) ∨ ∃ p xs, y = .ref p ∧ H p = some (.tup xs)) :
    OddS H y ∧ spSEq K CS CM CR C is [.ref a, y] H (fun v H' => v = .bl false ∧ H' = H) E0 := by
  rcases hy with ⟨z, rfl⟩ | rfl | ⟨i, rfl⟩ | ⟨p, xs, rfl, hp⟩
  · exact ⟨.inl ⟨z, rfl⟩, a, x, _, rfl, hx, h, .inr ⟨⟨_, .base (.str z), k.ks⟩, rfl, rfl⟩⟩
  · exact ⟨.inr (.inl rfl), a, x, _, rfl, hx, h, .inr ⟨⟨_, .base .non, k.kn⟩, rfl, rfl⟩⟩
  · exact ⟨.inr (.inr (.inl ⟨i, rfl⟩)), a, x, _, rfl, hx, h, .inr ⟨⟨_, .base (.int i), k.ki⟩, rfl, rfl⟩⟩
  · exact ⟨.inr (.inr (.inr (.inr ⟨p, xs, rfl, hp⟩))), a, x, _, rfl, hx, h, .inr ⟨⟨_, .base (.tup hp), k.kt⟩, rfl, rfl⟩⟩
theorem in_any {H : Hp} {Q : VK} {a l : Addr} {x : Sd} {ys : List V} (k1 : KC P w K mg base CS CM CR CS isS) (k2 : KC P w K mg base CS CM CR CM isM) (k3 : KC P w K mg base CS CM CR CR isR) (h : StAt CS CM CR H a x) (hl : H l = some (.lst ys)) (hy : ∀ y ∈ ys, (∃ z, y = .str z) ∨ y = .non ∨ (∃ i, y = .int i) ∨ ∃ p xs, y = .ref p ∧ H p = some (.tup xs)) (q : Q (.bl false) H) : rIn3 K CS CM CR (.ref a) (.ref l) H Q := by
  cases x with
  | spl s ps =>
    have h0 := h
    obtain ⟨dx, t, h1, h2⟩ := h
    exact .inl ⟨a, l, dx, _, ys, rfl, rfl, h1, hl, fun y m => odd_in k1 (x := .spl s ps) True.intro h0 (hy y m), q⟩
  | mrg s ps =>
    have h0 := h
    obtain ⟨dx, h1⟩ := h
    exact .inr (.inl ⟨a, l, dx, _, ys, rfl, rfl, h1, hl, fun y m => odd_in k2 (x := .mrg s ps) True.intro h0 (hy y m), q⟩)
  | ren s ps =>
    have h0 := h
    obtain ⟨dx, t, u, h1, h2, h3⟩ := h
    exact .inr (.inr ⟨a, l, dx, _, ys, rfl, rfl, h1, hl, fun y m => odd_in k3 (x := .ren s ps) True.intro h0 (hy y m), q⟩)
theorem Sd.Fine.sm {x : Sd} (h : x.Fine) : x.Sm := by
  cases x with
  | spl => exact ⟨h.1.sm, h.2.sm⟩
  | mrg => exact ⟨h.1.sm, h.2.sm⟩
  | ren => exact ⟨h.1.sm, h.2.sm⟩
end
end Lw

set_option Elab.async false
set_option linter.all false
set_option maxRecDepth 100000
/-! the law -/
namespace Lw
open PySem L2
abbrev sLaw : Stmt := top 29
abbrev NL : List Str := ["_law_script", "_law_bag_here", "_law_turn", "_law_plan_here", "_law_k", "_law_drawn", "_law_one", "_law_two", "_law_step_here", "_law_same", "_law_found"]
theorem scLaw : FnScope NL ["_law_script"] (defScope sLaw) := ⟨rfl, rfl, rfl, by decide +kernel, rfl, by decide +kernel, by decide +kernel⟩
structure Lb (P : Program) (w : World) (K : PySem.W.Frag) (mg : Str → Option Value) (base : Heap) (CS CM CR : Addr) : Prop where
  T : Bi mg
  bag : C8.Cal P w K mg base 1 "_law_bag" (spBag K) []
  of : C8.Cal P w K mg base 2 "_law_of" (spOf K) []
  plan : C8.Cal P w K mg base 2 "_law_plan" spPlan []
  stf : C8.Cal P w K mg base 3 "_law_step_for" spStF []
  odd : C8.Cal P w K mg base 3 "_law_odd_step" spOdd []
  stp : C8.Cal P w K mg base 3 "_law_step" (spStp CS CM CR) []
  stt : C8.Cal P w K mg base 1 "_law_step_text" spStT []
  like : C8.Cal P w K mg base 3 "_law_like" (spLike 2) []
  pars : C8.Cal P w K mg base 4 "parse_step" (spParS CS CM CR) []
  t1 : C8.Met P w K mg base 2 CS "text" (spTxt CS CM CR CS isS) []
  t2 : C8.Met P w K mg base 1 CM "text" (spTxt CS CM CR CM isM) []
  t3 : C8.Met P w K mg base 2 CR "text" (spTxt CS CM CR CR isR) []
  m1 : C8.Mak P w K mg base 1 "Split" CS (spIni1 CS CM CR) []
  m2 : C8.Mak P w K mg base 1 "Merge" CM (spIni2 CS CM CR) []
  m3 : C8.Mak P w K mg base 1 "Renaming" CR (spIni3 CS CM CR) []
  k1 : KC P w K mg base CS CM CR CS isS
  k2 : KC P w K mg base CS CM CR CM isM
  k3 : KC P w K mg base CS CM CR CR isR
theorem SdAt.offL {H : Hp} {D d : Addr} {xs : List V} {o : HO} {x : Sd} (h : SdAt H d x) (hD : H D = some (.lst xs)) : SdAt (upd H D o) d x := by
  have ne : ∀ {c : Addr} {ys : List V}, H c = some (.tup ys) → upd H D o c = some (.tup ys) := fun {c ys} e => by
    rw [upd_ne fun z => ?_]
    · exact e
    · rw [z, hD] at e
      cases e
  cases x with
  | spl => obtain ⟨t, h1, h2⟩ := h; exact ⟨t, ne h1, ne h2⟩
  | mrg => exact ne h
  | ren => obtain ⟨t, u, h1, h2, h3⟩ := h; exact ⟨t, u, ne h1, ne h2, ne h3⟩
theorem SL.push {b H D ds} {d : Addr} {x : Sd} (h : SL b H D ds) (a : SdAt H d x) (m : x.Sm) : SL b (upd H D (.lst ((ds.map fun e => V.ref e.1) ++ [.ref d]))) D (ds ++ [(d, x)]) := by
  refine ⟨?_, h.nb, fun e he => ?_⟩
  · rw [upd_same, List.map_append]
    rfl
  · rcases List.mem_append.mp he with he | he
    · exact ⟨(h.al e he).1.offL h.ls, (h.al e he).2⟩
    · rw [List.mem_singleton.mp he]
      exact ⟨a.offL h.ls, m⟩
/-- a turn's things -/
structure Tu (CS CM CR b l : Addr) (ns : List Int) (p q : Addr) (n : Int) (ts : Es) (D d0 d1 : Addr) (x0 x1 : Sd) (o0 o1 : Addr) (H : Hp) : Prop where
  bag : BagAt H b l ns
  pl : PlanAt H p q n ts
  n4 : n ≤ 4
  l9 : ts.length ≤ 9
  eD : H D = some (.lst [.ref d0, .ref d1])
  nD : D ≠ b
  a0 : SdAt H d0 x0
  a1 : SdAt H d1 x1
  m0 : x0.Sm
  m1 : x1.Sm
  s0 : StAt CS CM CR H o0 x0
  s1 : StAt CS CM CR H o1 x1
section
variable {CS CM CR b l : Addr} {ns : List Int} {p q : Addr} {n : Int} {ts : Es} {D d0 d1 : Addr} {x0 x1 : Sd} {o0 o1 : Addr} {H H' : Hp}
theorem Tu.keep (t : Tu CS CM CR b l ns p q n ts D d0 d1 x0 x1 o0 o1 H) (k : KeepB b H H') (B : BagAt H' b l ns) : Tu CS CM CR b l ns p q n ts D d0 d1 x0 x1 o0 o1 H' :=
  { t with bag := B, pl := t.pl.keep t.bag k, eD := k _ _ t.nD t.eD, a0 := t.a0.keep t.bag k, a1 := t.a1.keep t.bag k, s0 := t.s0.keep t.bag k, s1 := t.s1.keep t.bag k }
theorem Tu.same (t : Tu CS CM CR b l ns p q n ts D d0 d1 x0 x1 o0 o1 H) (s : Same H H') : Tu CS CM CR b l ns p q n ts D d0 d1 x0 x1 o0 o1 H' := t.keep (.of_same s) (t.bag.same s)
end
theorem lk2s {H : Hp} {A B : Addr} {x y : Str} (h1 : H A = some (.lst [.str x, .str y])) (h2 : H B = some (.lst [.str x, .str y])) : Lk H 2 (.ref A) (.ref B) := by
  refine .inr (.inl ⟨A, B, _, _, rfl, rfl, h1, h2, rfl, (by show 2 ≤ 1000; decide), fun j u v hu hv => ?_⟩)
  match j, hu, hv with
  | 0, hu, hv => cases hu; cases hv; exact .inl ⟨rfl, rfl⟩
  | 1, hu, hv => cases hu; cases hv; exact .inl ⟨rfl, rfl⟩
  | j + 2, hu, hv => cases hu
theorem lk4b {H : Hp} {A B : Addr} {x y z u : Bool} (h1 : H A = some (.lst [.bl x, .bl y, .bl z, .bl u])) (h2 : H B = some (.lst [.bl x, .bl y, .bl z, .bl u])) : Lk H 2 (.ref A) (.ref B) := by
  refine .inr (.inl ⟨A, B, _, _, rfl, rfl, h1, h2, rfl, (by show 4 ≤ 1000; decide), fun j u v hu hv => ?_⟩)
  match j, hu, hv with
  | 0, hu, hv => cases hu; cases hv; exact .inl ⟨rfl, rfl⟩
  | 1, hu, hv => cases hu; cases hv; exact .inl ⟨rfl, rfl⟩
  | 2, hu, hv => cases hu; cases hv; exact .inl ⟨rfl, rfl⟩
  | 3, hu, hv => cases hu; cases hv; exact .inl ⟨rfl, rfl⟩
  | j + 4, hu, hv => cases hu
theorem eqb_me (x : Sd) : x.eqb x = true := (Sd.eqb_iff x x).mpr rfl
theorem two_of {α : Type} {xs : List α} (h : xs.length = 2) : ∃ a b, xs = [a, b] := by
  match xs, h with
  | [a, b], _ => exact ⟨a, b, rfl⟩
def spLaw (K : PySem.W.Frag) : Sp := fun vs H Q _ => ∃ (a : Addr) (ns : List Int), vs = [.ref a] ∧ SqL K H a (ns.map V.int) ∧ ns.length ≤ 63 ∧ ∀ H', Q (.bl true) H'
section
variable {P : Program} {w : World} {K : PySem.W.Frag} {mg : Str → Option Value} {base : Heap} {CS CM CR : Addr}
theorem one' : 1 ≤ sizeLine := by decide
theorem mkS {H : Hp} {R : Addr → Hp → Prop} {t : Addr} {s : Int} {ps : List Int} (ht : TI H t ps) (q : ∀ o H', Same H H' → StAt CS CM CR H' o (.spl s ps) → R o H') :
    ∀ x dx, H x = none → H dx = none → dx ≠ x → spIni1 CS CM CR (.ref x :: ([.int s, .ref t] ++ [])) (upd (upd H dx (.own x)) x (.ins CS dx [])) (fun v H2 => v = .non ∧ R x H2) C8.E0 := fun o dx ho hd ne =>
  ⟨o, dx, t, s, ps, rfl, upd_same, (by show upd _ o _ t = _; rw [upd_ne (ne_of_none ht ho), upd_ne (ne_of_none ht hd)]; exact ht), fun H3 k3 st3 => ⟨rfl, q o H3 (same_mk ho hd ne k3) st3⟩⟩
theorem mkM {H : Hp} {R : Addr → Hp → Prop} {a b : Int} (q : ∀ o H', Same H H' → StAt CS CM CR H' o (.mrg a b) → R o H') :
    ∀ x dx, H x = none → H dx = none → dx ≠ x → spIni2 CS CM CR (.ref x :: ([.int a, .int b] ++ [])) (upd (upd H dx (.own x)) x (.ins CM dx [])) (fun v H2 => v = .non ∧ R x H2) C8.E0 := fun o dx ho hd ne =>
  ⟨o, dx, a, b, rfl, upd_same, fun H3 k3 st3 => ⟨rfl, q o H3 (same_mk ho hd ne k3) st3⟩⟩
theorem mkR {H : Hp} {R : Addr → Hp → Prop} {t u : Addr} {ss es : List Int} (ht : TI H t ss) (hu : TI H u es) (q : ∀ o H', Same H H' → StAt CS CM CR H' o (.ren ss es) → R o H') :
    ∀ x dx, H x = none → H dx = none → dx ≠ x → spIni3 CS CM CR (.ref x :: ([.ref t, .ref u] ++ [])) (upd (upd H dx (.own x)) x (.ins CR dx [])) (fun v H2 => v = .non ∧ R x H2) C8.E0 := fun o dx ho hd ne =>
  ⟨o, dx, t, u, ss, es, rfl, upd_same, (by show upd _ o _ t = _; rw [upd_ne (ne_of_none ht ho), upd_ne (ne_of_none ht hd)]; exact ht), (by show upd _ o _ u = _; rw [upd_ne (ne_of_none hu ho), upd_ne (ne_of_none hu hd)]; exact hu), fun H4 k4 st4 => ⟨rfl, q o H4 (same_mk ho hd ne k4) st4⟩⟩
theorem eq1 {H : Hp} {Q : VK} {a b : Addr} {s : Int} {ps : List Int} {y : Sd} (k : KC P w K mg base CS CM CR CS isS) (h : StAt CS CM CR H a (.spl s ps)) (g : StAt CS CM CR H b y) (q : Q (.bl ((Sd.spl s ps).eqb y)) H) : rEqX K CS (spSEq K CS CM CR CS isS) E0 (.ref a) (.ref b) H Q := by
  obtain ⟨D, dy, gs, hb, hD⟩ := cls_at g
  obtain ⟨dx, t, h1, h2⟩ := h
  exact ⟨a, b, dx, dy, _, gs, D, rfl, rfl, h1, hb, k.nf hD, a, .spl s ps, _, rfl, True.intro, ⟨dx, t, h1, h2⟩, .inl ⟨b, y, rfl, g, _, rfl, q⟩⟩
theorem eq2 {H : Hp} {Q : VK} {a b : Addr} {s r : Int} {y : Sd} (k : KC P w K mg base CS CM CR CM isM) (h : StAt CS CM CR H a (.mrg s r)) (g : StAt CS CM CR H b y) (q : Q (.bl ((Sd.mrg s r).eqb y)) H) : rEqX K CM (spSEq K CS CM CR CM isM) E0 (.ref a) (.ref b) H Q := by
  obtain ⟨D, dy, gs, hb, hD⟩ := cls_at g
  obtain ⟨dx, h1⟩ := h
  exact ⟨a, b, dx, dy, _, gs, D, rfl, rfl, h1, hb, k.nf hD, a, .mrg s r, _, rfl, True.intro, ⟨dx, h1⟩, .inl ⟨b, y, rfl, g, _, rfl, q⟩⟩
set_option maxHeartbeats 32000000 in
theorem ok_law {f : Addr} {fd : FuncData} (F : Fun K "law" "law" sLaw f fd) (L : Lb P w K mg base CS CM CR) : FnOk P w K mg base CX0 9 f fd ["_law_script"] (spLaw K) := by
  refine F.ok scLaw (fun vs H Q E h => ?_) (fun cdv A outer s H vs Q E hr h => ?_)
  · obtain ⟨a, ns, rfl, _⟩ := h
    rfl
  · obtain ⟨a, ns, rfl, hS, hln, q⟩ := h
    obtain ⟨fE1, fdE1, hA1, hB1, FE1, bE1⟩ := L.k1.eq
    obtain ⟨fE2, fdE2, hA2, hB2, FE2, bE2⟩ := L.k2.eq
    obtain ⟨fE3, fdE3, hA3, hB3, FE3, bE3⟩ := L.k3.eq
    obtain ⟨nm1, qn1, N1, bs1, bm1, hd1, sn1, su1, ab1, co1, dd1, ka1, kb1, kc1, kd1, ke1, ni1, hC1, hT1⟩ := L.k1.cls
    obtain ⟨nm2, qn2, N2, bs2, bm2, hd2, sn2, su2, ab2, co2, dd2, ka2, kb2, kc2, kd2, ke2, ni2, hC2, hT2⟩ := L.k2.cls
    obtain ⟨nm3, qn3, N3, bs3, bm3, hd3, sn3, su3, ab3, co3, dd3, ka3, kb3, kc3, kd3, ke3, ni3, hC3, hT3⟩ := L.k3.cls
    have T := L.T
    have hr2 : Room 2 _ := hr.mono (by decide)
    have hr1 : Room 1 _ := hr.mono (by decide)
    have hu65 : (A.deeper (PyProof.Rows.envOfC "law" (defScope sLaw) s.heap.objs.size f cdv)).units + 65 < cLine := by
      have := hr.un
      omega
    refine ⟨_, pss_cons (ps_set (i := 1) scLaw.nd rfl (by first | exact Or.inl rfl | exact Or.inr rfl) (C8.pe_c L.bag hr (by decide) (by rfl) (pa_cons (pv 0) pa_nil))) (C8.pss_cut (ps_for PassesOwn.never rfl (pi_range1 (by rfl) T.range (pa_cons pe_int pa_nil)) (pg_name (i := 2) scLaw.nd rfl (by first | exact Or.inl rfl | exact Or.inr rfl)) (pss_cons (ps_set (i := 3) scLaw.nd rfl (by first | exact Or.inl rfl | exact Or.inr rfl) (C8.pe_c L.plan hr (by decide) (by rfl) (pa_cons (pv 1) (pa_cons pe_int (pa_cons pe_int pa_nil))))) (C8.pss_cut (ps_setLc (i := 5) (own := [("_law_k", 4)]) (g := gName 4) (tt := tYes) (te := tCall (spOf K) [] E0 (tCons (tVar 1) (tCons (tLst (tCons (tCall spStF [] E0 (tCons (tVar 1) (tCons (tVar 3) tNil))) (tCons (tCall spOdd [] E0 (tCons (tVar 1) (tCons (tVar 3) tNil))) tNil))) tNil))) rfl scLaw.nd rfl rfl (sw_true rfl rfl rfl (by decide +kernel)) (pi_range1 (by rfl) T.range (pa_cons pe_int pa_nil)) (blkOk_by (N := NL) (sc := defScope sLaw) (by decide +kernel)) (fun _ _ _ _ _ => by exact (pg_name (i := 4) scLaw.nd rfl (by first | exact Or.inl rfl | exact Or.inr rfl))) (fun _ _ _ _ _ => pts_nil) (fun _ _ _ _ _ => by exact (C8.pe_c L.of hr (by decide) (by rfl) (pa_cons (pv 1) (pa_cons (pe_lst (pa_cons (C8.pe_c L.stf hr (by decide) (by rfl) (pa_cons (pv 1) (pa_cons (pv 3) pa_nil))) (pa_cons (C8.pe_c L.odd hr (by decide) (by rfl) (pa_cons (pv 1) (pa_cons (pv 3) pa_nil))) pa_nil))) pa_nil))))) (C8.pss_cut (ps_setLc (i := 5) (own := [("_law_one", 6)]) (g := gName 6) (tt := tYes) (te := tIf (tTest (tOp (rInT K) (tTup tNil) (tSl (rSlA K) (tVar 6) (tPart (tC (.int 1))) tNoPart))) (tTup (tCons (tC (.str "merge")) (tCons (tC (.int 0)) (tCons (tC (.int 1)) tNil)))) (tVar 6)) rfl scLaw.nd rfl rfl (sw_true rfl rfl rfl (by decide +kernel)) (pi_seqA (pv 5)) (blkOk_by (N := NL) (sc := defScope sLaw) (by decide +kernel)) (fun _ _ _ _ _ => by exact (pg_name (i := 6) scLaw.nd rfl (by first | exact Or.inl rfl | exact Or.inr rfl))) (fun _ _ _ _ _ => pts_nil) (fun _ _ _ _ _ => by exact (pe_ifExp (pt_cmpR (op_inT hu65) (pe_tup pa_nil) (pe_slice sl_tupA (pv 6) (po_some pe_int) po_none) (by rfl)) (pe_tup (pa_cons pe_str (pa_cons pe_int (pa_cons pe_int pa_nil)))) (pv 6)))) (C8.pss_cut (ps_par (i := 6) (j := 7) (by rfl) scLaw.nd rfl rfl (by decide) rfl rfl (pa_cons (C8.pe_c L.stp hr (by decide) (by rfl) (pa_cons (pe_ix ix_list (pv 5) pe_int (fun _ _ => rfl)) pa_nil)) (pa_cons (C8.pe_c L.stp hr (by decide) (by rfl) (pa_cons (pe_ix ix_list (pv 5) pe_int (fun _ _ => rfl)) pa_nil)) pa_nil)) (by rfl)) (C8.pss_cut (ps_if (pt_not (pt_val (C8.pe_c L.like hr (by decide) (by rfl) (pa_cons (pe_lst (pa_cons (PE.or (C8.pe_mt0 L.t1 hr (by decide) (pv 6)) (PE.or (C8.pe_mt0 L.t2 hr (by decide) (pv 6)) (C8.pe_mt0 L.t3 hr (by decide) (pv 6)))) (pa_cons (PE.or (C8.pe_mt0 L.t1 hr (by decide) (pv 7)) (PE.or (C8.pe_mt0 L.t2 hr (by decide) (pv 7)) (C8.pe_mt0 L.t3 hr (by decide) (pv 7)))) pa_nil))) (pa_cons (pe_lc (own := [("_law_step_here", 8)]) (g := gName 8) (tt := tYes) (te := tCall spStT [] E0 (tCons (tVar 8) tNil)) rfl scLaw.nd (pi_seqA (pv 5)) (blkOk_by (N := NL) (sc := defScope sLaw) (by decide +kernel)) (fun _ _ _ _ _ => by exact (pg_name (i := 8) scLaw.nd rfl (by first | exact Or.inl rfl | exact Or.inr rfl))) (fun _ _ _ _ _ => pts_nil) (fun _ _ _ _ _ => by exact (C8.pe_c L.stt hr (by decide) (by rfl) (pa_cons (pv 8) pa_nil)))) pa_nil))))) (pss_one (ps_ret pe_bl)) pss_nil) (pss_cons (ps_set (i := 9) scLaw.nd rfl (by first | exact Or.inl rfl | exact Or.inr rfl) (pe_cmpR (op_eqD hr.units) (pe_ix ix_list (pv 5) pe_int (fun _ _ => rfl)) (pe_ix ix_list (pv 5) pe_int (fun _ _ => rfl)) (nomark _))) (C8.pss_cut (ps_set (i := 10) scLaw.nd rfl (by first | exact Or.inl rfl | exact Or.inr rfl) (pe_lst (pa_cons (pe_cmpR (OpR.or (op_eqX FE1 hA1 hB1 bE1 pass0 hr1) (OpR.or (op_eqX FE2 hA2 hB2 bE2 pass0 hr1) (op_eqX FE3 hA3 hB3 bE3 pass0 hr1))) (pv 6) (pv 7) (nomark _)) (pa_cons (pe_cmpR (OpR.or (op_neX FE1 hA1 hB1 L.k1.ne hC1 hT1 bE1 pass0 hr2) (OpR.or (op_neX FE2 hA2 hB2 L.k2.ne hC2 hT2 bE2 pass0 hr2) (op_neX FE3 hA3 hB3 L.k3.ne hC3 hT3 bE3 pass0 hr2))) (pv 6) (pv 7) (nomark _)) (pa_cons (pe_cmpR (OpR.or (op_eqX FE1 hA1 hB1 bE1 pass0 hr1) (OpR.or (op_eqX FE2 hA2 hB2 bE2 pass0 hr1) (op_eqX FE3 hA3 hB3 bE3 pass0 hr1))) (pv 6) (C8.pe_c L.stp hr (by decide) (by rfl) (pa_cons (pe_ix ix_list (pv 5) pe_int (fun _ _ => rfl)) pa_nil)) (nomark _)) (pa_cons (pe_cmpR (OpR.or (op_neX FE1 hA1 hB1 L.k1.ne hC1 hT1 bE1 pass0 hr2) (OpR.or (op_neX FE2 hA2 hB2 L.k2.ne hC2 hT2 bE2 pass0 hr2) (op_neX FE3 hA3 hB3 L.k3.ne hC3 hT3 bE3 pass0 hr2))) (pv 6) (C8.pe_c L.stp hr (by decide) (by rfl) (pa_cons (pe_ix ix_list (pv 5) pe_int (fun _ _ => rfl)) pa_nil)) (nomark _)) pa_nil)))))) (C8.pss_cut (ps_if (PW.pt (pw_or (pt_not (pt_val (C8.pe_c L.like hr (by decide) (by rfl) (pa_cons (pv 10) (pa_cons (pe_lst (pa_cons (pv 9) (pa_cons (pe_not (pv 9)) (pa_cons pe_bl (pa_cons pe_bl pa_nil))))) pa_nil))))) (pw_or1 (pt_cmpR (OpR.or (op_inS FE1 hA1 hB1 L.k1.ns bE1 pass0 hr2 spSEq_mono) (OpR.or (op_inS FE2 hA2 hB2 L.k2.ns bE2 pass0 hr2 spSEq_mono) (op_inS FE3 hA3 hB3 L.k3.ns bE3 pass0 hr2 spSEq_mono))) (pv 6) (pe_lst (pa_cons pe_non (pa_cons (pe_ix ix_list (pv 5) pe_int (fun _ _ => rfl)) (pa_cons (PE.or (C8.pe_mt0 L.t1 hr (by decide) (pv 6)) (PE.or (C8.pe_mt0 L.t2 hr (by decide) (pv 6)) (C8.pe_mt0 L.t3 hr (by decide) (pv 6)))) (pa_cons pe_int pa_nil))))) (by rfl))))) (pss_one (ps_ret pe_bl)) pss_nil) (pss_one (ps_if (PW.pt (pw_and (pt_cmpR (op_eqD hr.units) (pe_ix ix_list (pv 5) pe_int (fun _ _ => rfl)) (C8.pe_c L.stf hr (by decide) (by rfl) (pa_cons (pv 1) (pa_cons (pv 3) pa_nil))) (nomark _)) (pw_and1 (pt_cmpR (OpR.or (op_neX FE1 hA1 hB1 L.k1.ne hC1 hT1 bE1 pass0 hr2) (OpR.or (op_neX FE2 hA2 hB2 L.k2.ne hC2 hT2 bE2 pass0 hr2) (op_neX FE3 hA3 hB3 L.k3.ne hC3 hT3 bE3 pass0 hr2))) (C8.pe_c L.pars hr (by decide) (by rfl) (pa_cons (PE.or (C8.pe_mt0 L.t1 hr (by decide) (pv 6)) (PE.or (C8.pe_mt0 L.t2 hr (by decide) (pv 6)) (C8.pe_mt0 L.t3 hr (by decide) (pv 6)))) pa_nil)) (pv 6) (nomark _))))) (pss_one (ps_ret pe_bl)) pss_nil))))))))))) (C8.pss_cut (ps_if (PW.pt (pw_or (pt_cmpR (op_eqX FE1 hA1 hB1 bE1 pass0 hr1) (C8.pe_mk L.m1 hr (by decide) (by rfl) (pa_cons pe_int (pa_cons (pe_tup (pa_cons pe_int pa_nil)) pa_nil))) (C8.pe_mk L.m2 hr (by decide) (by rfl) (pa_cons pe_int (pa_cons pe_int pa_nil))) (nomark _)) (pw_or (pt_cmpR (op_eqX FE2 hA2 hB2 bE2 pass0 hr1) (C8.pe_mk L.m2 hr (by decide) (by rfl) (pa_cons pe_int (pa_cons pe_int pa_nil))) (C8.pe_mk L.m3 hr (by decide) (by rfl) (pa_cons (pe_tup (pa_cons pe_int pa_nil)) (pa_cons (pe_tup (pa_cons pe_int pa_nil)) pa_nil))) (nomark _)) (pw_or1 (pt_cmpR (op_eqX FE1 hA1 hB1 bE1 pass0 hr1) (C8.pe_mk L.m1 hr (by decide) (by rfl) (pa_cons pe_int (pa_cons (pe_tup (pa_cons pe_int pa_nil)) pa_nil))) (C8.pe_mk L.m3 hr (by decide) (by rfl) (pa_cons (pe_tup (pa_cons pe_int pa_nil)) (pa_cons (pe_tup (pa_cons pe_int pa_nil)) pa_nil))) (nomark _)))))) (pss_one (ps_ret pe_bl)) pss_nil) (pss_one (ps_ret (pe_and (pe_cmpR op_eq (C8.pe_mt0 L.t1 hr (by decide) (C8.pe_mk L.m1 hr (by decide) (by rfl) (pa_cons pe_int (pa_cons (pe_tup (pa_cons pe_int (pa_cons pe_int pa_nil))) pa_nil)))) pe_str (nomark _)) (pe_one (pe_cmpR op_eq (C8.pe_mt0 L.t3 hr (by decide) (C8.pe_mk L.m3 hr (by decide) (by rfl) (pa_cons (pe_tup (pa_cons pe_int pa_nil)) (pa_cons (pe_tup (pa_cons pe_int (pa_cons pe_int pa_nil))) pa_nil)))) pe_str (nomark _)))))))), ?_⟩
    -- the bag
    refine ⟨_, rfl, a, ns, rfl, hS, hln, fun b l H1 s1 nb nl B => ?_⟩
    refine ⟨fun _ _ => True, ?_, ?_⟩
    · refine ⟨6, rfl, by decide, by decide, ?_⟩
      refine for_it (walk_range (lo := 0) (n := (6 : Int).toNat)) (fun i σ H' => ∃ v2 v3 v5 v6 v7 v9 v10 : Option V, σ = [some (.ref a), some (.ref b), v2, v3, none, v5, v6, v7, none, v9, v10] ∧ BagAt H' b l ns)
        ⟨none, none, none, none, none, none, none, rfl, B⟩ (fun _ _ _ _ _ => True.intro) ?_ (fun _ _ _ => True.intro)
      rintro i x σ H2 H' hi ⟨v2, v3, v5, v6, v7, v9, v10, rfl, B2⟩ ⟨rfl, rfl⟩
      refine ⟨_, rfl, b, l, ns, 4, 9, rfl, B2, by decide, by decide, by decide, fun p q0 n ts H3 k3 B3 np nq PA n4 l9 => ?_⟩
      have l9 : ts.length ≤ 9 := by omega
      -- two steps
      refine ⟨fun σ H' => ∃ (D : Addr) (ds : List (Addr × Sd)), σ = [some (.ref a), some (.ref b), some (.int (0 + (i : Nat))), some (.ref p), none, some (.ref D), v6, v7, none, v9, v10] ∧ BagAt H' b l ns ∧ PlanAt H' p q0 n ts ∧ SL b H' D ds ∧ ds.length = 2, ?_, ?_⟩
      · refine ⟨2, rfl, by decide, by decide, fun D hD => ?_⟩
        have nD := B3.ne_new hD
        refine lc_it (walk_range (lo := 0) (n := (2 : Int).toNat)) (fun i H' => ∃ ds : List (Addr × Sd), ds.length = i ∧ KeepB b H3 H' ∧ BagAt H' b l ns ∧ SL b H' D ds) ⟨[], rfl, .of_same (same_upd hD), B3.new hD, ⟨upd_same, nD, fun e he => by cases he⟩⟩ (fun _ _ _ _ => True.intro) ?_ ?_
        · rintro j x H4 H5 hj ⟨ds, hds, k4, B4, sl⟩ ⟨rfl, rfl⟩
          have hj : j < 2 := hj
          refine ⟨rfl, ?_⟩
          refine ⟨_, rfl, _, rfl, _, rfl, b, l, p, q0, ns, n, ts, rfl, B4, PA.keep B3 k4, n4, l9, fun d1 H6 x1 k6 B6 a1 f1 => ?_⟩
          refine ⟨_, rfl, _, rfl, b, l, p, q0, ns, n, ts, rfl, B6, (PA.keep B3 k4).keep B4 k6, n4, l9, fun d2 H7 x2 k7 B7 a2 m2 => ?_⟩
          refine ⟨two', fun t ht => ?_⟩
          have s8 := same_upd (o := .lst [.ref d1, .ref d2]) ht
          refine ⟨b, l, t, ns, _, rfl, B7.same s8, SqL.of upd_same, B7.ne_new ht, by simp, (by show 2 ≤ 1000; decide), fun m v o hv BO => ?_⟩
          have k8 := ((k6.trans k7).trans (.of_same s8)).trans (KeepB.updb (o := o))
          have B8 := (B7.same s8).upd BO
          have go : ∃ d x, v = .ref d ∧ SdAt (upd (upd H7 t (.lst [.ref d1, .ref d2])) b o) d x ∧ x.Sm := by
            match m, hv with
            | 0, hv => exact ⟨d1, x1, (Option.some.inj hv).symm, ((a1.keep B6 k7).same s8).keep (B7.same s8) .updb, f1.sm⟩
            | 1, hv => exact ⟨d2, x2, (Option.some.inj hv).symm, (a2.same s8).keep (B7.same s8) .updb, m2⟩
            | m + 2, hv => cases hv
          obtain ⟨d, x, rfl, ad, md⟩ := go
          generalize upd (upd H7 t (.lst [.ref d1, .ref d2])) b o = H8 at *
          have sl8 := sl.keep B4 k8
          refine ⟨_, sl8.ls, ?_, ds ++ [(d, x)], by simp [hds], (k4.trans k8).at hD, B8.off nD (ne_of_none B3.sc hD).symm, sl8.push ad md⟩
          rw [List.length_map]
          exact small1000 (by omega)
        · rintro H4 ⟨ds, hds, k4, B4, sl⟩
          exact ⟨D, ds, rfl, B4, PA.keep B3 k4, sl, hds⟩
      rintro _ H4 ⟨D, ds, rfl, B4, PA4, sl, hds⟩
      -- none of them with an empty tuple
      refine ⟨fun σ H' => ∃ (D : Addr) (ds : List (Addr × Sd)), σ = [some (.ref a), some (.ref b), some (.int (0 + (i : Nat))), some (.ref p), none, some (.ref D), v6, v7, none, v9, v10] ∧ BagAt H' b l ns ∧ PlanAt H' p q0 n ts ∧ SL b H' D ds ∧ ds.length = 2, ?_, ?_⟩
      · refine ⟨_, rfl, D, _, SqL, rfl, .inl rfl, SqL.of sl.ls, fun J w D2 hD2 => ?_⟩
        refine lc_it w (fun i H' => ∃ es : List (Addr × Sd), es.length = i ∧ Same H4 H' ∧ SL b H' D2 es) ⟨[], rfl, same_upd hD2, ⟨upd_same, B4.ne_new hD2, fun e he => by cases he⟩⟩ (fun i H' _ p => by obtain ⟨es, _, s, _⟩ := p; exact SqL.of (s _ _ sl.ls)) ?_ ?_
        · rintro j x H5 H6 hj ⟨es, hes, s5, sl5⟩ ⟨rfl, gx⟩
          rw [List.getElem?_map] at gx
          obtain ⟨e, he, rfl⟩ := Option.map_eq_some_iff.mp gx
          obtain ⟨ae, me⟩ := sl.al e (List.mem_of_getElem? he)
          obtain ⟨u, v, h1, _, _⟩ := parts ae me
          rw [List.length_map, hds] at hj
          have B5 := B4.same s5
          refine ⟨rfl, ?_⟩
          refine ⟨(by show 0 ≤ sizeLine; exact Nat.zero_le _), fun z hz => ?_⟩
          have s6 := same_upd (o := .tup []) hz
          have e6 : upd H6 z (.tup []) z = some (.tup []) := upd_same
          generalize upd H6 z (.tup []) = H7 at *
          refine ⟨_, rfl, _, rfl, e.1, _, rfl, SqT.of (s6 _ _ (s5 _ _ h1)), fun hw => absurd hw.1 (show ¬ HT.sIx 3 0 (some 1) = 0 by decide), fun _ p2 hp2 => ?_⟩
          have ec : cutV [V.str e.2.w1, u, v] (some 1) none = [V.str e.2.w1, u, v].drop 1 := cut_hi (k := 1) (by show 1 ≤ 3; decide)
          rw [ec]
          have s7 := same_upd (o := .tup ([V.str e.2.w1, u, v].drop 1)) hp2
          have e7 : upd H7 p2 (.tup ([V.str e.2.w1, u, v].drop 1)) p2 = some (.tup ([V.str e.2.w1, u, v].drop 1)) := upd_same
          generalize upd H7 p2 (.tup ([V.str e.2.w1, u, v].drop 1)) = H8 at *
          have s58 := s6.trans s7
          have s48 := s5.trans s58
          have sl8 := sl5.keep B5 (.of_same s58)
          refine ⟨_, _, .tup (SqT.of (s7 _ _ e6)) .nil, tail_at (ae.same s48) (s48 _ _ h1) e7, rfl, sh_ds _, _, rfl, ite2 (fun h => ?_) (fun h => ?_)⟩
          · refine ⟨three, fun d hd => ?_⟩
            have s9 := same_upd (o := .tup [.str "merge", .int 0, .int 1]) hd
            have ad : SdAt (upd H8 d (.tup [.str "merge", .int 0, .int 1])) d (.mrg 0 1) := upd_same
            generalize upd H8 d (.tup [.str "merge", .int 0, .int 1]) = H9 at *
            have sl9 := sl8.keep (B5.same s58) (.of_same s9)
            refine ⟨_, sl9.ls, ?_, es ++ [(d, .mrg 0 1)], by simp [hes], ?_, sl9.push (x := .mrg 0 1) ad ⟨sm_small (by decide) (by decide), sm_small (by decide) (by decide)⟩⟩
            · rw [List.length_map]
              exact small1000 (by omega)
            · intro c o ec
              rw [upd_ne (ne_of_none ec hD2)]
              exact s9 _ _ (s48 _ _ ec)
          · refine ⟨_, rfl, _, sl8.ls, ?_, es ++ [e], by simp [hes], ?_, sl8.push (ae.same s48) me⟩
            · rw [List.length_map]
              exact small1000 (by omega)
            · intro c o ec
              rw [upd_ne (ne_of_none ec hD2)]
              exact s48 _ _ ec
        · rintro H5 ⟨es, hes, s5, sl5⟩
          rw [List.length_map] at hes
          exact ⟨D2, es, rfl, B4.same s5, PA4.same' s5, sl5, hes.trans hds⟩
      rintro _ H5 ⟨D2, es, rfl, B5, PA5, sl5, hes⟩
      obtain ⟨⟨d0, x0⟩, ⟨d1, x1⟩, rfl⟩ := two_of hes
      obtain ⟨a0, m0⟩ := sl5.al (d0, x0) List.mem_cons_self
      obtain ⟨a1, m1⟩ := sl5.al (d1, x1) (List.mem_cons_of_mem _ List.mem_cons_self)
      have eD : H5 D2 = some (.lst [.ref d0, .ref d1]) := sl5.ls
      -- their objects
      refine ⟨fun σ H' => ∃ (o0 o1 : Addr), σ = [some (.ref a), some (.ref b), some (.int (0 + (i : Nat))), some (.ref p), none, some (.ref D2), some (.ref o0), some (.ref o1), none, v9, v10] ∧ Tu CS CM CR b l ns p q0 n ts D2 d0 d1 x0 x1 o0 o1 H', ?_, ?_⟩
      · refine ⟨_, rfl, D2, _, _, .ref d0, rfl, rfl, SqL.of eD, rfl, d0, x0, rfl, a0, fun o0 H6 s6 n0 st0 => ?_⟩
        refine ⟨_, rfl, D2, _, _, .ref d1, rfl, rfl, SqL.of (s6 _ _ eD), rfl, d1, x1, rfl, a1.same s6, fun o1 H7 s7 n1 st1 => ?_⟩
        have s57 := s6.trans s7
        exact ⟨_, _, rfl, o0, o1, rfl, B5.same s57, PA5.same' s57, n4, l9, s57 _ _ eD, sl5.nb, a0.same s57, a1.same s57, m0, m1, st0.same s7, st1⟩
      rintro _ H6 ⟨o0, o1, rfl, tu⟩
      -- their texts
      refine ⟨fun σ H' => σ = [some (.ref a), some (.ref b), some (.int (0 + (i : Nat))), some (.ref p), none, some (.ref D2), some (.ref o0), some (.ref o1), none, v9, v10] ∧ Tu CS CM CR b l ns p q0 n ts D2 d0 d1 x0 x1 o0 o1 H', ?_, ?_⟩
      · refine txt_any (i := 6) (fun R r => ⟨_, rfl, r⟩) tu.s0 tu.m0 fun H7 s7 => ?_
        have tu7 := tu.same s7
        refine txt_any (i := 7) (fun R r => ⟨_, rfl, r⟩) tu7.s1 tu7.m1 fun H8 s8 => ?_
        have tu8 := tu7.same s8
        refine ⟨two', fun L1 hL1 => ?_⟩
        have s9 := same_upd (o := .lst [.str x0.tx, .str x1.tx]) hL1
        have e9 : upd H8 L1 (.lst [.str x0.tx, .str x1.tx]) L1 = some (.lst [.str x0.tx, .str x1.tx]) := upd_same
        have tu9 := tu8.same s9
        generalize upd H8 L1 (.lst [.str x0.tx, .str x1.tx]) = H9 at *
        refine ⟨_, rfl, D2, _, SqL, rfl, .inl rfl, SqL.of tu9.eD, fun J w L2 hL2 => ?_⟩
        refine lc_it w (fun i H' => Same H9 H' ∧ H' L2 = some (.lst ((([x0.tx, x1.tx] : List Str).take i).map V.str))) ⟨same_upd hL2, upd_same⟩ (fun i H' _ p => SqL.of (p.1 _ _ tu9.eD)) ?_ ?_
        · rintro j y H10 H11 hj ⟨s10, eL⟩ ⟨rfl, gx⟩
          have hj : j < 2 := hj
          have tu10 := tu9.same s10
          refine ⟨rfl, ?_⟩
          refine ⟨_, rfl, ?_⟩
          have go : ∃ d x, y = .ref d ∧ SdAt H11 d x ∧ x.Sm ∧ (([x0.tx, x1.tx] : List Str).take (j + 1)) = (([x0.tx, x1.tx] : List Str).take j) ++ [x.tx] := by
            match j, hj, gx with
            | 0, _, gx => exact ⟨d0, x0, (Option.some.inj gx).symm, tu10.a0, tu10.m0, rfl⟩
            | 1, _, gx => exact ⟨d1, x1, (Option.some.inj gx).symm, tu10.a1, tu10.m1, rfl⟩
          obtain ⟨d, x, rfl, ad, md, ej⟩ := go
          refine ⟨d, x, rfl, ad, md, fun H12 s12 => ?_⟩
          refine ⟨_, s12 _ _ eL, ?_, ?_, ?_⟩
          · rw [List.length_map, List.length_take]
            exact small1000 (by omega)
          · intro c o ec
            rw [upd_ne (ne_of_none ec hL2)]
            exact s12 _ _ (s10 _ _ ec)
          · rw [upd_same, ej, List.map_append]
            rfl
        · rintro H10 ⟨s10, eL⟩
          refine ⟨_, _, rfl, lk2s (s10 _ _ e9) eL, fun H11 s11 => ⟨true, rfl, if_f rfl ⟨rfl, (tu9.same s10).same s11⟩⟩⟩
      rintro _ H7 ⟨rfl, tu⟩
      -- equal or not
      refine ⟨_, rfl, D2, _, _, .ref d0, rfl, rfl, SqL.of tu.eD, rfl, _, rfl, D2, _, _, .ref d1, rfl, rfl, SqL.of tu.eD, rfl, _, _, dat_at tu.a0, dat_at tu.a1, sh_dat _, sh_dat _, ?_⟩
      rw [eq_dat]
      refine ⟨fun σ H' => ∃ Fo : Addr, σ = [some (.ref a), some (.ref b), some (.int (0 + (i : Nat))), some (.ref p), none, some (.ref D2), some (.ref o0), some (.ref o1), none, some (.bl (x0.eqb x1)), some (.ref Fo)] ∧ Tu CS CM CR b l ns p q0 n ts D2 d0 d1 x0 x1 o0 o1 H' ∧ H' Fo = some (.lst [.bl (x0.eqb x1), .bl (!x0.eqb x1), .bl true, .bl false]), ?_, ?_⟩
      · refine ⟨_, rfl, _, rfl, eq_any L.k1 L.k2 L.k3 tu.s0 tu.s1 ?_⟩
        refine ⟨_, rfl, _, rfl, ne_any L.k1 L.k2 L.k3 tu.s0 tu.s1 ?_⟩
        refine ⟨_, rfl, _, rfl, D2, _, _, .ref d0, rfl, rfl, SqL.of tu.eD, rfl, d0, x0, rfl, tu.a0, fun o2 H8 s8 n2 st2 => ?_⟩
        have tu8 := tu.same s8
        refine eq_any L.k1 L.k2 L.k3 tu8.s0 st2 ?_
        refine ⟨_, rfl, _, rfl, D2, _, _, .ref d0, rfl, rfl, SqL.of tu8.eD, rfl, d0, x0, rfl, tu8.a0, fun o3 H9 s9 n3 st3 => ?_⟩
        have tu9 := tu8.same s9
        refine ne_any L.k1 L.k2 L.k3 tu9.s0 st3 ?_
        rw [eqb_me]
        refine ⟨four', fun Fo hFo => ?_⟩
        exact ⟨Fo, rfl, tu9.same (same_upd hFo), upd_same⟩
      rintro _ H8 ⟨Fo, rfl, tu, eF⟩
      refine ⟨fun σ H' => σ = [some (.ref a), some (.ref b), some (.int (0 + (i : Nat))), some (.ref p), none, some (.ref D2), some (.ref o0), some (.ref o1), none, some (.bl (x0.eqb x1)), some (.ref Fo)] ∧ Tu CS CM CR b l ns p q0 n ts D2 d0 d1 x0 x1 o0 o1 H', ?_, ?_⟩
      · refine ⟨_, rfl, _, rfl, _, rfl, _, rfl, four', fun Du hDu => ?_⟩
        have s9 := same_upd (o := .lst [.bl (x0.eqb x1), .bl (!x0.eqb x1), .bl true, .bl false]) hDu
        refine ⟨_, _, rfl, lk4b (s9 _ _ eF) upd_same, fun H10 s10 => ⟨true, rfl, if_f rfl ?_⟩⟩
        have tu10 := (tu.same s9).same s10
        refine ⟨_, rfl, _, rfl, D2, _, _, .ref d0, rfl, rfl, SqL.of tu10.eD, rfl, ?_⟩
        refine txt_any (i := 6) (fun R r => ⟨_, rfl, r⟩) tu10.s0 tu10.m0 fun H11 s11 => ?_
        have tu11 := tu10.same s11
        refine ⟨four', fun Ls hLs => ?_⟩
        have s12 := same_upd (o := .lst [.non, .ref d0, .str x0.tx, .int 0]) hLs
        have tu12 := tu11.same s12
        have e12 : upd H11 Ls (.lst [.non, .ref d0, .str x0.tx, .int 0]) Ls = some (.lst [.non, .ref d0, .str x0.tx, .int 0]) := upd_same
        generalize upd H11 Ls (.lst [.non, .ref d0, .str x0.tx, .int 0]) = H12 at *
        obtain ⟨u, v, hd0, _, _⟩ := parts tu12.a0 tu12.m0
        refine in_any L.k1 L.k2 L.k3 tu12.s0 e12 (fun y hy => ?_) ⟨_, rfl, if_f rfl ⟨rfl, tu12⟩⟩
        simp only [List.mem_cons, List.not_mem_nil, or_false] at hy
        rcases hy with rfl | rfl | rfl | rfl
        · exact .inr (.inl rfl)
        · exact .inr (.inr (.inr ⟨d0, _, rfl, hd0⟩))
        · exact .inl ⟨_, rfl⟩
        · exact .inr (.inr (.inl ⟨_, rfl⟩))
      rintro _ H9 ⟨rfl, tu⟩
      -- read again
      refine ⟨_, rfl, D2, _, _, .ref d0, rfl, rfl, SqL.of tu.eD, rfl, _, rfl, _, rfl, b, l, p, q0, ns, n, ts, rfl, tu.bag, tu.pl, n4, l9, fun d3 H10 x3 k10 B10 a3 f3 => ?_⟩
      have tu10 := tu.keep k10 B10
      refine ⟨_, _, dat_at tu10.a0, dat_at a3, sh_dat _, sh_dat _, _, rfl, ?_⟩
      rw [eq_dat]
      refine ite2 (fun h => ?_) (fun h => if_f rfl ⟨_, _, _, _, _, _, _, rfl, tu10.bag⟩)
      have f0 : x0.Fine := by
        rw [(Sd.eqb_iff x0 x3).mp h]
        exact f3
      refine txt_any (i := 6) (fun R r => ⟨_, rfl, r⟩) tu10.s0 tu10.m0 fun H11 s11 => ?_
      have tu11 := tu10.same s11
      refine ⟨x0, rfl, f0, fun o4 H12 s12 n12 st4 => ?_⟩
      have tu12 := tu11.same s12
      refine ⟨_, rfl, ne_any L.k1 L.k2 L.k3 st4 tu12.s0 ?_⟩
      rw [eqb_me]
      exact ⟨_, rfl, if_f rfl ⟨_, _, _, _, _, _, _, rfl, tu12.bag⟩⟩
    rintro σ Hz -
    -- unlike kinds
    refine ⟨fun _ _ => True, ?_, ?_⟩
    · refine ⟨one', fun u1 hu1 => ?_⟩
      refine mkS (H := upd Hz u1 (.tup [.int 1])) (t := u1) (ps := [1]) upd_same fun a1 G1 g1 w1 => ?_
      refine mkM fun a2 G2 g2 w2 => ?_
      refine eq1 L.k1 (w1.same g2) w2 ⟨_, rfl, if_f rfl ?_⟩
      refine mkM fun a3 G3 g3 w3 => ?_
      refine ⟨one', fun u2 hu2 => ⟨one', fun u3 hu3 => ?_⟩⟩
      have j3 := (same_upd (o := .tup [.int 0]) hu2).trans (same_upd (o := .tup [.int 1]) hu3)
      refine mkR (ss := [0]) (es := [1]) (same_upd hu3 _ _ upd_same) upd_same fun a4 G4 g4 w4 => ?_
      refine eq2 L.k2 ((w3.same j3).same g4) w4 ⟨_, rfl, if_f rfl ?_⟩
      refine ⟨one', fun u4 hu4 => ?_⟩
      refine mkS (H := upd G4 u4 (.tup [.int 1])) (t := u4) (ps := [1]) upd_same fun a5 G5 g5 w5 => ?_
      refine ⟨one', fun u5 hu5 => ⟨one', fun u6 hu6 => ?_⟩⟩
      have j6 := (same_upd (o := .tup [.int 0]) hu5).trans (same_upd (o := .tup [.int 1]) hu6)
      refine mkR (ss := [0]) (es := [1]) (same_upd hu6 _ _ upd_same) upd_same fun a6 G6 g6 w6 => ?_
      exact eq1 L.k1 ((w5.same j6).same g6) w6 ⟨_, rfl, if_f rfl True.intro⟩
    rintro σ2 Hy -
    -- two texts
    refine ⟨two', fun u1 hu1 => ?_⟩
    refine mkS (H := upd Hy u1 (.tup [.int 1, .int 3])) (t := u1) (ps := [1, 3]) upd_same fun a1 G1 g1 w1 => ?_
    obtain ⟨dx1, v1, z1, z2⟩ := w1
    refine ⟨a1, dx1, _, rfl, z1, lkN (by decide +kernel) (by decide +kernel), a1, .spl 2 [1, 3], rfl, True.intro, ⟨dx1, v1, z1, z2⟩, ⟨sm_small (by decide) (by decide), ⟨by decide, fun z hz => ?_⟩⟩, fun G2 g2 => ⟨rfl, _, rfl, if_t (by decide +kernel) ?_⟩⟩
    · simp only [List.mem_cons, List.not_mem_nil, or_false] at hz
      rcases hz with rfl | rfl <;> exact sm_small (by decide) (by decide)
    refine ⟨one', fun u2 hu2 => ⟨two', fun u3 hu3 => ?_⟩⟩
    refine mkR (ss := [0]) (es := [1, 0]) (same_upd hu3 _ _ upd_same) upd_same fun a4 G4 g4 w4 => ?_
    obtain ⟨dx2, v2, v3, z3, z4, z5⟩ := w4
    refine ⟨a4, dx2, _, rfl, z3, lkN (by decide +kernel) (by decide +kernel), a4, .ren [0] [1, 0], rfl, True.intro, ⟨dx2, v2, v3, z3, z4, z5⟩, ⟨⟨by decide, fun z hz => ?_⟩, ⟨by decide, fun z hz => ?_⟩⟩, fun G5 g5 => ⟨rfl, ?_⟩⟩
    · rw [List.mem_singleton.mp hz]
      exact sm_small (by decide) (by decide)
    · simp only [List.mem_cons, List.not_mem_nil, or_false] at hz
      rcases hz with rfl | rfl <;> exact sm_small (by decide) (by decide)
    rw [decide_eq_true (show V.str (Sd.tx (.ren [0] [1, 0])) = V.str (Str.ofString "rename 0 1,0") by decide +kernel)]
    exact q G5
end
end Lw

set_option Elab.async false
set_option linter.all false
set_option maxRecDepth 100000
namespace Lw
open PySem L2
theorem kit_ref {K : PySem.W.Frag} {A C : Addr} (h0 : A ≠ C) (h1 : PySem.W.isClsIn K C = true) (h2 : PySem.W.typeIn K (.ref C) = some (.type "type")) (h3 : PySem.W.subIn K (.ref A) (.ref C) = some false) : PySem.W.kitOne K (.ref A) (.ref C) = some false := by
  have e1 : ((PySem.W.clsIn K C).isSome && PySem.W.typeIn K (.ref C) == some (.type "type")) = true := by
    have h1' : (PySem.W.clsIn K C).isSome = true := h1
    rw [h1', h2]
    rfl
  show (if (Value.ref A == Value.ref C) = true then some true else if ((PySem.W.clsIn K C).isSome && PySem.W.typeIn K (.ref C) == some (.type "type")) = true then PySem.W.subIn K (.ref A) (.ref C) else none) = some false
  rw [if_neg (by simpa using h0), if_pos e1]
  exact h3
theorem nf_me {K : PySem.W.Frag} {C : Addr} : PySem.W.notFirst K C (.ref C) = true := by
  unfold PySem.W.notFirst
  simp
theorem nf_sub {K : PySem.W.Frag} {C D : Addr} (h : PySem.W.subIn K (.ref D) (.ref C) = some false) : PySem.W.notFirst K C (.ref D) = true := by
  unfold PySem.W.notFirst
  rw [h]
  simp
end Lw

set_option Elab.async false
set_option linter.all false
set_option maxRecDepth 100000
namespace Lw
open PySem L2
theorem exm_own {K : PySem.W.Frag} {C S : Addr} (h1 : PySem.W.subIn K (.ref S) (.type "BaseException") = some true) (h2 : PySem.W.isClsIn K S = true) (h3 : PySem.W.typeIn K (.ref S) = some (.type "type")) (h4 : PySem.W.subIn K (.ref C) (.ref S) = some true) :
    PySem.W.exmOne K (.ref C) (.ref S) = some true := by
  have e1 : (PySem.W.subIn K (.ref S) (.type "BaseException") == some true) = true := by rw [h1] <;> rfl
  have e2 : ((PySem.W.clsIn K S).isSome && PySem.W.typeIn K (.ref S) == some (.type "type")) = true := by
    have h2' : (PySem.W.clsIn K S).isSome = true := h2
    rw [h2', h3] <;> rfl
  show (if (PySem.W.subIn K (.ref S) (.type "BaseException") == some true) = true then (if ((PySem.W.clsIn K S).isSome && PySem.W.typeIn K (.ref S) == some (.type "type")) = true then PySem.W.subIn K (.ref C) (.ref S) else none) else none) = some true
  rw [if_pos e1, if_pos e2]
  exact h4
theorem hd_at {K : PySem.W.Frag} {c P : Addr} (e : PySem.W.codeHdIn K c P = true) : ∃ (e : Value) (dd : Option Addr) (vs : Array Value) (sl : Array (Option Value)), K.lookup c = some ⟨e, dd, .fields vs, sl⟩ ∧ vs[11]? = some (.ref P) := by
  unfold PySem.W.codeHdIn at e
  split at e
  · rename_i vs _ hk
    simp only [Bool.and_eq_true] at e
    obtain ⟨⟨⟨⟨⟨e1, _⟩, _⟩, _⟩, _⟩, _⟩ := e
    split at e1
    · rename_i P' h11
      have hP : P' = P := beq_iff_eq.mp e1
      subst hP
      exact ⟨_, _, _, _, hk, h11⟩
    · cases e1
  · cases e
theorem kit_no {K : PySem.W.Frag} {C : Addr} {T : String} (h1 : PySem.W.isClsIn K C = true) (h2 : PySem.W.typeIn K (.ref C) = some (.type "type")) (h3 : PySem.W.subIn K (.type T) (.ref C) = some false) : PySem.W.kitOne K (.type T) (.ref C) = some false := by
  have e1 : ((PySem.W.clsIn K C).isSome && PySem.W.typeIn K (.ref C) == some (.type "type")) = true := by
    have h1' : (PySem.W.clsIn K C).isSome = true := h1
    rw [h1', h2]
    rfl
  show (if (Value.type T == Value.ref C) = true then some true else if ((PySem.W.clsIn K C).isSome && PySem.W.typeIn K (.ref C) == some (.type "type")) = true then PySem.W.subIn K (.type T) (.ref C) else none) = some false
  rw [if_neg (show ¬ ((Value.type T == Value.ref C) = true) from Bool.false_ne_true), if_pos e1]
  exact h3
theorem kit_me {K : PySem.W.Frag} {C : Addr} : PySem.W.kitOne K (.ref C) (.ref C) = some true := by
  unfold PySem.W.kitOne
  simp
set_option maxHeartbeats 4000000 in
theorem all_mk {l : PySem.W.OpenLaw} {w : World} {K : PySem.W.Frag} {h : Heap} {mg : Str → Option Value} {fa CS CM CR f_bag f_pull f_of f_plan f_like f_numt f_iniS f_eqS f_txtS f_iniM f_eqM f_txtM f_iniR f_eqR f_txtR f_isn f_pn f_pns f_ps f_cnt f_mgr f_shf f_stf f_odd f_stp f_stt f_law : Addr} (X : K.In h) (G : h.Ns mainGlobals mg) (hfa : mg "law" = some (.ref fa))
    {nm_S qc_S : Str} {N_S : Addr} {bs_S bm_S : List Value} {hd_S : Bool} {sn_S : List Str} {su_S : List Value} {ab_S : Bool} {co_S : Option Bool} {dd_S : Option Addr} {m0_S m1_S m2_S m3_S m5_S : Option Value} {ni_S : String}
    {nm_M qc_M : Str} {N_M : Addr} {bs_M bm_M : List Value} {hd_M : Bool} {sn_M : List Str} {su_M : List Value} {ab_M : Bool} {co_M : Option Bool} {dd_M : Option Addr} {m0_M m1_M m2_M m3_M m5_M : Option Value} {ni_M : String}
    {nm_R qc_R : Str} {N_R : Addr} {bs_R bm_R : List Value} {hd_R : Bool} {sn_R : List Str} {su_R : List Value} {ab_R : Bool} {co_R : Option Bool} {dd_R : Option Addr} {m0_R m1_R m2_R m3_R m5_R : Option Value} {ni_R : String}
    {od_bag an_bag : Option Addr} {sl_bag : Array (Option Value)} {oc_bag kV_bag dc_bag pm_bag cd_bag ct_bag : Value}
    {od_pull an_pull : Option Addr} {sl_pull : Array (Option Value)} {oc_pull kV_pull dc_pull pm_pull cd_pull ct_pull : Value}
    {od_of an_of : Option Addr} {sl_of : Array (Option Value)} {oc_of kV_of dc_of pm_of cd_of ct_of : Value}
    {od_plan an_plan : Option Addr} {sl_plan : Array (Option Value)} {oc_plan kV_plan dc_plan pm_plan cd_plan ct_plan : Value}
    {od_like an_like : Option Addr} {sl_like : Array (Option Value)} {oc_like kV_like dc_like pm_like cd_like ct_like : Value}
    {od_numt an_numt : Option Addr} {sl_numt : Array (Option Value)} {oc_numt kV_numt dc_numt pm_numt cd_numt ct_numt : Value}
    {od_iniS an_iniS : Option Addr} {sl_iniS : Array (Option Value)} {oc_iniS kV_iniS dc_iniS pm_iniS cd_iniS ct_iniS : Value}
    {od_eqS an_eqS : Option Addr} {sl_eqS : Array (Option Value)} {oc_eqS kV_eqS dc_eqS pm_eqS cd_eqS ct_eqS : Value}
    {od_txtS an_txtS : Option Addr} {sl_txtS : Array (Option Value)} {oc_txtS kV_txtS dc_txtS pm_txtS cd_txtS ct_txtS : Value}
    {od_iniM an_iniM : Option Addr} {sl_iniM : Array (Option Value)} {oc_iniM kV_iniM dc_iniM pm_iniM cd_iniM ct_iniM : Value}
    {od_eqM an_eqM : Option Addr} {sl_eqM : Array (Option Value)} {oc_eqM kV_eqM dc_eqM pm_eqM cd_eqM ct_eqM : Value}
    {od_txtM an_txtM : Option Addr} {sl_txtM : Array (Option Value)} {oc_txtM kV_txtM dc_txtM pm_txtM cd_txtM ct_txtM : Value}
    {od_iniR an_iniR : Option Addr} {sl_iniR : Array (Option Value)} {oc_iniR kV_iniR dc_iniR pm_iniR cd_iniR ct_iniR : Value}
    {od_eqR an_eqR : Option Addr} {sl_eqR : Array (Option Value)} {oc_eqR kV_eqR dc_eqR pm_eqR cd_eqR ct_eqR : Value}
    {od_txtR an_txtR : Option Addr} {sl_txtR : Array (Option Value)} {oc_txtR kV_txtR dc_txtR pm_txtR cd_txtR ct_txtR : Value}
    {t4 : Tok}
    {od_isn an_isn : Option Addr} {sl_isn : Array (Option Value)} {oc_isn kV_isn dc_isn pm_isn cd_isn ct_isn : Value}
    {od_pn an_pn : Option Addr} {sl_pn : Array (Option Value)} {oc_pn kV_pn dc_pn pm_pn cd_pn ct_pn : Value}
    {od_pns an_pns : Option Addr} {sl_pns : Array (Option Value)} {oc_pns kV_pns dc_pns pm_pns cd_pns ct_pns : Value}
    {od_ps an_ps : Option Addr} {sl_ps : Array (Option Value)} {oc_ps kV_ps dc_ps pm_ps cd_ps ct_ps : Value}
    {od_cnt an_cnt : Option Addr} {sl_cnt : Array (Option Value)} {oc_cnt kV_cnt dc_cnt pm_cnt cd_cnt ct_cnt : Value}
    {od_mgr an_mgr : Option Addr} {sl_mgr : Array (Option Value)} {oc_mgr kV_mgr dc_mgr pm_mgr cd_mgr ct_mgr : Value}
    {od_shf an_shf : Option Addr} {sl_shf : Array (Option Value)} {oc_shf kV_shf dc_shf pm_shf cd_shf ct_shf : Value}
    {od_stf an_stf : Option Addr} {sl_stf : Array (Option Value)} {oc_stf kV_stf dc_stf pm_stf cd_stf ct_stf : Value}
    {od_odd an_odd : Option Addr} {sl_odd : Array (Option Value)} {oc_odd kV_odd dc_odd pm_odd cd_odd ct_odd : Value}
    {od_stp an_stp : Option Addr} {sl_stp : Array (Option Value)} {oc_stp kV_stp dc_stp pm_stp cd_stp ct_stp : Value}
    {od_stt an_stt : Option Addr} {sl_stt : Array (Option Value)} {oc_stt kV_stt dc_stt pm_stt cd_stt ct_stt : Value}
    {od_law an_law : Option Addr} {sl_law : Array (Option Value)} {oc_law kV_law dc_law pm_law cd_law ct_law : Value}
    (z_len : PySem.W.nsIn K mainGlobals "len" = some none)
    (z_list : PySem.W.nsIn K mainGlobals "list" = some none)
    (z_tuple : PySem.W.nsIn K mainGlobals "tuple" = some none)
    (z_bool : PySem.W.nsIn K mainGlobals "bool" = some none)
    (z_int : PySem.W.nsIn K mainGlobals "int" = some none)
    (z_str : PySem.W.nsIn K mainGlobals "str" = some none)
    (z_isinstance : PySem.W.nsIn K mainGlobals "isinstance" = some none)
    (z_all : PySem.W.nsIn K mainGlobals "all" = some none)
    (z_zip : PySem.W.nsIn K mainGlobals "zip" = some none)
    (z_range : PySem.W.nsIn K mainGlobals "range" = some none)
    (z_set : PySem.W.nsIn K mainGlobals "set" = some none)
    (z_sorted : PySem.W.nsIn K mainGlobals "sorted" = some none)
    (ihn : PySem.W.specialIn K (.builtin "object.__class__") "__get__" = some (some (.builtin "getset_descriptor.__get__")))
    (ihtk : PySem.W.takesIn K (.builtin "object.__class__") = some true)
    (aCS : PySem.W.nsIn K mainGlobals "Split" = some (some (.ref CS)))
    (pgS : PySem.W.plainGet K CS Str.empty = true)
    (hdS : PySem.W.hasDictIn K CS = true)
    (poS : PySem.W.plainOver K CS = true)
    (saS : PySem.W.findIn K (.ref CS) "__setattr__" = some (some (.builtin "object.__setattr__")))
    (mkS : PySem.W.makesIn K CS = true)
    (kcS : PySem.W.keepIn K (.ref CS) = true)
    (nAS : PySem.W.findIn K (.ref CS) "state" = some none)
    (nBS : PySem.W.findIn K (.ref CS) "part" = some none)
    (haS : PySem.W.findIn K (.ref CS) "__class__" = some (some (.builtin "object.__class__")))
    (hmS : PySem.W.mroIn K CS (.type "object") = some true)
    (icS : PySem.W.isClsIn K CS = true)
    (tyS : PySem.W.typeIn K (.ref CS) = some (.type "type"))
    (neS : PySem.W.findIn K (.ref CS) "__ne__" = some (some (.builtin "object.__ne__")))
    (u_NoneType_S : PySem.W.subIn K (.type "NoneType") (.ref CS) = some false)
    (u_int_S : PySem.W.subIn K (.type "int") (.ref CS) = some false)
    (u_tuple_S : PySem.W.subIn K (.type "tuple") (.ref CS) = some false)
    (u_str_S : PySem.W.subIn K (.type "str") (.ref CS) = some false)
    (d_NoneType_S : PySem.W.subIn K (.ref CS) (.type "NoneType") = some false)
    (d_int_S : PySem.W.subIn K (.ref CS) (.type "int") = some false)
    (d_list_S : PySem.W.subIn K (.ref CS) (.type "list") = some false)
    (d_tuple_S : PySem.W.subIn K (.ref CS) (.type "tuple") = some false)
    (d_str_S : PySem.W.subIn K (.ref CS) (.type "str") = some false)
    (xLS : K.lookup CS = some (excClassObj nm_S qc_S CS N_S bs_S bm_S hd_S sn_S su_S ab_S co_S dd_S m0_S m1_S m2_S m3_S m5_S ni_S))
    (rVS : bm_S.contains (.type "object") = true)
    (aCM : PySem.W.nsIn K mainGlobals "Merge" = some (some (.ref CM)))
    (pgM : PySem.W.plainGet K CM Str.empty = true)
    (hdM : PySem.W.hasDictIn K CM = true)
    (poM : PySem.W.plainOver K CM = true)
    (saM : PySem.W.findIn K (.ref CM) "__setattr__" = some (some (.builtin "object.__setattr__")))
    (mkM : PySem.W.makesIn K CM = true)
    (kcM : PySem.W.keepIn K (.ref CM) = true)
    (nAM : PySem.W.findIn K (.ref CM) "low" = some none)
    (nBM : PySem.W.findIn K (.ref CM) "high" = some none)
    (haM : PySem.W.findIn K (.ref CM) "__class__" = some (some (.builtin "object.__class__")))
    (hmM : PySem.W.mroIn K CM (.type "object") = some true)
    (icM : PySem.W.isClsIn K CM = true)
    (tyM : PySem.W.typeIn K (.ref CM) = some (.type "type"))
    (neM : PySem.W.findIn K (.ref CM) "__ne__" = some (some (.builtin "object.__ne__")))
    (u_NoneType_M : PySem.W.subIn K (.type "NoneType") (.ref CM) = some false)
    (u_int_M : PySem.W.subIn K (.type "int") (.ref CM) = some false)
    (u_tuple_M : PySem.W.subIn K (.type "tuple") (.ref CM) = some false)
    (u_str_M : PySem.W.subIn K (.type "str") (.ref CM) = some false)
    (d_NoneType_M : PySem.W.subIn K (.ref CM) (.type "NoneType") = some false)
    (d_int_M : PySem.W.subIn K (.ref CM) (.type "int") = some false)
    (d_list_M : PySem.W.subIn K (.ref CM) (.type "list") = some false)
    (d_tuple_M : PySem.W.subIn K (.ref CM) (.type "tuple") = some false)
    (d_str_M : PySem.W.subIn K (.ref CM) (.type "str") = some false)
    (xLM : K.lookup CM = some (excClassObj nm_M qc_M CM N_M bs_M bm_M hd_M sn_M su_M ab_M co_M dd_M m0_M m1_M m2_M m3_M m5_M ni_M))
    (rVM : bm_M.contains (.type "object") = true)
    (aCR : PySem.W.nsIn K mainGlobals "Renaming" = some (some (.ref CR)))
    (pgR : PySem.W.plainGet K CR Str.empty = true)
    (hdR : PySem.W.hasDictIn K CR = true)
    (poR : PySem.W.plainOver K CR = true)
    (saR : PySem.W.findIn K (.ref CR) "__setattr__" = some (some (.builtin "object.__setattr__")))
    (mkR : PySem.W.makesIn K CR = true)
    (kcR : PySem.W.keepIn K (.ref CR) = true)
    (nAR : PySem.W.findIn K (.ref CR) "state_numbers" = some none)
    (nBR : PySem.W.findIn K (.ref CR) "edge_numbers" = some none)
    (haR : PySem.W.findIn K (.ref CR) "__class__" = some (some (.builtin "object.__class__")))
    (hmR : PySem.W.mroIn K CR (.type "object") = some true)
    (icR : PySem.W.isClsIn K CR = true)
    (tyR : PySem.W.typeIn K (.ref CR) = some (.type "type"))
    (neR : PySem.W.findIn K (.ref CR) "__ne__" = some (some (.builtin "object.__ne__")))
    (u_NoneType_R : PySem.W.subIn K (.type "NoneType") (.ref CR) = some false)
    (u_int_R : PySem.W.subIn K (.type "int") (.ref CR) = some false)
    (u_tuple_R : PySem.W.subIn K (.type "tuple") (.ref CR) = some false)
    (u_str_R : PySem.W.subIn K (.type "str") (.ref CR) = some false)
    (d_NoneType_R : PySem.W.subIn K (.ref CR) (.type "NoneType") = some false)
    (d_int_R : PySem.W.subIn K (.ref CR) (.type "int") = some false)
    (d_list_R : PySem.W.subIn K (.ref CR) (.type "list") = some false)
    (d_tuple_R : PySem.W.subIn K (.ref CR) (.type "tuple") = some false)
    (d_str_R : PySem.W.subIn K (.ref CR) (.type "str") = some false)
    (xLR : K.lookup CR = some (excClassObj nm_R qc_R CR N_R bs_R bm_R hd_R sn_R su_R ab_R co_R dd_R m0_R m1_R m2_R m3_R m5_R ni_R))
    (rVR : bm_R.contains (.type "object") = true)
    (suSM : PySem.W.subIn K (.ref CS) (.ref CM) = some false)
    (rVnSM : CS ≠ CM)
    (suSR : PySem.W.subIn K (.ref CS) (.ref CR) = some false)
    (rVnSR : CS ≠ CR)
    (suMS : PySem.W.subIn K (.ref CM) (.ref CS) = some false)
    (rVnMS : CM ≠ CS)
    (suMR : PySem.W.subIn K (.ref CM) (.ref CR) = some false)
    (rVnMR : CM ≠ CR)
    (suRS : PySem.W.subIn K (.ref CR) (.ref CS) = some false)
    (rVnRS : CR ≠ CS)
    (suRM : PySem.W.subIn K (.ref CR) (.ref CM) = some false)
    (rVnRM : CR ≠ CM)
    (a_bag : PySem.W.nsIn K mainGlobals "_law_bag" = some (some (.ref f_bag)))
    (l_bag : K.lookup f_bag = some ⟨oc_bag, od_bag, .func (PySem.W.fnOf "_law_bag" "_law_bag" (defArgs sBag) (defBody sBag) (defScope sBag) .none kV_bag dc_bag pm_bag an_bag cd_bag ct_bag), sl_bag⟩)
    (c_bag : PySem.W.codeIn K cd_bag "_law_bag" = true)
    (k_bag : PySem.W.keepIn K (.ref f_bag) = true)
    (a_pull : PySem.W.nsIn K mainGlobals "_law_pull" = some (some (.ref f_pull)))
    (l_pull : K.lookup f_pull = some ⟨oc_pull, od_pull, .func (PySem.W.fnOf "_law_pull" "_law_pull" (defArgs sPull) (defBody sPull) (defScope sPull) .none kV_pull dc_pull pm_pull an_pull cd_pull ct_pull), sl_pull⟩)
    (c_pull : PySem.W.codeIn K cd_pull "_law_pull" = true)
    (k_pull : PySem.W.keepIn K (.ref f_pull) = true)
    (a_of : PySem.W.nsIn K mainGlobals "_law_of" = some (some (.ref f_of)))
    (l_of : K.lookup f_of = some ⟨oc_of, od_of, .func (PySem.W.fnOf "_law_of" "_law_of" (defArgs sOf) (defBody sOf) (defScope sOf) .none kV_of dc_of pm_of an_of cd_of ct_of), sl_of⟩)
    (c_of : PySem.W.codeIn K cd_of "_law_of" = true)
    (k_of : PySem.W.keepIn K (.ref f_of) = true)
    (a_plan : PySem.W.nsIn K mainGlobals "_law_plan" = some (some (.ref f_plan)))
    (l_plan : K.lookup f_plan = some ⟨oc_plan, od_plan, .func (PySem.W.fnOf "_law_plan" "_law_plan" (defArgs sPlan) (defBody sPlan) (defScope sPlan) .none kV_plan dc_plan pm_plan an_plan cd_plan ct_plan), sl_plan⟩)
    (c_plan : PySem.W.codeIn K cd_plan "_law_plan" = true)
    (k_plan : PySem.W.keepIn K (.ref f_plan) = true)
    (a_like : PySem.W.nsIn K mainGlobals "_law_like" = some (some (.ref f_like)))
    (l_like : K.lookup f_like = some ⟨oc_like, od_like, .func (PySem.W.fnOf "_law_like" "_law_like" (defArgs sLike) (defBody sLike) (defScope sLike) .none kV_like dc_like pm_like an_like cd_like ct_like), sl_like⟩)
    (c_like : PySem.W.codeIn K cd_like "_law_like" = true)
    (k_like : PySem.W.keepIn K (.ref f_like) = true)
    (a_numt : PySem.W.nsIn K mainGlobals "numbers_text" = some (some (.ref f_numt)))
    (l_numt : K.lookup f_numt = some ⟨oc_numt, od_numt, .func (PySem.W.fnOf "numbers_text" "numbers_text" (defArgs sNumT) (defBody sNumT) (defScope sNumT) .none kV_numt dc_numt pm_numt an_numt cd_numt ct_numt), sl_numt⟩)
    (c_numt : PySem.W.codeIn K cd_numt "numbers_text" = true)
    (k_numt : PySem.W.keepIn K (.ref f_numt) = true)
    (a_iniS : PySem.W.findIn K (.ref CS) "__init__" = some (some (.ref f_iniS)))
    (i_iniS : PySem.W.isFn K (.ref f_iniS) = true)
    (l_iniS : K.lookup f_iniS = some ⟨oc_iniS, od_iniS, .func (PySem.W.fnOf "__init__" "Split.__init__" (defArgs sIniS) (defBody sIniS) (defScope sIniS) .none kV_iniS dc_iniS pm_iniS an_iniS cd_iniS ct_iniS), sl_iniS⟩)
    (c_iniS : PySem.W.codeIn K cd_iniS "Split.__init__" = true)
    (k_iniS : PySem.W.keepIn K (.ref f_iniS) = true)
    (a_eqS : PySem.W.findIn K (.ref CS) "__eq__" = some (some (.ref f_eqS)))
    (i_eqS : PySem.W.isFn K (.ref f_eqS) = true)
    (l_eqS : K.lookup f_eqS = some ⟨oc_eqS, od_eqS, .func (PySem.W.fnOf "__eq__" "Split.__eq__" (defArgs sEqS) (defBody sEqS) (defScope sEqS) .none kV_eqS dc_eqS pm_eqS an_eqS cd_eqS ct_eqS), sl_eqS⟩)
    (c_eqS : PySem.W.codeIn K cd_eqS "Split.__eq__" = true)
    (k_eqS : PySem.W.keepIn K (.ref f_eqS) = true)
    (a_txtS : PySem.W.findIn K (.ref CS) "text" = some (some (.ref f_txtS)))
    (i_txtS : PySem.W.isFn K (.ref f_txtS) = true)
    (l_txtS : K.lookup f_txtS = some ⟨oc_txtS, od_txtS, .func (PySem.W.fnOf "text" "Split.text" (defArgs sTxtS) (defBody sTxtS) (defScope sTxtS) .none kV_txtS dc_txtS pm_txtS an_txtS cd_txtS ct_txtS), sl_txtS⟩)
    (c_txtS : PySem.W.codeIn K cd_txtS "Split.text" = true)
    (k_txtS : PySem.W.keepIn K (.ref f_txtS) = true)
    (a_iniM : PySem.W.findIn K (.ref CM) "__init__" = some (some (.ref f_iniM)))
    (i_iniM : PySem.W.isFn K (.ref f_iniM) = true)
    (l_iniM : K.lookup f_iniM = some ⟨oc_iniM, od_iniM, .func (PySem.W.fnOf "__init__" "Merge.__init__" (defArgs sIniM) (defBody sIniM) (defScope sIniM) .none kV_iniM dc_iniM pm_iniM an_iniM cd_iniM ct_iniM), sl_iniM⟩)
    (c_iniM : PySem.W.codeIn K cd_iniM "Merge.__init__" = true)
    (k_iniM : PySem.W.keepIn K (.ref f_iniM) = true)
    (a_eqM : PySem.W.findIn K (.ref CM) "__eq__" = some (some (.ref f_eqM)))
    (i_eqM : PySem.W.isFn K (.ref f_eqM) = true)
    (l_eqM : K.lookup f_eqM = some ⟨oc_eqM, od_eqM, .func (PySem.W.fnOf "__eq__" "Merge.__eq__" (defArgs sEqM) (defBody sEqM) (defScope sEqM) .none kV_eqM dc_eqM pm_eqM an_eqM cd_eqM ct_eqM), sl_eqM⟩)
    (c_eqM : PySem.W.codeIn K cd_eqM "Merge.__eq__" = true)
    (k_eqM : PySem.W.keepIn K (.ref f_eqM) = true)
    (a_txtM : PySem.W.findIn K (.ref CM) "text" = some (some (.ref f_txtM)))
    (i_txtM : PySem.W.isFn K (.ref f_txtM) = true)
    (l_txtM : K.lookup f_txtM = some ⟨oc_txtM, od_txtM, .func (PySem.W.fnOf "text" "Merge.text" (defArgs sTxtM) (defBody sTxtM) (defScope sTxtM) .none kV_txtM dc_txtM pm_txtM an_txtM cd_txtM ct_txtM), sl_txtM⟩)
    (c_txtM : PySem.W.codeIn K cd_txtM "Merge.text" = true)
    (k_txtM : PySem.W.keepIn K (.ref f_txtM) = true)
    (a_iniR : PySem.W.findIn K (.ref CR) "__init__" = some (some (.ref f_iniR)))
    (i_iniR : PySem.W.isFn K (.ref f_iniR) = true)
    (l_iniR : K.lookup f_iniR = some ⟨oc_iniR, od_iniR, .func (PySem.W.fnOf "__init__" "Renaming.__init__" (defArgs sIniR) (defBody sIniR) (defScope sIniR) .none kV_iniR dc_iniR pm_iniR an_iniR cd_iniR ct_iniR), sl_iniR⟩)
    (c_iniR : PySem.W.codeIn K cd_iniR "Renaming.__init__" = true)
    (k_iniR : PySem.W.keepIn K (.ref f_iniR) = true)
    (a_eqR : PySem.W.findIn K (.ref CR) "__eq__" = some (some (.ref f_eqR)))
    (i_eqR : PySem.W.isFn K (.ref f_eqR) = true)
    (l_eqR : K.lookup f_eqR = some ⟨oc_eqR, od_eqR, .func (PySem.W.fnOf "__eq__" "Renaming.__eq__" (defArgs sEqR) (defBody sEqR) (defScope sEqR) .none kV_eqR dc_eqR pm_eqR an_eqR cd_eqR ct_eqR), sl_eqR⟩)
    (c_eqR : PySem.W.codeIn K cd_eqR "Renaming.__eq__" = true)
    (k_eqR : PySem.W.keepIn K (.ref f_eqR) = true)
    (a_txtR : PySem.W.findIn K (.ref CR) "text" = some (some (.ref f_txtR)))
    (i_txtR : PySem.W.isFn K (.ref f_txtR) = true)
    (l_txtR : K.lookup f_txtR = some ⟨oc_txtR, od_txtR, .func (PySem.W.fnOf "text" "Renaming.text" (defArgs sTxtR) (defBody sTxtR) (defScope sTxtR) .none kV_txtR dc_txtR pm_txtR an_txtR cd_txtR ct_txtR), sl_txtR⟩)
    (c_txtR : PySem.W.codeIn K cd_txtR "Renaming.text" = true)
    (k_txtR : PySem.W.keepIn K (.ref f_txtR) = true)
    (aMx : PySem.W.nsIn K mainGlobals "MAX_DIGITS" = some (some (.int 4 t4)))
    (a_isn : PySem.W.nsIn K mainGlobals "is_number" = some (some (.ref f_isn)))
    (l_isn : K.lookup f_isn = some ⟨oc_isn, od_isn, .func (PySem.W.fnOf "is_number" "is_number" (defArgs sIsNum) (defBody sIsNum) (defScope sIsNum) .none kV_isn dc_isn pm_isn an_isn cd_isn ct_isn), sl_isn⟩)
    (c_isn : PySem.W.codeIn K cd_isn "is_number" = true)
    (k_isn : PySem.W.keepIn K (.ref f_isn) = true)
    (a_pn : PySem.W.nsIn K mainGlobals "parse_number" = some (some (.ref f_pn)))
    (l_pn : K.lookup f_pn = some ⟨oc_pn, od_pn, .func (PySem.W.fnOf "parse_number" "parse_number" (defArgs sParN) (defBody sParN) (defScope sParN) .none kV_pn dc_pn pm_pn an_pn cd_pn ct_pn), sl_pn⟩)
    (c_pn : PySem.W.codeIn K cd_pn "parse_number" = true)
    (k_pn : PySem.W.keepIn K (.ref f_pn) = true)
    (a_pns : PySem.W.nsIn K mainGlobals "parse_numbers" = some (some (.ref f_pns)))
    (l_pns : K.lookup f_pns = some ⟨oc_pns, od_pns, .func (PySem.W.fnOf "parse_numbers" "parse_numbers" (defArgs sParNs) (defBody sParNs) (defScope sParNs) .none kV_pns dc_pns pm_pns an_pns cd_pns ct_pns), sl_pns⟩)
    (c_pns : PySem.W.codeIn K cd_pns "parse_numbers" = true)
    (k_pns : PySem.W.keepIn K (.ref f_pns) = true)
    (a_ps : PySem.W.nsIn K mainGlobals "parse_step" = some (some (.ref f_ps)))
    (l_ps : K.lookup f_ps = some ⟨oc_ps, od_ps, .func (PySem.W.fnOf "parse_step" "parse_step" (defArgs sParS) (defBody sParS) (defScope sParS) .none kV_ps dc_ps pm_ps an_ps cd_ps ct_ps), sl_ps⟩)
    (c_ps : PySem.W.codeIn K cd_ps "parse_step" = true)
    (k_ps : PySem.W.keepIn K (.ref f_ps) = true)
    (a_cnt : PySem.W.nsIn K mainGlobals "_law_counts" = some (some (.ref f_cnt)))
    (l_cnt : K.lookup f_cnt = some ⟨oc_cnt, od_cnt, .func (PySem.W.fnOf "_law_counts" "_law_counts" (defArgs sCnts) (defBody sCnts) (defScope sCnts) .none kV_cnt dc_cnt pm_cnt an_cnt cd_cnt ct_cnt), sl_cnt⟩)
    (c_cnt : PySem.W.codeIn K cd_cnt "_law_counts" = true)
    (k_cnt : PySem.W.keepIn K (.ref f_cnt) = true)
    (a_mgr : PySem.W.nsIn K mainGlobals "_law_mergers" = some (some (.ref f_mgr)))
    (l_mgr : K.lookup f_mgr = some ⟨oc_mgr, od_mgr, .func (PySem.W.fnOf "_law_mergers" "_law_mergers" (defArgs sMgrs) (defBody sMgrs) (defScope sMgrs) .none kV_mgr dc_mgr pm_mgr an_mgr cd_mgr ct_mgr), sl_mgr⟩)
    (c_mgr : PySem.W.codeIn K cd_mgr "_law_mergers" = true)
    (k_mgr : PySem.W.keepIn K (.ref f_mgr) = true)
    (a_shf : PySem.W.nsIn K mainGlobals "_law_shuffled" = some (some (.ref f_shf)))
    (l_shf : K.lookup f_shf = some ⟨oc_shf, od_shf, .func (PySem.W.fnOf "_law_shuffled" "_law_shuffled" (defArgs sShuf) (defBody sShuf) (defScope sShuf) .none kV_shf dc_shf pm_shf an_shf cd_shf ct_shf), sl_shf⟩)
    (c_shf : PySem.W.codeIn K cd_shf "_law_shuffled" = true)
    (k_shf : PySem.W.keepIn K (.ref f_shf) = true)
    (a_stf : PySem.W.nsIn K mainGlobals "_law_step_for" = some (some (.ref f_stf)))
    (l_stf : K.lookup f_stf = some ⟨oc_stf, od_stf, .func (PySem.W.fnOf "_law_step_for" "_law_step_for" (defArgs sStF) (defBody sStF) (defScope sStF) .none kV_stf dc_stf pm_stf an_stf cd_stf ct_stf), sl_stf⟩)
    (c_stf : PySem.W.codeIn K cd_stf "_law_step_for" = true)
    (k_stf : PySem.W.keepIn K (.ref f_stf) = true)
    (a_odd : PySem.W.nsIn K mainGlobals "_law_odd_step" = some (some (.ref f_odd)))
    (l_odd : K.lookup f_odd = some ⟨oc_odd, od_odd, .func (PySem.W.fnOf "_law_odd_step" "_law_odd_step" (defArgs sOdd) (defBody sOdd) (defScope sOdd) .none kV_odd dc_odd pm_odd an_odd cd_odd ct_odd), sl_odd⟩)
    (c_odd : PySem.W.codeIn K cd_odd "_law_odd_step" = true)
    (k_odd : PySem.W.keepIn K (.ref f_odd) = true)
    (a_stp : PySem.W.nsIn K mainGlobals "_law_step" = some (some (.ref f_stp)))
    (l_stp : K.lookup f_stp = some ⟨oc_stp, od_stp, .func (PySem.W.fnOf "_law_step" "_law_step" (defArgs sStp) (defBody sStp) (defScope sStp) .none kV_stp dc_stp pm_stp an_stp cd_stp ct_stp), sl_stp⟩)
    (c_stp : PySem.W.codeIn K cd_stp "_law_step" = true)
    (k_stp : PySem.W.keepIn K (.ref f_stp) = true)
    (a_stt : PySem.W.nsIn K mainGlobals "_law_step_text" = some (some (.ref f_stt)))
    (l_stt : K.lookup f_stt = some ⟨oc_stt, od_stt, .func (PySem.W.fnOf "_law_step_text" "_law_step_text" (defArgs sStT) (defBody sStT) (defScope sStT) .none kV_stt dc_stt pm_stt an_stt cd_stt ct_stt), sl_stt⟩)
    (c_stt : PySem.W.codeIn K cd_stt "_law_step_text" = true)
    (k_stt : PySem.W.keepIn K (.ref f_stt) = true)
    (a_law : PySem.W.nsIn K mainGlobals "law" = some (some (.ref f_law)))
    (l_law : K.lookup f_law = some ⟨oc_law, od_law, .func (PySem.W.fnOf "law" "law" (defArgs sLaw) (defBody sLaw) (defScope sLaw) .none kV_law dc_law pm_law an_law cd_law ct_law), sl_law⟩)
    (c_law : PySem.W.codeIn K cd_law "law" = true)
    (k_law : PySem.W.keepIn K (.ref f_law) = true) :
    ∃ fd : FuncData, (∀ (s : Shared) (v : Value), BindsTo s fd ⟨[v], []⟩ [("_law_script", v)]) ∧ ∀ base : Heap, K.In base → base.Ns mainGlobals mg → FnOk l.prog w K mg base CX0 9 fa fd ["_law_script"] (spLaw K) := by
  have e := hfa.symm.trans (PySem.W.mg_of X G a_law)
  cases e
  have T : Bi mg := ⟨PySem.W.mg_none_of X G z_len, PySem.W.mg_none_of X G z_list, PySem.W.mg_none_of X G z_tuple, PySem.W.mg_none_of X G z_bool, PySem.W.mg_none_of X G z_int, PySem.W.mg_none_of X G z_str, PySem.W.mg_none_of X G z_isinstance, PySem.W.mg_none_of X G z_all, PySem.W.mg_none_of X G z_zip, PySem.W.mg_none_of X G z_range⟩
  have clS : Cls K CS := ⟨pgS, hdS, poS, saS⟩
  have twS : Two K mg "Split" CS "state" "part" := ⟨clS, nAS, nBS, PySem.W.mg_of X G aCS, by decide +kernel, by decide +kernel⟩
  have inS : C8.InsC K CS := ⟨clS, haS, ihn, ihtk, hmS, kit_me⟩
  have clM : Cls K CM := ⟨pgM, hdM, poM, saM⟩
  have twM : Two K mg "Merge" CM "low" "high" := ⟨clM, nAM, nBM, PySem.W.mg_of X G aCM, by decide +kernel, by decide +kernel⟩
  have inM : C8.InsC K CM := ⟨clM, haM, ihn, ihtk, hmM, kit_me⟩
  have clR : Cls K CR := ⟨pgR, hdR, poR, saR⟩
  have twR : Two K mg "Renaming" CR "state_numbers" "edge_numbers" := ⟨clR, nAR, nBR, PySem.W.mg_of X G aCR, by decide +kernel, by decide +kernel⟩
  have inR : C8.InsC K CR := ⟨clR, haR, ihn, ihtk, hmR, kit_me⟩
  have G3 : Cl3 K mg CS CM CR := ⟨twS, twM, twR⟩
  have I3 : Is3 K CS CM CR := ⟨inS, inM, inR, kit_ref rVnMS icS tyS suMS, kit_ref rVnRS icS tyS suRS, kit_ref rVnSM icM tyM suSM, kit_ref rVnRM icM tyM suRM, kit_ref rVnSR icR tyR suSR, kit_ref rVnMR icR tyR suMR⟩
  have F_bag := fun_mk (st := sBag) l_bag c_bag k_bag
  have b_bag := F_bag.binds (ps := ["_law_script"]) fun _ _ _ _ _ _ us hl => match us, hl with | [_], _ => rfl
  have F_pull := fun_mk (st := sPull) l_pull c_pull k_pull
  have b_pull := F_pull.binds (ps := ["_law_bag_here", "_law_many"]) fun _ _ _ _ _ _ us hl => match us, hl with | [_, _], _ => rfl
  have F_of := fun_mk (st := sOf) l_of c_of k_of
  have b_of := F_of.binds (ps := ["_law_bag_here", "_law_things"]) fun _ _ _ _ _ _ us hl => match us, hl with | [_, _], _ => rfl
  have F_plan := fun_mk (st := sPlan) l_plan c_plan k_plan
  have b_plan := F_plan.binds (ps := ["_law_bag_here", "_law_most", "_law_many"]) fun _ _ _ _ _ _ us hl => match us, hl with | [_, _, _], _ => rfl
  have F_like := fun_mk (st := sLike) l_like c_like k_like
  have b_like := F_like.binds (ps := ["_law_found", "_law_due"]) fun _ _ _ _ _ _ us hl => match us, hl with | [_, _], _ => rfl
  have F_numt := fun_mk (st := sNumT) l_numt c_numt k_numt
  have b_numt := F_numt.binds (ps := ["numbers"]) fun _ _ _ _ _ _ us hl => match us, hl with | [_], _ => rfl
  have F_iniS := fun_mk (st := sIniS) l_iniS c_iniS k_iniS
  have b_iniS := F_iniS.binds (ps := ["self", "state", "part"]) fun _ _ _ _ _ _ us hl => match us, hl with | [_, _, _], _ => rfl
  have F_eqS := fun_mk (st := sEqS) l_eqS c_eqS k_eqS
  have b_eqS := F_eqS.binds (ps := ["self", "other"]) fun _ _ _ _ _ _ us hl => match us, hl with | [_, _], _ => rfl
  have F_txtS := fun_mk (st := sTxtS) l_txtS c_txtS k_txtS
  have b_txtS := F_txtS.binds (ps := ["self"]) fun _ _ _ _ _ _ us hl => match us, hl with | [_], _ => rfl
  have F_iniM := fun_mk (st := sIniM) l_iniM c_iniM k_iniM
  have b_iniM := F_iniM.binds (ps := ["self", "one", "other"]) fun _ _ _ _ _ _ us hl => match us, hl with | [_, _, _], _ => rfl
  have F_eqM := fun_mk (st := sEqM) l_eqM c_eqM k_eqM
  have b_eqM := F_eqM.binds (ps := ["self", "other"]) fun _ _ _ _ _ _ us hl => match us, hl with | [_, _], _ => rfl
  have F_txtM := fun_mk (st := sTxtM) l_txtM c_txtM k_txtM
  have b_txtM := F_txtM.binds (ps := ["self"]) fun _ _ _ _ _ _ us hl => match us, hl with | [_], _ => rfl
  have F_iniR := fun_mk (st := sIniR) l_iniR c_iniR k_iniR
  have b_iniR := F_iniR.binds (ps := ["self", "states", "edges"]) fun _ _ _ _ _ _ us hl => match us, hl with | [_, _, _], _ => rfl
  have F_eqR := fun_mk (st := sEqR) l_eqR c_eqR k_eqR
  have b_eqR := F_eqR.binds (ps := ["self", "other"]) fun _ _ _ _ _ _ us hl => match us, hl with | [_, _], _ => rfl
  have F_txtR := fun_mk (st := sTxtR) l_txtR c_txtR k_txtR
  have b_txtR := F_txtR.binds (ps := ["self"]) fun _ _ _ _ _ _ us hl => match us, hl with | [_], _ => rfl
  have F_isn := fun_mk (st := sIsNum) l_isn c_isn k_isn
  have b_isn := F_isn.binds (ps := ["text", "digits"]) fun _ _ _ _ _ _ us hl => match us, hl with | [_, _], _ => rfl
  have F_pn := fun_mk (st := sParN) l_pn c_pn k_pn
  have b_pn := F_pn.binds (ps := ["text"]) fun _ _ _ _ _ _ us hl => match us, hl with | [_], _ => rfl
  have F_pns := fun_mk (st := sParNs) l_pns c_pns k_pns
  have b_pns := F_pns.binds (ps := ["text", "sign"]) fun _ _ _ _ _ _ us hl => match us, hl with | [_, _], _ => rfl
  have F_ps := fun_mk (st := sParS) l_ps c_ps k_ps
  have b_ps := F_ps.binds (ps := ["text"]) fun _ _ _ _ _ _ us hl => match us, hl with | [_], _ => rfl
  have F_cnt := fun_mk (st := sCnts) l_cnt c_cnt k_cnt
  have b_cnt := F_cnt.binds (ps := ["_law_plan_here"]) fun _ _ _ _ _ _ us hl => match us, hl with | [_], _ => rfl
  have F_mgr := fun_mk (st := sMgrs) l_mgr c_mgr k_mgr
  have b_mgr := F_mgr.binds (ps := ["_law_plan_here"]) fun _ _ _ _ _ _ us hl => match us, hl with | [_], _ => rfl
  have F_shf := fun_mk (st := sShuf) l_shf c_shf k_shf
  have b_shf := F_shf.binds (ps := ["_law_bag_here", "_law_many"]) fun _ _ _ _ _ _ us hl => match us, hl with | [_, _], _ => rfl
  have F_stf := fun_mk (st := sStF) l_stf c_stf k_stf
  have b_stf := F_stf.binds (ps := ["_law_bag_here", "_law_plan_here"]) fun _ _ _ _ _ _ us hl => match us, hl with | [_, _], _ => rfl
  have F_odd := fun_mk (st := sOdd) l_odd c_odd k_odd
  have b_odd := F_odd.binds (ps := ["_law_bag_here", "_law_plan_here"]) fun _ _ _ _ _ _ us hl => match us, hl with | [_, _], _ => rfl
  have F_stp := fun_mk (st := sStp) l_stp c_stp k_stp
  have b_stp := F_stp.binds (ps := ["_law_step_here"]) fun _ _ _ _ _ _ us hl => match us, hl with | [_], _ => rfl
  have F_stt := fun_mk (st := sStT) l_stt c_stt k_stt
  have b_stt := F_stt.binds (ps := ["_law_step_here"]) fun _ _ _ _ _ _ us hl => match us, hl with | [_], _ => rfl
  have F_law := fun_mk (st := sLaw) l_law c_law k_law
  have b_law := F_law.binds (ps := ["_law_script"]) fun _ _ _ _ _ _ us hl => match us, hl with | [_], _ => rfl
  refine ⟨PySem.W.fnOf "law" "law" (defArgs sLaw) (defBody sLaw) (defScope sLaw) .none kV_law dc_law pm_law an_law cd_law ct_law, fun s v => .of_eq rfl, fun base _ _ => ?_⟩
  have cal_bag : C8.Cal l.prog w K mg base 1 "_law_bag" (spBag K) [] := ⟨f_bag, _, _, [], ok_bag (k := 0) F_bag T, PySem.W.mg_of X G a_bag, k_bag, b_bag, .nil⟩
  have cal_pull : C8.Cal l.prog w K mg base 1 "_law_pull" spPull [] := ⟨f_pull, _, _, [], ok_pull (k := 0) F_pull T.len, PySem.W.mg_of X G a_pull, k_pull, b_pull, .nil⟩
  have cal_of : C8.Cal l.prog w K mg base 2 "_law_of" (spOf K) [] := ⟨f_of, _, _, [], ok_of (k := 0) F_of T cal_pull, PySem.W.mg_of X G a_of, k_of, b_of, .nil⟩
  have cal_plan : C8.Cal l.prog w K mg base 2 "_law_plan" spPlan [] := ⟨f_plan, _, _, [], ok_plan (k := 0) F_plan T cal_pull, PySem.W.mg_of X G a_plan, k_plan, b_plan, .nil⟩
  have cal_like : C8.Cal l.prog w K mg base 1 "_law_like" (spLike 0) [] := ⟨f_like, _, _, [], like0 (k := 0) F_like, PySem.W.mg_of X G a_like, k_like, b_like, .nil⟩
  have cal_like : C8.Cal l.prog w K mg base 2 "_law_like" (spLike 1) [] := ⟨f_like, _, _, [], ok_like (n := 1) (k := 0) F_like T (fun _ => cal_like), PySem.W.mg_of X G a_like, k_like, b_like, .nil⟩
  have cal_like : C8.Cal l.prog w K mg base 3 "_law_like" (spLike 2) [] := ⟨f_like, _, _, [], ok_like (n := 2) (k := 1) F_like T (fun _ => cal_like), PySem.W.mg_of X G a_like, k_like, b_like, .nil⟩
  have cal_numt : C8.Cal l.prog w K mg base 1 "numbers_text" spNumT [] := ⟨f_numt, _, _, [], ok_numt (k := 0) F_numt T, PySem.W.mg_of X G a_numt, k_numt, b_numt, .nil⟩
  have m1 : C8.Mak l.prog w K mg base 1 "Split" CS (spIni1 CS CM CR) [] := ⟨f_iniS, _, _, [], ⟨mkS, a_iniS, i_iniS, kcS⟩, okIni1 (k := 0) F_iniS T G3, PySem.W.mg_of X G aCS, b_iniS, .nil⟩
  have t1 : C8.Met l.prog w K mg base 2 CS "text" (spTxt CS CM CR CS isS) [] := ⟨f_txtS, _, _, [], clS, ⟨a_txtS, i_txtS, k_txtS⟩, okTxt1 (k := 0) F_txtS G3 cal_numt, b_txtS, .nil⟩
  have k1 : KC l.prog w K mg base CS CM CR CS isS := ⟨⟨f_eqS, _, a_eqS, i_eqS, okEq1 (k := 0) F_eqS T G3 I3, b_eqS⟩, neS, ⟨_, _, _, _, _, _, _, _, _, _, _, _, _, _, _, _, _, xLS, rVS⟩, ⟨d_NoneType_S, d_int_S, d_list_S, d_tuple_S, d_str_S⟩, kit_no icS tyS u_NoneType_S, kit_no icS tyS u_int_S, kit_no icS tyS u_tuple_S, kit_no icS tyS u_str_S, nf_me, nf_sub suMS, nf_sub suRS⟩
  have m2 : C8.Mak l.prog w K mg base 1 "Merge" CM (spIni2 CS CM CR) [] := ⟨f_iniM, _, _, [], ⟨mkM, a_iniM, i_iniM, kcM⟩, okIni2 (k := 0) F_iniM G3, PySem.W.mg_of X G aCM, b_iniM, .nil⟩
  have t2 : C8.Met l.prog w K mg base 1 CM "text" (spTxt CS CM CR CM isM) [] := ⟨f_txtM, _, _, [], clM, ⟨a_txtM, i_txtM, k_txtM⟩, okTxt2 (k := 0) F_txtM G3, b_txtM, .nil⟩
  have k2 : KC l.prog w K mg base CS CM CR CM isM := ⟨⟨f_eqM, _, a_eqM, i_eqM, okEq2 (k := 0) F_eqM T G3 I3, b_eqM⟩, neM, ⟨_, _, _, _, _, _, _, _, _, _, _, _, _, _, _, _, _, xLM, rVM⟩, ⟨d_NoneType_M, d_int_M, d_list_M, d_tuple_M, d_str_M⟩, kit_no icM tyM u_NoneType_M, kit_no icM tyM u_int_M, kit_no icM tyM u_tuple_M, kit_no icM tyM u_str_M, nf_sub suSM, nf_me, nf_sub suRM⟩
  have m3 : C8.Mak l.prog w K mg base 1 "Renaming" CR (spIni3 CS CM CR) [] := ⟨f_iniR, _, _, [], ⟨mkR, a_iniR, i_iniR, kcR⟩, okIni3 (k := 0) F_iniR T G3, PySem.W.mg_of X G aCR, b_iniR, .nil⟩
  have t3 : C8.Met l.prog w K mg base 2 CR "text" (spTxt CS CM CR CR isR) [] := ⟨f_txtR, _, _, [], clR, ⟨a_txtR, i_txtR, k_txtR⟩, okTxt3 (k := 0) F_txtR G3 cal_numt, b_txtR, .nil⟩
  have k3 : KC l.prog w K mg base CS CM CR CR isR := ⟨⟨f_eqR, _, a_eqR, i_eqR, okEq3 (k := 0) F_eqR T G3 I3, b_eqR⟩, neR, ⟨_, _, _, _, _, _, _, _, _, _, _, _, _, _, _, _, _, xLR, rVR⟩, ⟨d_NoneType_R, d_int_R, d_list_R, d_tuple_R, d_str_R⟩, kit_no icR tyR u_NoneType_R, kit_no icR tyR u_int_R, kit_no icR tyR u_tuple_R, kit_no icR tyR u_str_R, nf_sub suSR, nf_sub suMR, nf_me⟩
  have cal_isn : C8.Cal l.prog w K mg base 1 "is_number" spIsNum [] := ⟨f_isn, _, _, [], ok_isnum (k := 0) F_isn T, PySem.W.mg_of X G a_isn, k_isn, b_isn, .nil⟩
  have cal_pn : C8.Cal l.prog w K mg base 2 "parse_number" spParN [] := ⟨f_pn, _, _, [], ok_parn (k := 0) F_pn T (PySem.W.mg_of X G aMx) cal_isn, PySem.W.mg_of X G a_pn, k_pn, b_pn, .nil⟩
  have cal_pns : C8.Cal l.prog w K mg base 3 "parse_numbers" spParNs [] := ⟨f_pns, _, _, [], ok_parns (k := 0) F_pns T cal_pn, PySem.W.mg_of X G a_pns, k_pns, b_pns, .nil⟩
  have cal_ps : C8.Cal l.prog w K mg base 4 "parse_step" (spParS CS CM CR) [] := ⟨f_ps, _, _, [], ok_pars (k := 0) F_ps T cal_pn cal_pns m1 m2 m3, PySem.W.mg_of X G a_ps, k_ps, b_ps, .nil⟩
  have cal_cnt : C8.Cal l.prog w K mg base 1 "_law_counts" spCnts [] := ⟨f_cnt, _, _, [], ok_cnts (k := 0) F_cnt T, PySem.W.mg_of X G a_cnt, k_cnt, b_cnt, .nil⟩
  have cal_mgr : C8.Cal l.prog w K mg base 2 "_law_mergers" spMgrs [] := ⟨f_mgr, _, _, [], ok_mgrs (k := 0) F_mgr T cal_cnt, PySem.W.mg_of X G a_mgr, k_mgr, b_mgr, .nil⟩
  have cal_shf : C8.Cal l.prog w K mg base 2 "_law_shuffled" spShuf [] := ⟨f_shf, _, _, [], ok_shuf (k := 0) F_shf T cal_pull, PySem.W.mg_of X G a_shf, k_shf, b_shf, .nil⟩
  have cal_stf : C8.Cal l.prog w K mg base 3 "_law_step_for" spStF [] := ⟨f_stf, _, _, [], ok_stf (k := 0) F_stf T cal_pull cal_of cal_mgr cal_shf, PySem.W.mg_of X G a_stf, k_stf, b_stf, .nil⟩
  have cal_odd : C8.Cal l.prog w K mg base 3 "_law_odd_step" spOdd [] := ⟨f_odd, _, _, [], ok_odd (k := 0) F_odd T (PySem.W.mg_none_of X G z_set) (PySem.W.mg_none_of X G z_sorted) cal_pull cal_of cal_shf, PySem.W.mg_of X G a_odd, k_odd, b_odd, .nil⟩
  have cal_stp : C8.Cal l.prog w K mg base 3 "_law_step" (spStp CS CM CR) [] := ⟨f_stp, _, _, [], ok_stp (k := 0) F_stp m1 m2 m3, PySem.W.mg_of X G a_stp, k_stp, b_stp, .nil⟩
  have cal_stt : C8.Cal l.prog w K mg base 1 "_law_step_text" spStT [] := ⟨f_stt, _, _, [], ok_stt (k := 0) F_stt T, PySem.W.mg_of X G a_stt, k_stt, b_stt, .nil⟩
  exact ok_law F_law ⟨T, cal_bag, cal_of, cal_plan, cal_stf, cal_odd, cal_stp, cal_stt, cal_like, cal_ps, t1, t2, t3, m1, m2, m3, k1, k2, k3⟩
theorem walk {l : PySem.W.OpenLaw} {q : Program} {loose : List Str} {XP : (Str → Option Value) → Heap → Prop} {YP : World → Heap → Prop} {d : DefRec} {K : Params → PySem.W.Frag} (hn : l.most = some 63) (hdf : d.params.defaults = [])
    (hY : ∀ (w : World) (h : Heap), YP w h → (K w.params).In h)
    (F : ∀ (w : World) (mg : Str → Option Value) (fa : Addr) (h : Heap), (K w.params).In h → h.Ns mainGlobals mg → mg d.name = some (.ref fa) →
      ∃ fd : FuncData, (∀ (s : Shared) (u : Value), BindsTo s fd ⟨[u], []⟩ [("_law_script", u)]) ∧ ∀ base : Heap, (K w.params).In base → base.Ns mainGlobals mg → FnOk l.prog w (K w.params) mg base CX0 9 fa fd ["_law_script"] (spLaw (K w.params))) :
    PySem.W.WalkO q loose XP YP l.row.toRowW d [] (fun f vs => PySem.call f vs) :=
  L2.walk_of (n := 63) (k := 9) (x := "_law_script") (CX := fun _ => CX0) (sp := fun w => spLaw (K w.params)) hn (by decide) hdf ⟨rfl, by decide, by decide⟩ hY F (fun _ _ a ns hl _ hS => ⟨a, ns, rfl, hS, hl, fun _ => rfl⟩) fun _ _ _ _ _ z => z
end Lw

open PySem PySem.W PyProof.Rows
set_option Elab.async false
set_option maxRecDepth 100000 in
set_option maxHeartbeats 0 in
theorem PySem.Challenge.cw_windowkin_k32_texts_and_equality_of_step_holds : PySem.Challenge.rw_windowkin_k32_texts_and_equality_of_step.Holds := by
  w_on; o_law; k_head; (case hw => w_witness2)
  k_fill
  refine Lw.walk (l := PySem.Challenge.rw_windowkin_k32_texts_and_equality_of_step) rfl rfl (fun w h Y => PySem.W.kIn_of Y) ?F
  case F =>
    intro w mg fa h KX G hmg
    refine' Lw.all_mk KX G hmg ?z_len ?z_list ?z_tuple ?z_bool ?z_int ?z_str ?z_isinstance ?z_all ?z_zip ?z_range ?z_set ?z_sorted ?ihn ?ihtk ?aCS ?pgS ?hdS ?poS ?saS ?mkS ?kcS ?nAS ?nBS ?haS ?hmS ?icS ?tyS ?neS ?u_NoneType_S ?u_int_S ?u_tuple_S ?u_str_S ?d_NoneType_S ?d_int_S ?d_list_S ?d_tuple_S ?d_str_S ?xLS ?rVS ?aCM ?pgM ?hdM ?poM ?saM ?mkM ?kcM ?nAM ?nBM ?haM ?hmM ?icM ?tyM ?neM ?u_NoneType_M ?u_int_M ?u_tuple_M ?u_str_M ?d_NoneType_M ?d_int_M ?d_list_M ?d_tuple_M ?d_str_M ?xLM ?rVM ?aCR ?pgR ?hdR ?poR ?saR ?mkR ?kcR ?nAR ?nBR ?haR ?hmR ?icR ?tyR ?neR ?u_NoneType_R ?u_int_R ?u_tuple_R ?u_str_R ?d_NoneType_R ?d_int_R ?d_list_R ?d_tuple_R ?d_str_R ?xLR ?rVR ?suSM ?rVnSM ?suSR ?rVnSR ?suMS ?rVnMS ?suMR ?rVnMR ?suRS ?rVnRS ?suRM ?rVnRM ?a_bag ?l_bag ?c_bag ?k_bag ?a_pull ?l_pull ?c_pull ?k_pull ?a_of ?l_of ?c_of ?k_of ?a_plan ?l_plan ?c_plan ?k_plan ?a_like ?l_like ?c_like ?k_like ?a_numt ?l_numt ?c_numt ?k_numt ?a_iniS ?i_iniS ?l_iniS ?c_iniS ?k_iniS ?a_eqS ?i_eqS ?l_eqS ?c_eqS ?k_eqS ?a_txtS ?i_txtS ?l_txtS ?c_txtS ?k_txtS ?a_iniM ?i_iniM ?l_iniM ?c_iniM ?k_iniM ?a_eqM ?i_eqM ?l_eqM ?c_eqM ?k_eqM ?a_txtM ?i_txtM ?l_txtM ?c_txtM ?k_txtM ?a_iniR ?i_iniR ?l_iniR ?c_iniR ?k_iniR ?a_eqR ?i_eqR ?l_eqR ?c_eqR ?k_eqR ?a_txtR ?i_txtR ?l_txtR ?c_txtR ?k_txtR ?aMx ?a_isn ?l_isn ?c_isn ?k_isn ?a_pn ?l_pn ?c_pn ?k_pn ?a_pns ?l_pns ?c_pns ?k_pns ?a_ps ?l_ps ?c_ps ?k_ps ?a_cnt ?l_cnt ?c_cnt ?k_cnt ?a_mgr ?l_mgr ?c_mgr ?k_mgr ?a_shf ?l_shf ?c_shf ?k_shf ?a_stf ?l_stf ?c_stf ?k_stf ?a_odd ?l_odd ?c_odd ?k_odd ?a_stp ?l_stp ?c_stp ?k_stp ?a_stt ?l_stt ?c_stt ?k_stt ?a_law ?l_law ?c_law ?k_law
    (case z_len => k_is)
    (case z_list => k_is)
    (case z_tuple => k_is)
    (case z_bool => k_is)
    (case z_int => k_is)
    (case z_str => k_is)
    (case z_isinstance => k_is)
    (case z_all => k_is)
    (case z_zip => k_is)
    (case z_range => k_is)
    (case z_set => k_is)
    (case z_sorted => k_is)
    (case ihn => k_is)
    (case ihtk => k_is)
    (case aCS => k_is)
    (case pgS => k_is)
    (case hdS => k_is)
    (case poS => k_is)
    (case saS => k_is)
    (case mkS => k_is)
    (case kcS => k_is)
    (case nAS => k_is)
    (case nBS => k_is)
    (case haS => k_is)
    (case hmS => k_is)
    (case icS => k_is)
    (case tyS => k_is)
    (case neS => k_is)
    (case u_NoneType_S => k_is)
    (case u_int_S => k_is)
    (case u_tuple_S => k_is)
    (case u_str_S => k_is)
    (case d_NoneType_S => k_is)
    (case d_int_S => k_is)
    (case d_list_S => k_is)
    (case d_tuple_S => k_is)
    (case d_str_S => k_is)
    (case xLS => k_is)
    (case rVS => first | rfl | decide +kernel | k_is)
    (case aCM => k_is)
    (case pgM => k_is)
    (case hdM => k_is)
    (case poM => k_is)
    (case saM => k_is)
    (case mkM => k_is)
    (case kcM => k_is)
    (case nAM => k_is)
    (case nBM => k_is)
    (case haM => k_is)
    (case hmM => k_is)
    (case icM => k_is)
    (case tyM => k_is)
    (case neM => k_is)
    (case u_NoneType_M => k_is)
    (case u_int_M => k_is)
    (case u_tuple_M => k_is)
    (case u_str_M => k_is)
    (case d_NoneType_M => k_is)
    (case d_int_M => k_is)
    (case d_list_M => k_is)
    (case d_tuple_M => k_is)
    (case d_str_M => k_is)
    (case xLM => k_is)
    (case rVM => first | rfl | decide +kernel | k_is)
    (case aCR => k_is)
    (case pgR => k_is)
    (case hdR => k_is)
    (case poR => k_is)
    (case saR => k_is)
    (case mkR => k_is)
    (case kcR => k_is)
    (case nAR => k_is)
    (case nBR => k_is)
    (case haR => k_is)
    (case hmR => k_is)
    (case icR => k_is)
    (case tyR => k_is)
    (case neR => k_is)
    (case u_NoneType_R => k_is)
    (case u_int_R => k_is)
    (case u_tuple_R => k_is)
    (case u_str_R => k_is)
    (case d_NoneType_R => k_is)
    (case d_int_R => k_is)
    (case d_list_R => k_is)
    (case d_tuple_R => k_is)
    (case d_str_R => k_is)
    (case xLR => k_is)
    (case rVR => first | rfl | decide +kernel | k_is)
    (case suSM => k_is)
    (case rVnSM => first | rfl | decide +kernel | k_is)
    (case suSR => k_is)
    (case rVnSR => first | rfl | decide +kernel | k_is)
    (case suMS => k_is)
    (case rVnMS => first | rfl | decide +kernel | k_is)
    (case suMR => k_is)
    (case rVnMR => first | rfl | decide +kernel | k_is)
    (case suRS => k_is)
    (case rVnRS => first | rfl | decide +kernel | k_is)
    (case suRM => k_is)
    (case rVnRM => first | rfl | decide +kernel | k_is)
    (case a_bag => k_is)
    (case l_bag => k_is)
    (case c_bag => k_is)
    (case k_bag => k_is)
    (case a_pull => k_is)
    (case l_pull => k_is)
    (case c_pull => k_is)
    (case k_pull => k_is)
    (case a_of => k_is)
    (case l_of => k_is)
    (case c_of => k_is)
    (case k_of => k_is)
    (case a_plan => k_is)
    (case l_plan => k_is)
    (case c_plan => k_is)
    (case k_plan => k_is)
    (case a_like => k_is)
    (case l_like => k_is)
    (case c_like => k_is)
    (case k_like => k_is)
    (case a_numt => k_is)
    (case l_numt => k_is)
    (case c_numt => k_is)
    (case k_numt => k_is)
    (case a_iniS => k_is)
    (case i_iniS => k_is)
    (case l_iniS => k_is)
    (case c_iniS => k_is)
    (case k_iniS => k_is)
    (case a_eqS => k_is)
    (case i_eqS => k_is)
    (case l_eqS => k_is)
    (case c_eqS => k_is)
    (case k_eqS => k_is)
    (case a_txtS => k_is)
    (case i_txtS => k_is)
    (case l_txtS => k_is)
    (case c_txtS => k_is)
    (case k_txtS => k_is)
    (case a_iniM => k_is)
    (case i_iniM => k_is)
    (case l_iniM => k_is)
    (case c_iniM => k_is)
    (case k_iniM => k_is)
    (case a_eqM => k_is)
    (case i_eqM => k_is)
    (case l_eqM => k_is)
    (case c_eqM => k_is)
    (case k_eqM => k_is)
    (case a_txtM => k_is)
    (case i_txtM => k_is)
    (case l_txtM => k_is)
    (case c_txtM => k_is)
    (case k_txtM => k_is)
    (case a_iniR => k_is)
    (case i_iniR => k_is)
    (case l_iniR => k_is)
    (case c_iniR => k_is)
    (case k_iniR => k_is)
    (case a_eqR => k_is)
    (case i_eqR => k_is)
    (case l_eqR => k_is)
    (case c_eqR => k_is)
    (case k_eqR => k_is)
    (case a_txtR => k_is)
    (case i_txtR => k_is)
    (case l_txtR => k_is)
    (case c_txtR => k_is)
    (case k_txtR => k_is)
    (case aMx => k_is)
    (case a_isn => k_is)
    (case l_isn => k_is)
    (case c_isn => k_is)
    (case k_isn => k_is)
    (case a_pn => k_is)
    (case l_pn => k_is)
    (case c_pn => k_is)
    (case k_pn => k_is)
    (case a_pns => k_is)
    (case l_pns => k_is)
    (case c_pns => k_is)
    (case k_pns => k_is)
    (case a_ps => k_is)
    (case l_ps => k_is)
    (case c_ps => k_is)
    (case k_ps => k_is)
    (case a_cnt => k_is)
    (case l_cnt => k_is)
    (case c_cnt => k_is)
    (case k_cnt => k_is)
    (case a_mgr => k_is)
    (case l_mgr => k_is)
    (case c_mgr => k_is)
    (case k_mgr => k_is)
    (case a_shf => k_is)
    (case l_shf => k_is)
    (case c_shf => k_is)
    (case k_shf => k_is)
    (case a_stf => k_is)
    (case l_stf => k_is)
    (case c_stf => k_is)
    (case k_stf => k_is)
    (case a_odd => k_is)
    (case l_odd => k_is)
    (case c_odd => k_is)
    (case k_odd => k_is)
    (case a_stp => k_is)
    (case l_stp => k_is)
    (case c_stp => k_is)
    (case k_stp => k_is)
    (case a_stt => k_is)
    (case l_stt => k_is)
    (case c_stt => k_is)
    (case k_stt => k_is)
    (case a_law => k_is)
    (case l_law => k_is)
    (case c_law => k_is)
    (case k_law => k_is)

